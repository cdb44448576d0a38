/- The program's tellClass of layer 7, and allFit. -/
import Derived.Test.YtdeicfdbjmpliaaSpecTellB
import Derived.StillTailTactics
namespace Go.Proofs.Ytdeicfdbjmpliaa
open Go.RowKit

set_option maxRecDepth 100000 in
set_option maxHeartbeats 800000 in
theorem wpList_store_told {ops : Array Oper} {rest : List Oper} {o : Oper} {act : Act} {w : World} {Q : Exit → Act → World → Prop} (hgd : o.guard = none) (x y : Operand) (ho : o.op = .store 29 x y) (g : Nat) (u0 u1 : Value) (a : Option Addr) (n c : Nat)
    (hx : act.eval x = .pointer (some ⟨g, 1, none⟩)) (hy : act.eval y = .slice a n c) (t : TypeId) (hg : w.heap[g]? = some (.cells #[u0, u1] t (0, 0)))
    (h : ∀ w', w'.heap[g]? = some (.cells #[u0, .slice a n c] t (0, 0)) → w.grownBy w' (some g) → w'.heap.size = w.heap.size → wpList Try.prog ops Q rest (act.put o.dst undef) w') : wpList Try.prog ops Q (o :: rest) act w := by
  have hc : w.cell? ⟨g, 1, none⟩ = some u1 := by simp [World.cell?, hg]
  have hf : w.frozen? ⟨g, 1, none⟩ = false := by simp [World.frozen?, hg]
  have hlt : g < w.heap.size := (Array.getElem?_eq_some_iff.1 hg).1
  have hset : (w.setCell ⟨g, 1, none⟩ (.slice a n c)).heap[g]? = some (.cells #[u0, .slice a n c] t (0, 0)) := by
    simp [World.setCell, Array.getElem?_modify, hg]
  have hgr : w.grownBy (w.setCell ⟨g, 1, none⟩ (.slice a n c)) (some g) := ⟨rfl, rfl, rfl, by simp [World.setCell], fun k _ hne => Below.heap_setCell w ⟨g, 1, none⟩ _ k (fun e => hne (by rw [e]))⟩
  have hK' := h _ hset hgr (by simp [World.setCell])
  refine wpList_plain hgd fun K' hK => ?_
  have hrun : (execOp act.eval o).run Try.prog w = .ok (.value undef) (w.setCell ⟨g, 1, none⟩ (.slice a n c)) ∨ (execOp act.eval o).run Try.prog w = .ok .skip (w.setCell ⟨g, 1, none⟩ (.slice a n c)) := by
    simp only [execOp, ho, hx, hy]
    go_simp
  unfold Oper.wp
  rcases hrun with hr | hr <;> rw [hr]
  · exact hK _ _ hK'
  · exact hK _ _ hK'

def nilSpec : Obj := .cells #[.slice none 0 0, .slice none 0 0] 32 (0, 0)
/-- the rules told so far, in the second block that the call has made; the first is the answer's, as it was made; their row lies at B or beyond -/
def Tl (w W : World) (B : Nat) (outs : List Rw) : Prop :=
  ∃ a c, W.heap[w.heap.size + 1]? = some (.cells #[.slice none 0 0, .slice a outs.length c] 32 (0, 0)) ∧ Acc B W (.slice a outs.length c) outs ∧ (∀ x ∈ outs, x.High (w.heap.size + 2)) ∧
    W.heap[w.heap.size]? = some nilSpec ∧ Below w.heap.size w W ∧ w.heap.size + 2 ≤ B ∧ B ≤ W.heap.size
set_option maxRecDepth 100000 in
theorem Rw.High.mono {B B' : Nat} {x : Rw} (h : x.High B) (hB : B' ≤ B) : x.High B' := by
  obtain ⟨p, q, h1, h2, h3, h4⟩ := h
  exact ⟨p, q, h1, h2, Nat.le_trans hB h3, Nat.le_trans hB h4⟩
set_option maxRecDepth 100000 in
theorem Tl.call {w W : World} {B : Nat} {outs : List Rw} (h : Tl w W B outs) :
    ∃ a c, W.cell? ⟨w.heap.size + 1, 1, none⟩ = some (.slice a outs.length c) ∧ Acc B W.drew (.slice a outs.length c) outs ∧ B ≤ W.drew.heap.size ∧
      ∀ (W5 : World) (v' : Value) (zs : List Rw), (∀ z ∈ zs, z.High W.drew.heap.size) → Acc B W5 v' (outs ++ zs) → W.drew.grownBy W5 (Value.slice a outs.length c).ownBlock →
        ∃ a' c' M, v' = .slice a' M c' ∧ W5.heap[w.heap.size + 1]? = some (.cells #[.slice none 0 0, .slice a outs.length c] 32 (0, 0)) ∧
          ∀ W6 : World, W6.heap[w.heap.size + 1]? = some (.cells #[.slice none 0 0, .slice a' M c'] 32 (0, 0)) → W5.grownBy W6 (some (w.heap.size + 1)) → Tl w W6 B (outs ++ zs) ∧
            ∀ W1 : World, W1.heap.size ≤ B → W1.grownBy W (some (w.heap.size + 1)) → W1.grownBy W6 (some (w.heap.size + 1)) := by
  obtain ⟨a, c, h1, h2, h3, h4, h5, h7, h6⟩ := h
  refine ⟨a, c, by simp [World.cell?, h1], h2.drawn ⟨1, rfl⟩, h6, fun W5 v' zs hz hacc hgr => ?_⟩
  have hrow : ∀ g, (Value.slice a outs.length c).ownBlock = some g → B ≤ g := fun g hg => (h2.row g hg).1
  have hrow' : ∀ g, v'.ownBlock = some g → B ≤ g := fun g hg => (hacc.row g hg).1
  have k1 : W5.heap[w.heap.size + 1]? = some (.cells #[.slice none 0 0, .slice a outs.length c] 32 (0, 0)) := (hgr.block _ (show w.heap.size + 1 < W.heap.size by omega) (fun e => by have := hrow _ e.symm; omega)).trans h1
  have k0 : W5.heap[w.heap.size]? = some nilSpec := (hgr.block _ (show w.heap.size < W.heap.size by omega) (fun e => by have := hrow _ e.symm; omega)).trans h4
  have kb : Below w.heap.size w W5 := ⟨hgr.os.trans h5.os, hgr.tape.trans h5.tape, hgr.output.trans h5.output, Nat.le_trans h5.size hgr.size, fun k hk => (hgr.block k (show k < W.heap.size by have := h5.size; omega) (fun e => by have := hrow _ e.symm; omega)).trans (h5.block k hk)⟩
  obtain ⟨a', c', rfl, _, _⟩ := hacc.form
  refine ⟨a', c', _, rfl, k1, fun W6 e1 g6 => ⟨⟨a', c', e1, ?_, ?_, ?_, ?_, h7, ?_⟩, fun W1 hW1 g1 => ?_⟩⟩
  · refine ⟨hacc.1.kept g6 (.inr (fun e => by have := hrow' _ e; omega)), fun x hx => ⟨(hacc.2 x hx).1.grown g6 ?_, (hacc.2 x hx).2⟩⟩
    have hh : x.High (w.heap.size + 2) := by
      rcases List.mem_append.1 hx with hx | hx
      · exact h3 x hx
      · exact (hz x hx).mono (Nat.le_trans h7 h6)
    exact hh.far (fun g hg => by cases hg; omega)
  · intro x hx
    rcases List.mem_append.1 hx with hx | hx
    · exact h3 x hx
    · exact (hz x hx).mono (Nat.le_trans h7 h6)
  · exact (g6.block _ (by have h1 : W.heap.size ≤ W5.heap.size := hgr.size; omega) (fun e => by have := Option.some.inj e; omega)).trans k0
  · exact kb.grown g6 kb.size (fun k hk => by cases hk; omega)
  · exact Nat.le_trans h6 (Nat.le_trans hgr.size g6.size)
  · refine ⟨g6.os.trans (hgr.os.trans g1.os), g6.tape.trans (hgr.tape.trans g1.tape), g6.output.trans (hgr.output.trans g1.output), Nat.le_trans g1.size (Nat.le_trans hgr.size g6.size), fun k hk hne => ?_⟩
    have hkW : k < W.heap.size := Nat.lt_of_lt_of_le hk g1.size
    have hkW5 : k < W5.heap.size := Nat.lt_of_lt_of_le hkW hgr.size
    exact (g6.block k hkW5 hne).trans ((hgr.block k hkW (fun e => by have := hrow _ e.symm; omega)).trans (g1.block k hk hne))

end Go.Proofs.Ytdeicfdbjmpliaa
