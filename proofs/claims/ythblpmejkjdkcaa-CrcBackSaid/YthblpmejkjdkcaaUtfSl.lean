/- A slice of numbers as the walks are told of it, whether it came in, was made by the call, or is a piece of another: its numbers, and the cells that hold them. Nothing of the program. -/
import Derived.WalkKit
import Derived.ProofKit
import Derived.Deep.QuietTactic
namespace Go.Proofs.Ythblpmejkjdkcaa
open Go.RowKit

def u8s (l : List Int) : List Value := l.map (.int .u8)
set_option maxRecDepth 100000 in
theorem u8s_snoc (xs : List Int) (b : Int) : u8s xs ++ [.int .u8 b] = u8s (xs ++ [b]) := by simp [u8s]
def i64s (l : List Int) : List Value := l.map (.int .i64)
set_option maxRecDepth 100000 in
theorem i64s_snoc (xs : List Int) (b : Int) : i64s xs ++ [.int .i64 b] = i64s (xs ++ [b]) := by simp [i64s]

def u64s (l : List Int) : List Value := l.map (.int .u64)
set_option maxRecDepth 100000 in
theorem u64s_snoc (xs : List Int) (b : Int) : u64s xs ++ [.int .u64 b] = u64s (xs ++ [b]) := by simp [u64s]
set_option maxRecDepth 100000 in
theorem u64s_app (xs ys : List Int) : u64s xs ++ u64s ys = u64s (xs ++ ys) := by simp [u64s]

/-- the slice (a, n, cap) reads as the numbers zs in the world w -/
def Sl (k : IntKind) (w : World) (a : Option Addr) (n cap : Nat) (zs : List Int) : Prop :=
  zs.length = n ∧ n ≤ cap ∧ cap ≤ maxLen ∧ (∀ z ∈ zs, (Lit.int k z).wf = true) ∧
    (n = 0 ∨ ∃ b off, a = some ⟨b, off, none⟩ ∧ ∀ i, i < n → w.cell? ⟨b, off + i, none⟩ = some (.int k (zs.getD i 0)))

set_option maxRecDepth 100000 in
theorem cell_lt {w : World} {b o : Nat} {v : Value} (h : w.cell? ⟨b, o, none⟩ = some v) : b < w.heap.size := by
  rcases Nat.lt_or_ge b w.heap.size with hlt | hge
  · exact hlt
  · rw [World.cell?] at h; simp [Array.getElem?_eq_none hge] at h

set_option maxRecDepth 100000 in
theorem Sl.below {k : IntKind} {w w' : World} {a : Option Addr} {n cap B : Nat} {zs : List Int} (h : Sl k w a n cap zs) (hb : Below B w w') (hB : w.heap.size ≤ B) : Sl k w' a n cap zs := by
  obtain ⟨h1, h2, h3, h4, h5⟩ := h
  refine ⟨h1, h2, h3, h4, ?_⟩
  rcases h5 with h5 | ⟨b, off, ha, hc⟩
  · exact .inl h5
  · refine .inr ⟨b, off, ha, fun i hi => ?_⟩
    have hci := hc i hi
    have hlt := cell_lt hci
    rw [hb.cell (p := ⟨b, off + i, none⟩) (by show b < B; omega)]
    exact hci

set_option maxRecDepth 100000 in
theorem Sl.of_owns {k : IntKind} {w : World} {B : Nat} {T : TypeId} {a : Option Addr} {n cap : Nat} {zs : List Int}
    (h : w.ownsRow B T 1 (.slice a n cap) n (zs.map (.int k))) (hw : ∀ z ∈ zs, (Lit.int k z).wf = true) (hl : zs.length = n) : Sl k w a n cap zs := by
  have h' := h
  obtain ⟨_, h2⟩ := h
  rcases h2 with ⟨hv, h0⟩ | ⟨g, c, cur, hv, hg, hh, hnc, hcm, hcs, ht⟩
  · simp only [Value.slice.injEq] at hv
    obtain ⟨rfl, rfl, rfl⟩ := hv
    exact ⟨hl, Nat.le_refl _, by unfold maxLen; omega, hw, .inl rfl⟩
  · simp only [Value.slice.injEq] at hv
    obtain ⟨rfl, _, rfl⟩ := hv
    refine ⟨hl, hnc, hcm, hw, .inr ⟨g, 0, rfl, fun i hi => ?_⟩⟩
    rw [Nat.zero_add, h'.cellAt i (by omega)]
    simp [hl, hi]

set_option maxRecDepth 100000 in
/-- the shell's own word for a slice that came in -/
theorem Sl.of_row {k : IntKind} {w : World} {a : Option Addr} {len cap : Nat} {zs : List Int}
    (h : (a = none ∧ len = 0 ∧ cap = 0 ∧ zs = []) ∨ ∃ x, a = some x ∧ len ≤ cap ∧ cap ≤ maxLen ∧ zs.length = cap ∧ (∀ i, i < zs.length → w.cell? (x.add i) = some (.int k (zs.getD i 0))) ∧ ∀ n ∈ zs, (Lit.int k n).wf = true) :
    Sl k w a len cap (zs.take len) := by
  rcases h with ⟨rfl, rfl, rfl, rfl⟩ | ⟨x, rfl, hl, hm, hz, hcell, hwz⟩
  · exact ⟨rfl, Nat.le_refl _, by unfold maxLen; omega, by simp, .inl rfl⟩
  · refine ⟨by simp; omega, hl, hm, fun z hz' => hwz z (List.mem_of_mem_take hz'), ?_⟩
    rcases Nat.eq_zero_or_pos len with h0 | hp
    · exact .inl h0
    · obtain ⟨b, off, spot⟩ := x
      have hc := hcell 0 (by omega)
      have hspot : spot = none := by simpa [Addr.add] using World.cell?_spot hc
      subst hspot
      refine .inr ⟨b, off, rfl, fun i hi => ?_⟩
      have := hcell i (by omega)
      rw [show (⟨b, off, none⟩ : Addr).add i = ⟨b, off + i, none⟩ from by simp [Addr.add]] at this
      rw [this]
      simp [hi]

set_option maxRecDepth 100000 in
/-- a piece of it, from i on, j long -/
theorem Sl.piece {k : IntKind} {w : World} {b off n cap : Nat} {zs : List Int} (h : Sl k w (some ⟨b, off, none⟩) n cap zs) (i j : Nat) (hij : i + j ≤ n) :
    Sl k w (some ⟨b, off + i, none⟩) j (cap - i) ((zs.drop i).take j) := by
  obtain ⟨h1, h2, h3, h4, h5⟩ := h
  refine ⟨by simp; omega, by omega, by unfold maxLen at *; omega, fun z hz => h4 z (List.mem_of_mem_drop (List.mem_of_mem_take hz)), ?_⟩
  rcases h5 with h5 | ⟨b', off', ha, hc⟩
  · exact .inl (by omega)
  · simp only [Option.some.injEq, Addr.mk.injEq] at ha
    obtain ⟨rfl, rfl, _⟩ := ha
    refine .inr ⟨b, off + i, rfl, fun m hm => ?_⟩
    rw [Nat.add_assoc, hc (i + m) (by omega)]
    simp [hm]

set_option maxRecDepth 100000 in
theorem Sl.at {k : IntKind} {w : World} {a : Option Addr} {n cap : Nat} {zs : List Int} (h : Sl k w a n cap zs) (hn : 0 < n) :
    ∃ b off, a = some ⟨b, off, none⟩ ∧ b < w.heap.size ∧ ∀ i, i < n → w.cell? ⟨b, off + i, none⟩ = some (.int k (zs.getD i 0)) := by
  obtain ⟨h1, h2, h3, h4, h5⟩ := h
  rcases h5 with h5 | ⟨b, off, ha, hc⟩
  · omega
  · exact ⟨b, off, ha, cell_lt (hc 0 hn), hc⟩

set_option maxRecDepth 100000 in
theorem one_newp {w : World} {B : Nat} {v : Value} {t : TypeId} (hB : B = w.heap.size) : ∀ j u, [v][j]? = some u → (w.alloc (.cells #[v] t)).cell? ((⟨B, 0, none⟩ : Addr).add j) = some u := by
  subst hB
  intro j u hj
  match j, hj with
  | 0, hj => simp at hj; subst hj; simp [Addr.add]
set_option maxRecDepth 100000 in
theorem Sl.alloc {k : IntKind} {w : World} {a : Option Addr} {n cap : Nat} {zs : List Int} (h : Sl k w a n cap zs) (o : Obj) : Sl k (w.alloc o) a n cap zs :=
  h.below ((Below.refl w.heap.size w).alloc (Nat.le_refl _) o) (Nat.le_refl _)
set_option maxRecDepth 100000 in
theorem Sl.drew {k : IntKind} {w : World} {a : Option Addr} {n cap : Nat} {zs : List Int} (h : Sl k w a n cap zs) : Sl k w.drew a n cap zs := h
set_option maxRecDepth 100000 in
theorem Sl.drewN {k : IntKind} {w : World} {a : Option Addr} {n cap : Nat} {zs : List Int} (h : Sl k w a n cap zs) (m : Nat) : Sl k (w.drewN m) a n cap zs := h
set_option maxRecDepth 100000 in
theorem Sl.first {k : IntKind} {w : World} {b off n cap : Nat} {zs : List Int} (h : Sl k w (some ⟨b, off, none⟩) n cap zs) (j : Nat) (hj : j ≤ n) : Sl k w (some ⟨b, off, none⟩) j cap (zs.take j) := by
  have := h.piece 0 j (by omega)
  simpa using this
set_option maxRecDepth 100000 in
theorem ownsRow_below {w w' : World} {base : Nat} {e : TypeId} {size : Nat} {v : Value} {n : Nat} {xs : List Value} {B : Nat} (h : w.ownsRow base e size v n xs) (hb : Below B w w') (hB : w.heap.size ≤ B) : w'.ownsRow base e size v n xs := by
  obtain ⟨h1, h2⟩ := h
  refine ⟨h1, ?_⟩
  rcases h2 with h2 | ⟨g, cap, cur, hv, hg, hh, r⟩
  · exact .inl h2
  · have hlt : g < w.heap.size := by
      rcases Nat.lt_or_ge g w.heap.size with hlt | hge
      · exact hlt
      · rw [Array.getElem?_eq_none hge] at hh; cases hh
    exact .inr ⟨g, cap, cur, hv, hg, by rw [hb.block g (by omega)]; exact hh, r⟩
set_option maxRecDepth 100000 in
theorem take_same {xs ys : List Int} {j : Nat} (h : xs.take j = ys.take j) (hx : j < xs.length) (hy : j < ys.length) (e : xs.getD j 0 = ys.getD j 0) : xs.take (j + 1) = ys.take (j + 1) := by
  rw [List.take_succ_eq_append_getElem hx, List.take_succ_eq_append_getElem hy, h]
  simp [hx, hy] at e
  rw [e]
set_option maxRecDepth 100000 in
theorem below_over {w w1 w2 : World} {o : Obj} (h : Below w.heap.size w w1) (hb : Below (w1.alloc o).heap.size (w1.alloc o) w2) : Below w.heap.size w w2 :=
  (h.alloc h.size o).trans (hb.mono (by have := h.size; simp; omega))
set_option maxRecDepth 100000 in
theorem Sl.over {k : IntKind} {w1 w2 : World} {o : Obj} {a : Option Addr} {n cap : Nat} {zs : List Int} (h : Sl k w1 a n cap zs) (hb : Below (w1.alloc o).heap.size (w1.alloc o) w2) : Sl k w2 a n cap zs :=
  (h.alloc o).below hb (Nat.le_refl _)
set_option maxRecDepth 100000 in
theorem Sl.nil {k : IntKind} {w : World} : Sl k w none 0 0 [] := ⟨rfl, Nat.le_refl _, by unfold maxLen; omega, by simp, .inl rfl⟩
set_option maxRecDepth 100000 in
theorem Sl.drawn {k : IntKind} {w w' : World} {a : Option Addr} {n cap : Nat} {zs : List Int} (h : Sl k w a n cap zs) (hq : ∃ q, w' = w.drewN q) : Sl k w' a n cap zs := by
  obtain ⟨q, rfl⟩ := hq; exact h
set_option maxRecDepth 100000 in
theorem below_drawn {B : Nat} {w w1 w2 : World} (h : Below B w w1) (hq : ∃ q, w2 = w1.drewN q) : Below B w w2 := by
  obtain ⟨q, rfl⟩ := hq; exact ⟨h.os, h.tape, h.output, h.size, h.block⟩

end Go.Proofs.Ythblpmejkjdkcaa
