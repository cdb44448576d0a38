/- The document's Make of layer 10. -/
import Derived.Test.YtimjdlbhbiklgaaTrieRefD
import Derived.Test.YtimjdlbhbiklgaaPackQ
import Derived.Test.YtimjdlbhbiklgaaPackG
import Derived.Deep.RegionHeld3
namespace Go.Proofs.Ytimjdlbhbiklgaa
open Go.RowKit Tri

/-- what Make answers -/
def MadeIs (w w' : World) (e : Ending) (p : List St × Int) : Prop :=
  ∃ a n c ys, e = .returned (.tuple #[.slice a n c, .int .i64 p.2]) ∧ Ss w' a n c ys ∧ sts ys = p.1 ∧ (a = none → c = 0) ∧ Below w.heap.size w w'
noncomputable def made (ws : List (List Int)) : List St × Int := if (Wl.write ws).2 = 0 then (make ws, 0) else ([], (Wl.write ws).2)
set_option maxRecDepth 100000 in
theorem info_st : (Try.prog.info? 47).map (·.size) = some 2 := by kernel_rfl
set_option maxRecDepth 100000 in
theorem Ars.far {w w' : World} {a : Option Addr} {n cap : Nat} {l : List (Int × Int)} {k : Option Nat} (h : Ars w a n cap l) (hg : w.grownBy w' k) (hne : ∀ b off, a = some ⟨b, off, none⟩ → k ≠ some b) : Ars w' a n cap l := by
  obtain ⟨h1, h2, h3, h4, h5⟩ := h
  refine ⟨h1, h2, h3, h4, ?_⟩
  rcases h5 with h5 | ⟨b, off, ha, hc⟩
  · exact .inl h5
  · exact .inr ⟨b, off, ha, fun i hi => ⟨hg.cell (hc i hi).1 (fun e => hne b off ha e.symm), hg.cell (hc i hi).2 (fun e => hne b off ha e.symm)⟩⟩
set_option maxRecDepth 100000 in
theorem owns_at {w : World} {B : Nat} {T : TypeId} {s : Nat} {a : Option Addr} {c n : Nat} {l : List Value} (h : w.ownsRow B T s (.slice a n c) n l) : n = 0 ∨ ∃ b, a = some ⟨b, 0, none⟩ ∧ B ≤ b ∧ b < w.heap.size := by
  rcases h.2 with ⟨_, h0⟩ | ⟨g, c', cur, hv, hb, _⟩
  · exact .inl h0
  · simp only [Value.slice.injEq] at hv
    obtain ⟨rfl, _, _⟩ := hv
    exact .inr ⟨g, rfl, (h.lt g rfl).1, (h.lt g rfl).2⟩
set_option maxRecDepth 100000 in
theorem begs_short {ws : List (List Int)} (hs : Tri.Short ws) {p : List Int} (hp : p ∈ begs ws) : p.length ≤ 20 := by
  rcases (mem_begs hs).1 hp with rfl | ⟨w, hw, h⟩
  · simp
  · exact Nat.le_trans h.length_le (hs w hw)
set_option maxRecDepth 100000 in
theorem make_take {ws : List (List Int)} {i : Nat} {p : List Int} {f : Bool} (hi : i < (begs ws).length) (hp : (begs ws).getD i [] = p) (hf : decide (p ∈ ws) = f) : (make ws).take (i + 1) = (make ws).take i ++ [⟨f, arcsOf (begs ws) p⟩] := by
  have hl := make_length ws
  have hi' : i < (make ws).length := by omega
  rw [List.take_succ_eq_append_getElem hi', make_at hi']
  have e : (begs ws)[i] = p := by rw [← hp]; simp [hi]
  simp only [e, hf]

end Go.Proofs.Ytimjdlbhbiklgaa
