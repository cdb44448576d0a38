/- The document's Bare of layer 4. -/
import Derived.Test.YtflikfnehpaohaaLineRefB
namespace Go.Proofs.Ytflikfnehpaohaa
open Go.RowKit

set_option maxRecDepth 100000 in
/-- the first of some rows, and its first byte -/
theorem first_row {w : World} {a : Option Addr} {n cap : Nat} {xs : List Bd} {f : List Int} {fs : List (List Int)} (h : Bs w a n cap xs) (hf : bnums xs = f :: fs) (h0 : f ≠ []) :
    0 < n ∧ ∃ b off n1 c1 b1 o1, a = some ⟨b, off, none⟩ ∧ w.cell? ⟨b, off, none⟩ = some (.slice (some ⟨b1, o1, none⟩) n1 c1) ∧ 0 < n1 ∧ w.cell? ⟨b1, o1, none⟩ = some (.int .u8 (f.getD 0 0)) := by
  have hn : 0 < n := by
    have := congrArg List.length hf
    rw [bnums_length, h.1] at this
    simp at this; omega
  obtain ⟨b, off, a1, n1, c1, z1, rfl, _, _, hx1, hs1, hz1⟩ := h.one 0 hn
  obtain rfl : f = z1 := by rw [hf] at hz1; simpa using hz1
  have hn1 : 0 < n1 := by
    rcases Nat.eq_zero_or_pos n1 with hq | hq
    · exact absurd (List.eq_nil_of_length_eq_zero (by rw [hs1.1, hq])) h0
    · exact hq
  obtain ⟨b2, o2, rfl, _, hc2⟩ := hs1.at hn1
  exact ⟨hn, b, off, n1, c1, b2, o2, rfl, hx1, hn1, hc2 0 hn1⟩

set_option maxRecDepth 100000 in
set_option maxHeartbeats 1600000 in
theorem rbare_is (a : Option Addr) (n cap : Nat) (zs : List Int) (r : Bool) (w : World) (hs : Sl .u8 w a n cap zs) (hn : n ≤ 1000000) (h : Line.bare zs = r) :
    Calls Try.prog 29 #[.slice a n cap] w fun e w' => e = .returned (.bool r) ∧ Below w.heap.size w w' := by
  subst h
  have HS := Lib.hid hs
  have hall := Line.fields_no zs
  clear hs
  by_cases hz0 : Line.fields zs = []
  · have hz : Line.bare zs = true := by unfold Line.bare; rw [hz0]
    rw [hz]
    go_enter Try.func29, Try.ntmps29
    go_wp2_with (go_at_call 30; refine (rfields_any _ _ _ _ _ HS.out hn).mono ?_; rintro e w1 ⟨a5, m5, c5, ys, rfl, hys, hyf, hyn, hb⟩; obtain rfl : m5 = 0 := (by have := congrArg List.length hyf; rw [bnums_length, hys.1, hz0] at this; exact this); have HB := Lib.hid hb; clear hys hb)
    go_ret
    exact ⟨rfl, HB.out⟩
  · obtain ⟨f, fs, hz1⟩ : ∃ f fs, Line.fields zs = f :: fs := by
      cases h : Line.fields zs with
      | nil => exact absurd h hz0
      | cons f fs => exact ⟨f, fs, rfl⟩
    have hz : Line.bare zs = (f.getD 0 0 == 35) := by unfold Line.bare; rw [hz1]
    have hf0 : f ≠ [] := (hall f (by rw [hz1]; simp)).1
    rw [hz]
    clear hz hz0 hall
    go_enter Try.func29, Try.ntmps29
    go_wp2_with (go_at_call 30; refine (rfields_any _ _ _ _ _ HS.out hn).mono ?_; rintro e w1 ⟨a5, m5, c5, ys, rfl, hys, hyf, hyn, hb⟩; obtain ⟨hm5, b1, o1, n1, c1, b2, o2, rfl, hx1, hn1, hx2⟩ := first_row hys (hyf.trans hz1) hf0; have hm5i : (0 : Int) < (m5 : Int) := (by omega); have hm5j : ¬ (m5 : Int) = 0 := (by omega); have hm5k : ((m5 : Int) == 0) = false := (by simpa using hm5j); have hn1i : (0 : Int) < (n1 : Int) := (by omega); have HB := Lib.hid hb; clear hys hb)
    go_ret
    exact ⟨rfl, HB.out⟩

end Go.Proofs.Ytflikfnehpaohaa
