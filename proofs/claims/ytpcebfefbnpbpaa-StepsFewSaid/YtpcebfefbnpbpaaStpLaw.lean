import Derived.Test.YtpcebfefbnpbpaaStpAwake
import Derived.Test.YtpcebfefbnpbpaaStpSame
import Derived.Test.YtpcebfefbnpbpaaPackK
import Derived.Test.YtpcebfefbnpbpaaPackB
set_option linter.all false
set_option maxRecDepth 100000
set_option maxHeartbeats 12800000
namespace Go.Proofs.Ytpcebfefbnpbpaa
open Go.RowKit

theorem five_cells {w : World} {g : Nat} {a0 a1 a2 a3 a4 : Value} {t : TypeId} {fr : Nat × Nat} (h : w.heap[g]? = some (.cells #[a0, a1, a2, a3, a4] t fr)) :
    w.cell? ⟨g, 0, none⟩ = some a0 ∧ w.cell? ⟨g, 1, none⟩ = some a1 ∧ w.cell? ⟨g, 2, none⟩ = some a2 ∧ w.cell? ⟨g, 3, none⟩ = some a3 ∧ w.cell? ⟨g, 4, none⟩ = some a4 := by
  simp [World.cell?, h]
theorem few17_is (x : Cw) (a : Option Addr) (n cap : Nat) (w : World) (hx : x.Good w) (hcap : n ≤ 9223372036854775807) : Calls Try.prog 9 #[x.v, .slice a n cap] w fun e w' =>
    (e = .returned (.bool false) ∨ (e = .returned (.bool true) ∧ x.n ≤ 300 ∧ n ≤ 100)) ∧ Below w.heap.size w w' := by
  obtain ⟨cm, cl, co, ct, ra, rn, rcap, rs⟩ := x
  have HX := Lib.hid hx
  clear hx
  show Calls _ _ #[.agg #[.int .u64 cm, .int .u64 cl, .int .u64 co, .int .u64 ct, .slice ra rn rcap], .slice a n cap] w _
  by_cases h100 : n ≤ 100
  · have h1 : (n : Int) ≤ 100 := by omega
    have h2 : decide ((n : Int) ≤ 100) = true := decide_eq_true h1
    go_enter Try.func9, Try.ntmps9
    go_wp2_with fail
    refine (rfew_any ra rn rcap rs 300 (by omega) _ (HX.out.1.alloc _)).mono ?_
    rintro e v3 ⟨he, hv3⟩
    subst hv3
    rcases he with rfl | ⟨rfl, hR, hn300⟩
    · go_wp2
      go_ret
      exact ⟨.inl rfl, (Below.refl _ w).alloc (Nat.le_refl _) _⟩
    have HN' := Lib.hid hn300
    clear hR hn300
    go_wp2
    go_ret
    exact ⟨.inr ⟨rfl, HN'.out, h100⟩, (Below.refl _ w).alloc (Nat.le_refl _) _⟩
  · have h1 : ¬ (n : Int) ≤ 100 := by omega
    have h2 : decide ((n : Int) ≤ 100) = false := decide_eq_false h1
    go_enter Try.func9, Try.ntmps9
    go_wp2_with fail
    refine (rfew_any ra rn rcap rs 300 (by omega) _ (HX.out.1.alloc _)).mono ?_
    rintro e v3 ⟨he, hv3⟩
    subst hv3
    rcases he with rfl | ⟨rfl, hR, hn300⟩
    · go_wp2
      go_ret
      exact ⟨.inl rfl, (Below.refl _ w).alloc (Nat.le_refl _) _⟩
    clear hR hn300
    go_wp2
    go_ret
    exact ⟨.inl rfl, (Below.refl _ w).alloc (Nat.le_refl _) _⟩
/-- a row of lists, element i -/
theorem AllP.ps {w0 W : World} {B : Nat} {a : Option Addr} {n cap : Nat} {ys : List Lw} (h : AllP w0 W B a n cap ys) (i : Nat) (hi : i < n) : Ps W (ys.getD i Lw.no).a (ys.getD i Lw.no).n (ys.getD i Lw.no).c (ys.getD i Lw.no).xs ∧ stps (ys.getD i Lw.no).xs = (lsts ys).getD i [] := by
  have hm : ys.getD i Lw.no ∈ ys := by
    rw [List.getD_eq_getElem?_getD, List.getElem?_eq_getElem (by rw [h.len]; exact hi), Option.getD_some]; exact List.getElem_mem _
  exact ⟨(h.rows _ hm).ps, (lsts_at ys i).symm⟩
end Go.Proofs.Ytpcebfefbnpbpaa
