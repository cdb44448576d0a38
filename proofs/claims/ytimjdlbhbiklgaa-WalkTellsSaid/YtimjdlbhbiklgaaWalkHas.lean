/- Used by the law. -/
import Derived.Test.YtimjdlbhbiklgaaWalkAlong
import Derived.Test.YtimjdlbhbiklgaaWalkLast
import Derived.Test.YtimjdlbhbiklgaaPackA
namespace Go.Proofs.Ytimjdlbhbiklgaa
open Go.RowKit Tri Wlk

set_option maxRecDepth 100000 in
set_option maxHeartbeats 1600000 in
theorem wmany_is (a : Option Addr) (n cap : Nat) (xs : List Sw) (w : World) (r : Nat) (hx : Ss w a n cap xs) (hr : manyC (sts xs) = r) :
    Calls Try.prog 17 #[.slice a n cap] w fun e w' => e = .returned (.int .i64 (r : Int)) ∧ Below w.heap.size w w' := by
  have HX := Lib.hid hx
  cases hcc : check (sts xs)
  · have hr0 : r = 0 := by unfold manyC at hr; rw [hcc] at hr; exact hr.symm
    subst hr0
    clear hx hr
    go_enter Try.func17, Try.ntmps17
    go_wp2_with (go_at_call 29; refine (tcheck_is a n cap xs false _ HX.out hcc).mono ?_; rintro e w' ⟨rfl, hb'⟩)
    go_ret
    exact ⟨rfl, hb'⟩
  · have hn : (sts xs).length = n := by rw [sts_length]; exact hx.1
    have hsz := check_size hcc
    have hr1 : r = mny (sts xs) 0 := by unfold manyC at hr; rw [hcc] at hr; exact hr.symm
    have HR := Lib.hid hr1
    have hn1 : 0 < n := by omega
    clear hx hr hsz hn hr1
    go_enter Try.func17, Try.ntmps17
    go_wp2_with (first
      | (go_at_call 29; refine (tcheck_is a n cap xs true _ HX.out hcc).mono ?_; rintro e w1 ⟨rfl, hb1⟩)
      | (go_at_call 37; refine (fromLast_many hcc a n cap xs w1 (HX.out.below hb1 (Nat.le_refl _)) rfl).mono ?_; rintro e w2 ⟨rfl, ds, hown, hdl, hdw, hdv, hb2⟩; have hnl : (0 : Int) < (n : Int) := (by omega); have hd0 : w2.cell? ⟨w1.heap.size + 1, 0, none⟩ = some (.int .i64 (mny (sts xs) 0 : Int)) := (by rw [hown.cellAt 0 (by omega), ← hdv 0 hn1]; unfold i64s; simp [show 0 < ds.length by omega]); have HB2 := Lib.hid hb2; clear hown hdl hdw hdv hb2))
    go_ret
    exact ⟨by rw [HR.out]; rfl, hb1.trans (HB2.out.mono hb1.size)⟩
set_option maxRecDepth 100000 in
set_option maxHeartbeats 1600000 in
theorem wdeep_is (a : Option Addr) (n cap : Nat) (xs : List Sw) (w : World) (r : Int) (hx : Ss w a n cap xs) (hr : deepC (sts xs) = r) :
    Calls Try.prog 19 #[.slice a n cap] w fun e w' => e = .returned (.int .i64 r) ∧ Below w.heap.size w w' := by
  have HX := Lib.hid hx
  cases hcc : check (sts xs)
  · have hr0 : r = -1 := by unfold deepC at hr; rw [hcc] at hr; exact hr.symm
    subst hr0
    clear hx hr
    go_enter Try.func19, Try.ntmps19
    go_wp2_with (go_at_call 29; refine (tcheck_is a n cap xs false _ HX.out hcc).mono ?_; rintro e w' ⟨rfl, hb'⟩)
    go_ret
    exact ⟨rfl, hb'⟩
  · have hn : (sts xs).length = n := by rw [sts_length]; exact hx.1
    have hsz := check_size hcc
    have hr1 : r = dp (wds (sts xs) 0) := by unfold deepC at hr; rw [hcc] at hr; exact hr.symm
    have HR := Lib.hid hr1
    have hn1 : 0 < n := by omega
    clear hx hr hsz hn hr1
    go_enter Try.func19, Try.ntmps19
    go_wp2_with (first
      | (go_at_call 29; refine (tcheck_is a n cap xs true _ HX.out hcc).mono ?_; rintro e w1 ⟨rfl, hb1⟩)
      | (go_at_call 37; refine (fromLast_deep hcc a n cap xs w1 (HX.out.below hb1 (Nat.le_refl _)) rfl).mono ?_; rintro e w2 ⟨rfl, ds, hown, hdl, hdw, hdv, hb2⟩; have hnl : (0 : Int) < (n : Int) := (by omega); have hd0 : w2.cell? ⟨w1.heap.size + 1, 0, none⟩ = some (.int .i64 (dp (wds (sts xs) 0))) := (by rw [hown.cellAt 0 (by omega), ← hdv 0 hn1]; unfold i64s; simp [show 0 < ds.length by omega]); have HB2 := Lib.hid hb2; clear hown hdl hdw hdv hb2))
    go_ret
    exact ⟨by rw [HR.out]; rfl, hb1.trans (HB2.out.mono hb1.size)⟩
set_option maxRecDepth 100000 in
set_option maxHeartbeats 1600000 in
theorem whas_is (a b : Option Addr) (n cap m cap2 : Nat) (xs : List Sw) (zs : List Int) (w : World) (r : Bool) (hx : Ss w a n cap xs) (hz : Sl .i64 w b m cap2 zs) (hr : hasC (sts xs) zs = r) :
    Calls Try.prog 15 #[.slice a n cap, .slice b m cap2] w fun e w' => e = .returned (.bool r) ∧ Below w.heap.size w w' := by
  have HX := Lib.hid hx
  have HZ := Lib.hid hz
  have HZL : Hid (zs.length = m) := Lib.hid hz.1
  cases hcc : check (sts xs)
  · have hr0 : r = false := by unfold hasC at hr; rw [hcc] at hr; exact hr.symm
    subst hr0
    clear hx hr hz
    go_enter Try.func15, Try.ntmps15
    go_wp2_with (go_at_call 29; refine (tcheck_is a n cap xs false _ HX.out hcc).mono ?_; rintro e w' ⟨rfl, hb'⟩)
    go_ret
    exact ⟨rfl, hb'⟩
  · have hn : (sts xs).length = n := by rw [sts_length]; exact hx.1
    have hsz := check_size hcc
    have hnc := hx.2.1
    have hcm := hx.2.2.1
    have hmc := hz.2.1
    have hmm := hz.2.2.1
    unfold maxLen at hcm hmm
    have hr1 : has (sts xs) 0 zs = r := by unfold hasC at hr; rw [hcc] at hr; simpa using hr
    cases hwk : walk (sts xs) 0 zs with
    | none =>
      have hr0 : r = false := by unfold has at hr1; rw [show ((0 : Nat) : Int) = 0 from rfl, hwk] at hr1; exact hr1.symm
      subst hr0
      have HLE := Lib.hid ((along_len (sts xs) zs 0).2 hwk)
      clear hx hr hz hr1 hsz hn
      go_enter Try.func15, Try.ntmps15
      go_wp2_with (first
        | (go_at_call 29; refine (tcheck_is a n cap xs true _ HX.out hcc).mono ?_; rintro e w1 ⟨rfl, hb1⟩)
        | (go_at_call 35; refine (along_is hcc a b n cap m cap2 xs zs w1 (HX.out.below hb1 (Nat.le_refl _)) rfl (HZ.out.below hb1 (Nat.le_refl _))).mono ?_; rintro e w2 ⟨a', k, c', rfl, hk, hown, hb2⟩; have hkm : ¬ (k : Int) > (m : Int) := (by have h1 := HLE.out; have h2 := HZL.out; omega); have hkd : decide ((k : Int) > (m : Int)) = false := decide_eq_false hkm; have hle : k ≤ m := (by omega); have HB2 := Lib.hid hb2; clear hown hb2 hk hkm))
      all_goals (first | (exfalso; omega) | skip)
      go_ret
      exact ⟨rfl, hb1.trans (HB2.out.mono hb1.size)⟩
    | some t =>
      obtain ⟨h1, h2⟩ := walk_range hcc zs (i := 0) (by omega) t (by simpa using hwk)
      obtain ⟨u, rfl⟩ : ∃ u : Nat, t = (u : Int) := ⟨t.toNat, by omega⟩
      have hun : u < n := by omega
      have hr2 : ((sts xs).getD u St.no).final = r := by unfold has at hr1; rw [show ((0 : Nat) : Int) = 0 from rfl, hwk] at hr1; simpa using hr1
      obtain ⟨g1, g2⟩ := (along_len (sts xs) zs 0).1 _ hwk
      have HG1 := Lib.hid g1
      have HG2 := Lib.hid g2
      obtain ⟨b1, o1, fi, sa, sn, sc, arcs, rfl, hb1lt, hx1, hx2, hars, hz1⟩ := hx.one u hun
      have hfr : fi = r := by rw [← hr2, sts_at, hz1]; rfl
      subst hfr
      have hui : (u : Int) < (n : Int) := by omega
      have hu0 : (0 : Int) ≤ (u : Int) := by omega
      have HX1 := Lib.hid hx1
      clear hx hr hz hr1 hr2 hsz hn g1 g2 hx1 hx2 hars hz1 h1 h2
      go_enter Try.func15, Try.ntmps15
      go_wp2_with (first
        | (go_at_call 29; refine (tcheck_is _ n cap xs true _ HX.out hcc).mono ?_; rintro e w1 ⟨rfl, hb1⟩)
        | (go_at_call 35; refine (along_is hcc _ b n cap m cap2 xs zs w1 (HX.out.below hb1 (Nat.le_refl _)) rfl (HZ.out.below hb1 (Nat.le_refl _))).mono ?_; rintro e w2 ⟨a', k, c', rfl, hk, hown, hb2⟩; have hkm : (k : Int) > (m : Int) := (by have := HG1.out; have := HZL.out; omega); have hkd : decide ((k : Int) > (m : Int)) = true := decide_eq_true hkm; have hle : m < k := (by omega); have hmk : (m : Int) < (k : Int) := hkm; obtain ⟨gg, rfl, hg1⟩ : ∃ gg, a' = some ⟨gg, 0, none⟩ ∧ w2.cell? ⟨gg, m, none⟩ = some (.int .i64 (u : Int)) := own_cell hown (by rw [hk]) (by omega) (by rw [← HZL.out]; exact HG2.out); have hf2 : w2.cell? ⟨b1, o1 + u * 2, none⟩ = some (.bool fi) := (by rw [hb2.cell (p := ⟨b1, o1 + u * 2, none⟩) (by have := hb1.size; show b1 < _; omega), hb1.cell (p := ⟨b1, o1 + u * 2, none⟩) hb1lt]; exact HX1.out); have HB2 := Lib.hid hb2; clear hown hb2 hk hkm))
      all_goals (first | (exfalso; omega) | skip)
      go_ret
      exact ⟨rfl, hb1.trans (HB2.out.mono hb1.size)⟩
end Go.Proofs.Ytimjdlbhbiklgaa
