/- Used by the law. -/
import Derived.Deep.RegionWith
import Derived.Test.YtjmabjeaodojeaaGreatGenStr
import Derived.Test.YtjmabjeaodojeaaGreatPackA
namespace Go.Proofs.YtjmabjeaodojeaaGreat
open Go.RowKit

def BytesIs (w w' : World) (e : Ending) (l : List Int) : Prop :=
  ∃ a' n c', e = .returned (.slice a' n c') ∧ n = l.length ∧ w'.ownsRow w.heap.size 5 1 (.slice a' n c') n (u8s l) ∧ (a' = none → c' = 0) ∧ Below w.heap.size w w'

set_option maxHeartbeats 1600000 in
set_option maxRecDepth 100000 in
theorem rwrite_any (c : Nat) : c < 18446744073709551616 → ∀ w : World,
    Calls Tryz.prog 22 #[.int .u64 c] w fun e w' => BytesIs w w' e (Num.dig c) := by
  induction c using Num.dig_rec with
  | h0 c h =>
    intro hc w
    have hlt : (c : Int) < 10 := by omega
    go_enter Tryz.func22, Tryz.ntmps22
    go_wp2
    go_ret
    refine ⟨some ⟨w.heap.size, 0, none⟩, 1, 1, rfl, by rw [Num.dig_small h]; rfl, ?_, (fun h => by cases h), (Below.refl _ w).alloc (Nat.le_refl _) _⟩
    rw [Num.dig_small h]
    have := World.ownsRow_lit (base := w.heap.size) (e := 5) (size := 1) w #[.int .u8 (48 + (c : Int))] 1 (Nat.le_refl _) (by unfold maxLen; omega) (by simp)
    simpa [u8s] using this
  | h1 c h ih =>
    intro hc w
    have HI := Lib.hid (fun w => ih (by omega) w)
    clear ih
    have hlt : ¬ (c : Int) < 10 := by omega
    have hl20 := Num.len_20 (c := c / 10) (by omega)
    go_enter Tryz.func22, Tryz.ntmps22
    go_wp2_with fail
    refine (HI.out w).mono ?_
    rintro e w2 ⟨a', n', c', rfl, hn, hown, hnil, hb⟩
    have hwf : ∀ z ∈ [(48 : Int) + (c : Int) % 10], (Lit.int .u8 z).wf = true := by
      intro z hz; rw [List.mem_singleton.1 hz]; exact WalkArith.wf_u8 ⟨by omega, by omega⟩
    have HW := Lib.hid hwf
    have hn20 : n' ≤ 20 := by omega
    have HNL := Lib.hid hn
    have HOWN := Lib.hid hown
    clear hwf HI hn hown hl20
    go_wp2_with (at_builtin; refine append_bytes (by rfl) (.tmp 11) (.tmp 16) (by rfl) w.heap.size _ n' (Num.dig (c / 10)) (by rfl) (HOWN.out.alloc _) (some ⟨w2.heap.size, 0, none⟩) 1 1 [48 + (c : Int) % 10] (by rfl) (Sl.newB [48 + (c : Int) % 10] HW.out (by show 1 ≤ maxLen; unfold maxLen; omega) rfl rfl rfl) (n' + 1) rfl (by omega) (by have := hb.size; simp; omega) ?_; intro a3 c3 w3 hown3 hb3 hn3)
    go_ret
    refine ⟨a3, n' + 1, c3, rfl, by rw [Num.dig_big h, List.length_append, HNL.out]; rfl, ?_, hn3, (hb.alloc hb.size _).trans hb3⟩
    rw [Num.dig_big h]
    exact hown3

theorem wrap_u64 (x : Int) : IntKind.u64.wrap x = x % 18446744073709551616 := by
  simp [IntKind.wrap, IntKind.signed, IntKind.bits]

def Told (e : Ending) (r : Option Nat) : Prop :=
  (∃ c, r = some c ∧ e = .returned (.tuple #[.int .u64 (c : Int), .int .i64 0])) ∨ (r = none ∧ e = .returned (.tuple #[.int .u64 0, .int .i64 50]))

theorem val_take {zs : List Int} {i : Nat} (h : i < zs.length) : Num.val (zs.take (i + 1)) = Num.val (zs.take i) * 10 + (zs.getD i 0 - 48).toNat := by
  rw [List.take_succ_eq_append_getElem h, Num.val_snoc]
  simp [h]
theorem digits_take {zs : List Int} {i : Nat} (h : i < zs.length) (h1 : ∀ d ∈ zs.take i, 48 ≤ d ∧ d ≤ 57) (h2 : 48 ≤ zs.getD i 0 ∧ zs.getD i 0 ≤ 57) : ∀ d ∈ zs.take (i + 1), 48 ≤ d ∧ d ≤ 57 := by
  intro d hd
  rw [List.take_succ_eq_append_getElem h] at hd
  rcases List.mem_append.1 hd with hd | hd
  · exact h1 d hd
  · rw [List.mem_singleton.1 hd]; simpa [h] using h2
theorem getD_mem {zs : List Int} {i : Nat} (h : i < zs.length) : zs.getD i 0 ∈ zs := by
  rw [List.getD_eq_getElem?_getD, List.getElem?_eq_getElem h]; exact List.getElem_mem _

set_option maxHeartbeats 3200000 in
set_option maxRecDepth 100000 in
theorem rread_any (a : Option Addr) (n cap : Nat) (zs : List Int) (w : World) (hs : Sl .u8 w a n cap zs) :
    Calls Tryz.prog 78 #[.slice a n cap] w fun e w' => Told e (Num.read zs) ∧ Below w.heap.size w w' := by
  have hnc := hs.2.1
  have hcm := hs.2.2.1
  unfold maxLen at hcm
  have HS := Lib.hid hs
  clear hs
  obtain ⟨r, hrr⟩ : ∃ r, Num.read zs = r := ⟨_, rfl⟩
  rw [hrr]
  have HR := Lib.hid hrr
  clear hrr
  by_cases h0 : n = 0
  · have hz : zs = [] := List.eq_nil_of_length_eq_zero (by rw [HS.out.1, h0])
    have hb : ((n : Int) == 0) = true := by simp [h0]
    have hr : Num.read zs = none := by rw [hz]; exact Num.read_none_nil
    rw [HR.out] at hr
    subst hr
    clear hz h0
    go_enter Tryz.func78, Tryz.ntmps78
    go_wp2
    go_ret2
    exact ⟨.inr ⟨rfl, rfl⟩, Below.refl _ _⟩
  have hb0 : ((n : Int) == 0) = false := by simp; omega
  by_cases h20 : 20 < n
  · have hb : (20 : Int) < (n : Int) := by omega
    have hr : Num.read zs = none := by
      cases hr : Num.read zs with
      | none => rfl
      | some c =>
        obtain ⟨h1, h2⟩ := Num.read_some hr
        have := Num.len_20 (c := c) (by omega)
        rw [h1, HS.out.1] at this
        omega
    rw [HR.out] at hr
    subst hr
    go_enter Tryz.func78, Tryz.ntmps78
    go_wp2
    go_ret2
    exact ⟨.inr ⟨rfl, rfl⟩, Below.refl _ _⟩
  have hb20 : ¬ (20 : Int) < (n : Int) := by omega
  go_enter Tryz.func78, Tryz.ntmps78
  go_wp2
  go_loopw [4, 5] (fun cv ix wr => ∃ i v : Nat, i ≤ n ∧ ix = .int .i64 (i : Int) ∧ cv = .int .u64 (v : Int) ∧ Hid (v = Num.val (zs.take i) % 18446744073709551616) ∧ Hid (∀ d ∈ zs.take i, 48 ≤ d ∧ d ≤ 57) ∧ Hid (wr = w)) (fun _ ix _ => n - (intOf ix).toNat)
  case atStart => exact ⟨0, 0, Nat.zero_le _, rfl, rfl, (by first | exact (trivial : True) | rfl), (by first | exact (trivial : True) | (intro x hx; simp at hx)), (by first | exact (trivial : True) | rfl)⟩
  case round =>
    obtain ⟨i, v, hi, rfl, rfl, HV, HD, HW⟩ := hrel
    obtain rfl := HW.out
    clear HW
    by_cases hlt : i < n
    · obtain ⟨b, off, rfl, _, hc⟩ := HS.out.at (by omega)
      have hx1 := hc i hlt
      have hil : i < zs.length := by rw [HS.out.1]; exact hlt
      have hvt := val_take hil
      have hdt := digits_take hil HD.out
      have hwf := bounds_u8 (HS.out.2.2.2.1 _ (getD_mem hil))
      have hmem := getD_mem hil
      obtain ⟨x, hx⟩ : ∃ x, x = zs.getD i 0 := ⟨_, rfl⟩
      rw [← hx] at hx1 hvt hdt hwf hmem
      obtain ⟨hx0, hx255⟩ := hwf
      have hlti : (i : Int) < (n : Int) := by omega
      have HM := Lib.hid hmem
      clear hc hx hil hmem
      by_cases h48 : x < 48
      · have hr : Num.read zs = none := Num.read_none_digit HM.out (by omega)
        rw [HR.out] at hr
        subst hr
        clear hvt hdt
        go_wp2
        go_ret2
        exact ⟨.inr ⟨rfl, rfl⟩, Below.refl _ _⟩
      by_cases h57 : 57 < x
      · have hr : Num.read zs = none := Num.read_none_digit HM.out (by omega)
        have h48' : decide (x < 48) = false := by simpa using h48
        rw [HR.out] at hr
        subst hr
        clear hvt hdt
        go_wp2
        go_ret2
        exact ⟨.inr ⟨rfl, rfl⟩, Below.refl _ _⟩
      have HVT := Lib.hid hvt
      have HDT := Lib.hid (hdt ⟨by omega, by omega⟩)
      obtain ⟨d, hd⟩ : ∃ d : Nat, x = 48 + (d : Int) := ⟨(x - 48).toNat, by omega⟩
      subst hd
      have hd9 : d ≤ 9 := by omega
      clear hvt hdt
      have hvn : IntKind.u64.wrap (IntKind.u64.wrap ((v : Int) * 10) + (48 + (d : Int) - 48)) = ((Num.val (zs.take (i + 1)) % 18446744073709551616 : Nat) : Int) := by
        have h1 := HVT.out
        have h2 := HV.out
        have h3 : (48 + (d : Int) - 48).toNat = d := by omega
        rw [h3] at h1
        rw [h1, h2, wrap_u64, wrap_u64]
        omega
      have HVN := Lib.hid hvn
      clear hvn
      go_wp2
      go_roundw
      case rel => exact ⟨i + 1, _, by omega, by go_num, by rw [HVN.out], rfl, HDT.out, (by first | exact (trivial : True) | rfl)⟩
      case measure => simp [intOf]; omega
    · obtain rfl : i = n := by omega
      have htk : zs.take i = zs := List.take_of_length_le (by rw [HS.out.1]; exact Nat.le_refl _)
      have hv := HV.out
      rw [htk] at hv
      have hvb : v < 18446744073709551616 := by omega
      obtain ⟨S1, hS1⟩ : ∃ S1, S1 = strOfNums (Num.dig v) := ⟨_, rfl⟩
      obtain ⟨S2, hS2⟩ : ∃ S2, S2 = strOfNums zs := ⟨_, rfl⟩
      have hse := str_eq (Num.dig_wf v) HS.out.2.2.2.1
      rw [← hS1, ← hS2] at hse
      have hk0 : (convert 22 9 (.slice a i cap)).run Tryz.prog wr.drew = .ok (.string S2) wr.drew := by rw [hS2]; exact HS.out.drew.str
      have HC := Lib.hid (rwrite_any v hvb)
      have HS1 := Lib.hid hS1
      have HS2 := Lib.hid hS2
      have hmx : Tryz.prog.follows .mixedOrders = true := by kernel_rfl
      clear hS1 hS2 HV HD htk
      by_cases he : Num.dig v = zs
      · have hb1 : (S1.toList == S2.toList) = true := by rw [hse]; simpa using he
        have hbn : (!(S1.toList == S2.toList)) = false := by rw [hb1]; rfl
        have hval : Num.val zs = v := by rw [← he, Num.val_dig]
        by_cases hi2 : v = 18446744073709551615
        · have hv1 : ((v : Int) == 18446744073709551615) = true := by rw [hi2]; rfl
          have hrn : r = none := by rw [← HR.out]; exact Num.read_none_big (by omega)
          subst hrn
          clear he hse hv hval hi2
          go_wp2
          first | (go_region_with (first | (go_at_call 22; refine (HC.out _).mono ?_; rintro e w2 ⟨a', m, c', rfl, hm, hown, hnil, hb⟩; have hk1 : (convert 22 9 (.slice a' m c')).run Tryz.prog w2 = .ok (.string S1) w2 := (by rw [HS1.out]; exact (Sl.of_owns (k := .u8) hown (Num.dig_wf v) hm.symm).str); have hk2 : (convert 22 9 (.slice a i cap)).run Tryz.prog w2 = .ok (.string S2) w2 := (by rw [HS2.out]; exact (HS.out.drew.below hb (Nat.le_refl _)).str); have HB := Lib.hid hb; clear hm hown hb))) | fail
          all_goals (
            simp only [Act.put, List.setIfInBounds_toArray, List.getElem_cons_succ, List.getElem_cons_zero, List.getElem_toArray]
            go_wp2
            go_ret2
            exact ⟨.inr ⟨rfl, rfl⟩, ⟨HB.out.os, HB.out.tape, HB.out.output, HB.out.size, HB.out.block⟩⟩)
        · have hv1 : ((v : Int) == 18446744073709551615) = false := by simp; omega
          have hrn : r = some v := by
            rw [← HR.out, ← he]
            exact Num.read_dig (by omega)
          subst hrn
          clear he hse hv hval hi2
          go_wp2
          first | (go_region_with (first | (go_at_call 22; refine (HC.out _).mono ?_; rintro e w2 ⟨a', m, c', rfl, hm, hown, hnil, hb⟩; have hk1 : (convert 22 9 (.slice a' m c')).run Tryz.prog w2 = .ok (.string S1) w2 := (by rw [HS1.out]; exact (Sl.of_owns (k := .u8) hown (Num.dig_wf v) hm.symm).str); have hk2 : (convert 22 9 (.slice a i cap)).run Tryz.prog w2 = .ok (.string S2) w2 := (by rw [HS2.out]; exact (HS.out.drew.below hb (Nat.le_refl _)).str); have HB := Lib.hid hb; clear hm hown hb))) | fail
          all_goals (
            simp only [Act.put, List.setIfInBounds_toArray, List.getElem_cons_succ, List.getElem_cons_zero, List.getElem_toArray]
            go_wp2
            go_ret2
            exact ⟨.inl ⟨v, rfl, rfl⟩, ⟨HB.out.os, HB.out.tape, HB.out.output, HB.out.size, HB.out.block⟩⟩)
      · have hb1 : (S1.toList == S2.toList) = false := by rw [hse]; simpa using he
        have hbn : (!(S1.toList == S2.toList)) = true := by rw [hb1]; rfl
        have hrn : r = none := by
          rw [← HR.out]
          cases hr : Num.read zs with
          | none => rfl
          | some c =>
            obtain ⟨h1, h2⟩ := Num.read_some hr
            exfalso
            apply he
            have h3 : Num.val zs = c := by rw [← h1, Num.val_dig]
            rw [hv, h3, Nat.mod_eq_of_lt (by omega), h1]
        subst hrn
        clear he hse hv
        go_wp2
        first | (go_region_with (first | (go_at_call 22; refine (HC.out _).mono ?_; rintro e w2 ⟨a', m, c', rfl, hm, hown, hnil, hb⟩; have hk1 : (convert 22 9 (.slice a' m c')).run Tryz.prog w2 = .ok (.string S1) w2 := (by rw [HS1.out]; exact (Sl.of_owns (k := .u8) hown (Num.dig_wf v) hm.symm).str); have hk2 : (convert 22 9 (.slice a i cap)).run Tryz.prog w2 = .ok (.string S2) w2 := (by rw [HS2.out]; exact (HS.out.drew.below hb (Nat.le_refl _)).str); have HB := Lib.hid hb; clear hm hown hb))) | fail
        all_goals (
          simp only [Act.put, List.setIfInBounds_toArray, List.getElem_cons_succ, List.getElem_cons_zero, List.getElem_toArray]
          go_wp2
          go_ret2
          exact ⟨.inr ⟨rfl, rfl⟩, ⟨HB.out.os, HB.out.tape, HB.out.output, HB.out.size, HB.out.block⟩⟩)

end Go.Proofs.YtjmabjeaodojeaaGreat
