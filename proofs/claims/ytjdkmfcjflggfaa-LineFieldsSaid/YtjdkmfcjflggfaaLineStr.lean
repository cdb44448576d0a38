/- Byte rows as strings: what a conversion gives, and when two strings are one. -/
import Derived.Test.YtjdkmfcjflggfaaLineRef
import Derived.ShutString
import Derived.Laws.BytesArg
namespace Go.Proofs.Ytjdkmfcjflggfaa
open Go.RowKit

/-- a slice of bytes as a string -/
theorem Sl.str {w : World} {a : Option Addr} {n cap : Nat} {zs : List Int} (h : Sl .u8 w a n cap zs) :
    (convert 22 9 (.slice a n cap)).run Try.prog w = .ok (.string (strOfNums zs)) w := by
  obtain ⟨h1, h2, h3, h4, h5⟩ := h
  rcases h5 with h5 | ⟨b, off, rfl, hc⟩
  · subst h5
    obtain rfl := List.eq_nil_of_length_eq_zero h1
    cases a with
    | none => exact run_convert_bytes_nil w 22 5 Try.underlying22 Try.underlying5 0 cap 9 Try.underlying9
    | some x => exact run_convert_bytes_back w 22 9 5 x cap [] Try.underlying22 Try.underlying5 Try.underlying9 (by intro j hj; simp at hj)
  · exact run_convert_bytes_arg w 22 5 Try.underlying22 Try.underlying5 b off n cap zs h1 hc 9 Try.underlying9

theorem bytes_ne {a b : List Int} (ha : ∀ z ∈ a, (Lit.int .u8 z).wf = true) (hb : ∀ z ∈ b, (Lit.int .u8 z).wf = true) (h : strOfNums a = strOfNums b) : a = b := by
  have h' : a.map (fun n => UInt8.ofNat n.toNat) = b.map (fun n => UInt8.ofNat n.toNat) := by
    have := congrArg (fun s : ByteArray => s.data.toList) h
    simpa [strOfNums] using this
  clear h
  induction a generalizing b with
  | nil => cases b with
    | nil => rfl
    | cons y b => simp at h'
  | cons x a ih => cases b with
    | nil => simp at h'
    | cons y b =>
      simp only [List.map_cons, List.cons.injEq] at h'
      have hx := bounds_u8 (ha x (by simp))
      have hy := bounds_u8 (hb y (by simp))
      have e : x = y := by
        have := congrArg UInt8.toNat h'.1
        simp at this
        omega
      rw [e, ih (fun z hz => ha z (by simp [hz])) (fun z hz => hb z (by simp [hz])) h'.2]

theorem bnums_take_same {xs ys : List Bd} {j : Nat} (h : (bnums xs).take j = (bnums ys).take j) (hx : j < xs.length) (hy : j < ys.length) (e : (bnums xs).getD j [] = (bnums ys).getD j []) :
    (bnums xs).take (j + 1) = (bnums ys).take (j + 1) := by
  have hx' : j < (bnums xs).length := by rw [bnums_length]; exact hx
  have hy' : j < (bnums ys).length := by rw [bnums_length]; exact hy
  rw [List.take_succ_eq_append_getElem hx', List.take_succ_eq_append_getElem hy', h]
  simp only [List.getD_eq_getElem?_getD, List.getElem?_eq_getElem hx', List.getElem?_eq_getElem hy', Option.getD_some] at e
  rw [e]

set_option maxHeartbeats 1600000 in
theorem bsames_is (a b : Option Addr) (n m cap cap2 : Nat) (xs ys : List Bd) (r : Bool) (w : World) (ha : Bs w a n cap xs) (hb : Bs w b m cap2 ys) (h : decide (bnums xs = bnums ys) = r) :
    Calls Try.prog 9 #[.slice a n cap, .slice b m cap2] w fun e w' => e = .returned (.bool r) ∧ ∃ q, w' = w.drewN q := by
  subst h
  have hnc := ha.2.1
  have hcm := ha.2.2.1
  unfold maxLen at hcm
  have hmc := hb.2.1
  have hcm2 := hb.2.2.1
  unfold maxLen at hcm2
  have HA := Lib.hid ha
  have HB := Lib.hid hb
  clear ha hb
  by_cases hnm : n = m
  · subst hnm
    go_enter Try.func9, Try.ntmps9
    go_wp2
    go_loopw [5] (fun ix wr => ∃ j : Nat, j ≤ n ∧ ix = .int .i64 (j : Int) ∧ Hid ((bnums xs).take j = (bnums ys).take j) ∧ Hid (∃ q, wr = w.drewN q)) (fun ix _ => n - (intOf ix).toNat)
    case atStart => exact ⟨0, Nat.zero_le _, rfl, rfl, ⟨0, rfl⟩⟩
    case round =>
      obtain ⟨j, hj, rfl, HT, HQ⟩ := hrel
      by_cases hlt : j < n
      · obtain ⟨b1, o1, a3, n3, c3, z3, rfl, _, _, hx1, hs1, hz1⟩ := (HA.out.drawn HQ.out).one j hlt
        obtain ⟨b2, o2, a4, n4, c4, z4, rfl, _, _, hx2, hs2, hz2⟩ := (HB.out.drawn HQ.out).one j hlt
        obtain ⟨s1, hs1e⟩ : ∃ s1, s1 = strOfNums z3 := ⟨_, rfl⟩
        obtain ⟨s2, hs2e⟩ : ∃ s2, s2 = strOfNums z4 := ⟨_, rfl⟩
        have hk1 : (convert 22 9 (.slice a3 n3 c3)).run Try.prog wr.drew = .ok (.string s1) wr.drew := by rw [hs1e]; exact hs1.drew.str
        have hk2 : (convert 22 9 (.slice a4 n4 c4)).run Try.prog wr.drew = .ok (.string s2) wr.drew := by rw [hs2e]; exact hs2.drew.str
        have hw1 := hs1.2.2.2.1
        have hw2 := hs2.2.2.2.1
        have HZ1 := Lib.hid hz1
        have HZ2 := Lib.hid hz2
        have hlti : (j : Int) < (n : Int) := by omega
        by_cases he : z3 = z4
        · have hb1 : (s1.toList == s2.toList) = true := by rw [hs1e, hs2e, he]; simp
          have HE := Lib.hid he
          clear he hs1 hs2 hz1 hz2 hw1 hw2 hs1e hs2e
          go_wp2
          go_region
          all_goals (
            go_wp2
            go_roundw
            case rel => exact ⟨j + 1, by omega, by go_num, bnums_take_same HT.out (by rw [HA.out.1]; exact hlt) (by rw [HB.out.1]; exact hlt) (by rw [HZ1.out, HZ2.out, HE.out]), (by obtain ⟨q, hq⟩ := HQ.out; exact ⟨q + 1, by rw [hq]; exact World.drewN_drewN w q 1⟩)⟩
            case measure => simp [intOf]; omega)
        · have hb1 : (s1.toList == s2.toList) = false := by
            rw [beq_eq_false_iff_ne]
            intro h
            apply he
            refine bytes_ne hw1 hw2 ?_
            rw [← hs1e, ← hs2e]
            rw [Lib.toList_data, Lib.toList_data] at h
            rw [← Lib.mk_data s1, ← Lib.mk_data s2, h]
          have hfin : decide (bnums xs = bnums ys) = false := by
            rw [decide_eq_false_iff_not]; intro h; apply he; rw [← HZ1.out, ← HZ2.out, h]
          have HF := Lib.hid hfin
          clear he hs1 hs2 hz1 hz2 hw1 hw2 hs1e hs2e hfin
          go_wp2
          go_region
          all_goals (
            go_wp2
            go_ret
            exact ⟨by rw [HF.out]; rfl, (by obtain ⟨q, hq⟩ := HQ.out; exact ⟨q + 1, by rw [hq]; exact World.drewN_drewN w q 1⟩)⟩)
      · have hfin : decide (bnums xs = bnums ys) = true := by
          rw [decide_eq_true_iff]
          have h := HT.out
          rwa [List.take_of_length_le (by rw [bnums_length, HA.out.1]; omega), List.take_of_length_le (by rw [bnums_length, HB.out.1]; omega)] at h
        have HF := Lib.hid hfin
        clear hfin
        go_wp2
        go_ret
        exact ⟨by rw [HF.out]; rfl, HQ.out⟩
  · have hfin : decide (bnums xs = bnums ys) = false := by
      rw [decide_eq_false_iff_not]; intro h
      have := congrArg List.length h
      rw [bnums_length, bnums_length, HA.out.1, HB.out.1] at this
      exact hnm this
    have h1 : ((n : Int) == (m : Int)) = false := by simp; omega
    have h2 : ((n : Int) != (m : Int)) = true := by simp; omega
    rw [hfin]
    clear hfin
    go_enter Try.func9, Try.ntmps9
    go_wp2
    go_ret
    exact ⟨rfl, 0, rfl⟩

end Go.Proofs.Ytjdkmfcjflggfaa
