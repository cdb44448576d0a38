/- Used by the law. -/
import Derived.Test.YtimjdlbhbiklgaaPackA
import Derived.Test.YtimjdlbhbiklgaaPackM
namespace Go.Proofs.Ytimjdlbhbiklgaa
open Go.RowKit Tri Wlk

def HasAt (l : List St) (n : Nat) (zs : List Int) (i : Nat) (ok : Bool) (t : Int) : Prop :=
  if ok = true then check l = true ∧ ∃ u : Nat, t = (u : Int) ∧ u < n ∧ walk l 0 (zs.take i) = some (u : Int) else hasC l zs = false
theorem HasAt.next {l : List St} {n : Nat} {zs : List Int} {i : Nat} {u : Nat} {z t : Int} {is : Bool} (hc : check l = true) (hn : l.length = n) (hu : u < n) (hw : walk l 0 (zs.take i) = some (u : Int)) (hi : i < zs.length) (hz : zs.getD i 0 = z) (hs : Tri.step l (u : Int) z = (t, is)) : HasAt l n zs (i + 1) is t := by
  have e : zs.take (i + 1) = zs.take i ++ [z] := by rw [List.take_succ_eq_append_getElem hi, ← hz]; simp [hi]
  unfold HasAt
  cases is
  · simp only [Bool.false_eq_true, if_false]
    have h1 : walk l 0 zs = none := by
      have h2 : zs = zs.take i ++ (z :: zs.drop (i + 1)) := by
        conv => lhs; rw [← List.take_append_drop i zs, List.drop_eq_getElem_cons hi]
        rw [← hz]; simp [hi]
      rw [h2, Tri.walk_app, hw]
      simp [walk, hs]
    unfold hasC has
    rw [show ((0 : Nat) : Int) = 0 from rfl, h1, Bool.and_false]
  · rw [if_pos rfl]
    have h1 := step_lt hc (i := u) (by omega) (s := z) (by rw [hs])
    rw [hs] at h1
    simp only at h1
    refine ⟨hc, t.toNat, by omega, by omega, ?_⟩
    rw [e, Tri.walk_app, hw]
    simp only [Option.bind_some, walk, hs, if_true]
    rw [show ((t.toNat : Nat) : Int) = t by omega]
theorem HasAt.start {l : List St} {n : Nat} (hn : l.length = n) (zs : List Int) {c : Bool} (hc : check l = c) : HasAt l n zs 0 c 0 := by
  unfold HasAt
  cases c
  · simp only [Bool.false_eq_true, if_false]
    unfold hasC; rw [hc]; rfl
  · rw [if_pos rfl]
    have := (check_size hc).1
    exact ⟨hc, 0, rfl, by omega, rfl⟩
set_option maxRecDepth 100000 in
set_option maxHeartbeats 3200000 in
theorem rhas12_is (a b : Option Addr) (n cap m cap2 : Nat) (xs : List Sw) (zs : List Int) (w : World) (r : Bool) (hx : Ss w a n cap xs) (hz : Sl .i64 w b m cap2 zs) (hr : hasC (sts xs) zs = r) :
    Calls Try.prog 16 #[.slice a n cap, .slice b m cap2] w fun e w' => e = .returned (.bool r) ∧ Below w.heap.size w w' := by
  have HX := Lib.hid hx
  have HZ := Lib.hid hz
  have HR := Lib.hid hr
  have HLN : Hid ((sts xs).length = n) := by show _ = _; rw [sts_length]; exact hx.1
  have HZL : Hid (zs.length = m) := Lib.hid hz.1
  have hnc := hx.2.1
  have hcm := hx.2.2.1
  have hmc := hz.2.1
  have hmm := hz.2.2.1
  unfold maxLen at hcm hmm
  obtain ⟨c, hc⟩ : ∃ c, check (sts xs) = c := ⟨_, rfl⟩
  have HC := Lib.hid hc
  clear hx hz hr hc
  go_enter Try.func16, Try.ntmps16
  go_wp2_with (go_at_call 26; refine (rcheck10_is a n cap xs c _ HX.out HC.out).mono ?_; rintro e w1 ⟨rfl, hb1⟩; have HB1 := Lib.hid hb1; clear hb1)
  go_loopw [5, 6, 7] (fun ov tv ix wr => ∃ (i : Nat) (ok : Bool) (t : Int), i ≤ m ∧ ov = .bool ok ∧ tv = .int .i64 t ∧ ix = .int .i64 (i : Int) ∧ Hid (HasAt (sts xs) n zs i ok t) ∧ wr = w1) (fun _ _ ix _ => m - (intOf ix).toNat)
  case atStart => exact ⟨0, c, 0, Nat.zero_le _, rfl, rfl, rfl, HasAt.start HLN.out zs HC.out, rfl⟩
  case round =>
    obtain ⟨i, ok, t, hi, rfl, rfl, rfl, HAT, rfl⟩ := hrel
    cases ok
    · obtain rfl : r = false := by
        have h := HAT.out
        unfold HasAt at h
        simp only [Bool.false_eq_true, if_false] at h
        rw [← HR.out]; exact h
      by_cases hlt : i < m
      · have hlti : (i : Int) < (m : Int) := by omega
        go_wp2
        go_ret
        exact ⟨rfl, HB1.out⟩
      · obtain rfl : m = i := by omega
        go_wp2
        go_ret
        exact ⟨rfl, HB1.out⟩
    · obtain ⟨hck, u, hut, hun, hwk⟩ : check (sts xs) = true ∧ ∃ u : Nat, t = (u : Int) ∧ u < n ∧ walk (sts xs) 0 (zs.take i) = some (u : Int) := by
        have h := HAT.out
        unfold HasAt at h
        simpa using h
      subst hut
      by_cases hlt : i < m
      · obtain ⟨g, o, rfl, hbl, hcell⟩ := (HZ.out.below HB1.out (Nat.le_refl _)).at (by omega)
        have hzc := hcell i hlt
        obtain ⟨z, hz⟩ : ∃ z, zs.getD i 0 = z := ⟨_, rfl⟩
        rw [hz] at hzc
        obtain ⟨⟨to, is⟩, hst⟩ : ∃ p, Tri.step (sts xs) (u : Int) z = p := ⟨_, rfl⟩
        have HST := Lib.hid hst
        have HNX := Lib.hid (HasAt.next hck HLN.out hun hwk (by rw [HZL.out]; exact hlt) hz hst)
        have hlti : (i : Int) < (m : Int) := by omega
        clear hcell hbl hz hst hwk hck
        go_wp2_with (go_at_call 36; refine (rstep10_is a n cap xs (u : Int) z (to, is) _ (HX.out.below HB1.out (Nat.le_refl _)) HST.out).mono ?_; rintro e w2 ⟨rfl, hw2⟩; obtain rfl := hw2.symm)
        go_roundw
        case rel => exact ⟨i + 1, is, to, by omega, rfl, rfl, by go_num, HNX.out, by first | rfl | trivial⟩
        case measure => simp [intOf]; omega
      · obtain rfl : m = i := by omega
        obtain ⟨b1, o1, fi, sa, sn, sc, arcs, rfl, hb1lt, hx1, hx2, hars, hz1⟩ := HX.out.one u hun
        have hfr : fi = r := by
          rw [← HR.out]
          unfold hasC has
          rw [← HZL.out, List.take_length] at hwk
          rw [hck, show ((0 : Nat) : Int) = 0 from rfl, hwk, Bool.true_and]
          simp only [Int.toNat_natCast]
          rw [sts_at, hz1]; rfl
        subst hfr
        have hx1' : wr.cell? ⟨b1, o1 + u * 2, none⟩ = some (.bool fi) := by rw [HB1.out.cell (p := ⟨b1, o1 + u * 2, none⟩) hb1lt]; exact hx1
        have hui : (u : Int) < (n : Int) := by omega
        have hu0 : (0 : Int) ≤ (u : Int) := by omega
        clear hx1 hx2 hars hz1 hwk hck
        go_wp2
        go_ret
        exact ⟨rfl, HB1.out⟩
end Go.Proofs.Ytimjdlbhbiklgaa
