/- utf.Put answers the signs' bytes in a row of its own, or ErrUtf if one number is no sign; nothing that was there is turned. Asked: no more than 2^44 numbers. -/
import Derived.Test.YtflikfnehpaohaaUtfWalkB
import Derived.OpenShut
namespace Go.Proofs.Ytflikfnehpaohaa
open Go.RowKit

/-- what Put answers -/
def PutPost (B : Nat) (zs : List Int) (w : World) (e : Ending) (w' : World) : Prop :=
  Below B w w' ∧ ((Utf.allGood zs = true ∧ ∃ g cap, e = .returned (.tuple #[.slice (some ⟨g, 0, none⟩) (Utf.put zs).length cap, .int .i64 0]) ∧
    w'.ownsRow B 5 1 (.slice (some ⟨g, 0, none⟩) (Utf.put zs).length cap) (Utf.put zs).length (u8s (Utf.put zs))) ∨
    (Utf.allGood zs = false ∧ e = .returned (.tuple #[.slice none 0 0, .int .i64 10])))

set_option maxRecDepth 100000 in
theorem allGood_take_succ (zs : List Int) (k : Nat) (hk : k < zs.length) : Utf.allGood (zs.take (k + 1)) = (Utf.allGood (zs.take k) && Utf.good (zs.getD k 0)) := by
  rw [List.take_succ_eq_append_getElem hk, Utf.allGood_append]; simp [Utf.allGood, hk]
set_option maxRecDepth 100000 in
theorem put_take_succ (zs : List Int) (k : Nat) (hk : k < zs.length) : Utf.put (zs.take (k + 1)) = Utf.put (zs.take k) ++ Utf.enc (zs.getD k 0) := by
  rw [List.take_succ_eq_append_getElem hk, Utf.put_snoc]; simp [hk]
set_option maxRecDepth 100000 in
theorem allGood_bad (zs : List Int) (k : Nat) (hk : k < zs.length) (h : Utf.good (zs.getD k 0) = false) : Utf.allGood zs = false := by
  unfold Utf.allGood
  rw [Bool.eq_false_iff]
  intro ha
  have := List.all_eq_true.1 ha (zs[k]) (List.getElem_mem _)
  simp [hk] at h
  rw [h] at this
  cases this

set_option maxRecDepth 100000 in
set_option maxHeartbeats 800000 in
theorem put_any (a : Option Addr) (n cap : Nat) (zs : List Int) (w : World) (hs : Sl .i64 w a n cap zs) (hn : n ≤ 17592186044416) :
    Calls Try.prog 35 #[.slice a n cap] w (PutPost w.heap.size zs w) := by
  obtain ⟨i0, hi, hz0, hz1, hz2⟩ := info_parts Try.info5
  obtain ⟨hlen, hnc, hcm, hwf, hcell⟩ := hs
  have HL := Lib.hid hlen
  clear hlen
  go_enter Try.func35, Try.ntmps35
  go_wp2_with (at_make; refine wpList_make_own _ rfl _ _ 22 rfl w.heap.size 5 i0 (.int .u8 0) 1 Try.underlying22 hi hz0 hz1 _ _ _ n rfl rfl rfl (by rw [hz2]; omega) (by unfold maxLen; omega) (by omega) ?_; intro w1 hown1 hgrow1)
  have hbel1 : Below w.heap.size w w1 := (Below.refl _ _).grown hgrow1 (Nat.le_refl _) (by intro k hk; cases hk)
  go_loopw [4, 12] (fun bv ix wr => ∃ k g c : Nat, k ≤ n ∧ ix = .int .i64 (k : Int) ∧ bv = .slice (some ⟨g, 0, none⟩) (Utf.put (zs.take k)).length c ∧ Utf.allGood (zs.take k) = true ∧
      wr.ownsRow w.heap.size 5 1 (.slice (some ⟨g, 0, none⟩) (Utf.put (zs.take k)).length c) (Utf.put (zs.take k)).length (u8s (Utf.put (zs.take k))) ∧ Below w.heap.size w wr) (fun _ ix _ => n - (intOf ix).toNat)
  case atStart => exact ⟨0, w.heap.size, n, Nat.zero_le _, rfl, rfl, rfl, hown1, hbel1⟩
  case round =>
    obtain ⟨k, g, c, hk, rfl, rfl, hag, hown2, hbel2⟩ := hrel
    have HG := Lib.hid hag
    clear hag hbel1 hown1 hgrow1
    by_cases hlt : k < n
    · obtain ⟨z, hz⟩ : ∃ z, z = zs.getD k 0 := ⟨_, rfl⟩
      have hzb : -9223372036854775808 ≤ z ∧ z ≤ 9223372036854775807 := by have := range_i64 hwf k; rw [hz, List.getD_eq_getElem?_getD]; exact this
      have hput := Utf.put_length_le (zs.take k)
      have htk : (zs.take k).length ≤ k := List.length_take_le _ _
      obtain h0 | ⟨b, off, rfl, hcc⟩ := hcell
      · omega
      have hck := hcc k hlt
      have hbb := cell_lt hck
      have hc : wr.cell? ⟨b, off + k, none⟩ = some (.int .i64 z) := by rw [hbel2.cell (p := ⟨b, off + k, none⟩) hbb, hck, hz]
      have HZ := Lib.hid hz
      have hsize := hbel2.size
      clear hz hck hcc hwf
      obtain ⟨hzb0, hzb1⟩ := hzb
      by_cases hg : Utf.good z = true
      · have hg' := (Utf.good_iff z).1 hg
        have hz0' := hg'.1
        have hz1' := hg'.2.1
        have hn4 : (Utf.put (zs.take k)).length + 4 ≤ 140737488355328 := by omega
        clear hg'
        go_wp2_with (first
          | (go_at_call 55; refine (good_any _ _ hzb0 hzb1).mono ?_; rintro e w' ⟨rfl, rfl⟩)
          | (go_at_call 56; refine (appendSign_any w.heap.size g _ c _ z _ hown2 hsize hz0' hz1' hn4).mono ?_; rintro e w3 ⟨g3, c3, rfl, hown3, hbel3⟩))
        have hk' : k < zs.length := by rw [HL.out]; exact hlt
        have e1 := put_take_succ zs k hk'
        rw [← HZ.out] at e1
        have e2 : (Utf.put (zs.take (k + 1))).length = (Utf.put (zs.take k)).length + Utf.size z := by rw [e1, List.length_append, Utf.enc_length]
        have e3 : Utf.allGood (zs.take (k + 1)) = true := by rw [allGood_take_succ _ _ hk', HG.out, ← HZ.out, hg]; rfl
        rw [← e1, ← e2] at hown3
        go_roundw
        case rel => exact ⟨k + 1, g3, c3, by omega, by go_num, by rw [e2], e3, hown3, hbel2.trans hbel3⟩
        case measure => simp [intOf]; omega
      · have hgf : Utf.good z = false := by simpa using hg
        clear hg
        go_wp2_with (go_at_call 55; refine (good_any _ _ hzb0 hzb1).mono ?_; rintro e w' ⟨rfl, rfl⟩)
        go_ret2
        refine ⟨hbel2, .inr ⟨allGood_bad zs k (by rw [HL.out]; exact hlt) ?_, rfl⟩⟩
        rw [← HZ.out]; exact hgf
    · have hkn : k = n := by omega
      have hge : zs.take k = zs := List.take_of_length_le (by rw [HL.out]; omega)
      rw [hge] at hown2
      have HG' : Utf.allGood zs = true := by have := HG.out; rw [hge] at this; exact this
      have HK := Lib.hid hge
      clear hge HG hkn
      go_wp2
      go_ret2
      refine ⟨hbel2, .inl ⟨HG', g, c, ?_, hown2⟩⟩
      simp only [Array.getD_eq_getD_getElem?, HK.out]
      rfl

end Go.Proofs.Ytflikfnehpaohaa
