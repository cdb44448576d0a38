/- The document's own Take: one to four bytes are tried; it may make blocks, and turns nothing that was there. -/
import Derived.Test.YtflikfnehpaohaaUtfWalkF
import Derived.LoopN
import Derived.Lib.Strings
namespace Go.Proofs.Ytflikfnehpaohaa
open Go.RowKit

set_option maxRecDepth 100000 in
theorem Sl.new {w : World} {t : TypeId} (zs : List Int) (hw : ∀ z ∈ zs, 0 ≤ z ∧ z ≤ 255) (hl : zs.length ≤ maxLen) : Sl .u8 (w.alloc (.cells (u8s zs).toArray t)) (some ⟨w.heap.size, 0, none⟩) zs.length zs.length zs := by
  refine ⟨rfl, Nat.le_refl _, hl, fun z hz => WalkArith.wf_u8 (hw z hz), .inr ⟨w.heap.size, 0, rfl, fun i hi => ?_⟩⟩
  rw [cell_of_row _ w.heap.size _ _ t (0, 0) (heap_alloc_new w _)]
  simp [u8s, hi]
set_option maxRecDepth 100000 in
theorem strOfNums_ne {a b : List Int} (ha : ∀ z ∈ a, 0 ≤ z ∧ z ≤ 255) (hb : ∀ z ∈ b, 0 ≤ z ∧ z ≤ 255) (h : strOfNums a = strOfNums b) : a = b := by
  have h' : a.map (fun n => UInt8.ofNat n.toNat) = b.map (fun n => UInt8.ofNat n.toNat) := by
    have := congrArg (fun s : ByteArray => s.data.toList) h
    simpa [strOfNums] using this
  clear h
  induction a generalizing b with
  | nil => cases b with
    | nil => rfl
    | cons y b => simp at h'
  | cons x a ih => cases b with
    | nil => simp at h'
    | cons y b =>
      simp only [List.map_cons, List.cons.injEq] at h'
      have hx := ha x (by simp)
      have hy := hb y (by simp)
      have e : x = y := by
        have := congrArg UInt8.toNat h'.1
        simp at this
        omega
      rw [e, ih (fun z hz => ha z (by simp [hz])) (fun z hz => hb z (by simp [hz])) h'.2]

set_option maxRecDepth 100000 in
theorem toList_inj {a b : ByteArray} (h : a.toList = b.toList) : a = b := by
  rw [Lib.toList_data, Lib.toList_data] at h
  rw [← Lib.mk_data a, ← Lib.mk_data b, h]
set_option maxRecDepth 100000 in
theorem no_more {c : Int} {rest : List Int} {j : Nat} (h : ∀ k, 1 ≤ k → k < j → ¬ Utf.fits c rest k) (hj : ¬ Utf.fits c rest j) : ∀ k, 1 ≤ k → k < j + 1 → ¬ Utf.fits c rest k := by
  intro k h1 h2
  rcases Nat.lt_or_ge k j with h3 | h3
  · exact h k h1 h3
  · obtain rfl : k = j := by omega
    exact hj

set_option maxRecDepth 100000 in
set_option maxHeartbeats 4000000 in
theorem rtake_some (b off n cap : Nat) (c : Int) (rest : List Int) (w : World) (hs : Sl .u8 w (some ⟨b, off, none⟩) n cap (c :: rest)) :
    Calls Try.prog 54 #[.slice (some ⟨b, off, none⟩) n cap] w fun e w' => e = .returned (takeV (Utf.takeL (c :: rest))) ∧ Below w.heap.size w w' := by
  have hlen := hs.1
  have hnc := hs.2.1
  have hcm := hs.2.2.1
  have hwf := hs.2.2.2.1
  have hn0 : 0 < n := by simp at hlen; omega
  have hzz : ∀ z ∈ c :: rest, 0 ≤ z ∧ z ≤ 255 := fun z hz => bounds_u8 (hwf z hz)
  unfold maxLen at hcm
  have HL := Lib.hid hlen
  have HS := Lib.hid hs
  clear hlen hwf hs
  go_enter Try.func54, Try.ntmps54
  go_wp2
  go_loopw [5] (fun ix wr => ∃ j : Nat, 1 ≤ j ∧ j ≤ 5 ∧ j ≤ n + 1 ∧ ix = .int .i64 (j : Int) ∧ Hid (∀ k, 1 ≤ k → k < j → ¬ Utf.fits c rest k) ∧ Below w.heap.size w wr) (fun ix _ => 5 - (intOf ix).toNat)
  case atStart => exact ⟨1, by omega, by omega, by omega, rfl, fun k _ _ => by omega, Below.refl _ _⟩
  case round =>
    obtain ⟨j, hj1, hj5, hjn, rfl, HF, hbel⟩ := hrel
    by_cases hin : j ≤ 4 ∧ j ≤ n
    · obtain ⟨hj4, hjn2⟩ := hin
      have hj4i : (j : Int) ≤ 4 := by omega
      have hjni : (j : Int) ≤ (n : Int) := by omega
      have hjc : j ≤ cap := by omega
      obtain ⟨x, hx⟩ : ∃ x, x = Utf.num c j (rest.take (j - 1)) := ⟨_, rfl⟩
      have hcb := hzz c (by simp)
      have hxb := Utf.num_bound c j (rest.take (j - 1)) hcb.1 hcb.2 (by have := List.length_take_le (j - 1) rest; omega)
      rw [← hx] at hxb
      obtain ⟨hx0, hx1⟩ := hxb
      have HS2 : Hid (Sl .u8 wr (some ⟨b, off, none⟩) n cap (c :: rest)) := HS.out.below hbel (Nat.le_refl _)
      have HX := Lib.hid hx
      clear hx hcb
      by_cases hg : Utf.good x = true
      · have hgi := (Utf.good_iff x).1 hg
        have hx2 := hgi.2.1
        clear hgi
        obtain ⟨s1, hs1⟩ : ∃ s1, s1 = strOfNums (Utf.enc x) := ⟨_, rfl⟩
        obtain ⟨s2, hs2⟩ : ∃ s2, s2 = strOfNums ((c :: rest).take j) := ⟨_, rfl⟩
        have hk1 : (convert 22 9 (.slice (some ⟨b, off, none⟩) j cap)).run Try.prog wr.drew = .ok (.string s2) wr.drew := by
          rw [hs2]; exact ((HS2.out.first j hjn2).drew).str
        have hk2 : (convert 22 9 (.slice (some ⟨b, off, none⟩) j cap)).run Try.prog (wr.alloc (.cells (u8s (Utf.enc x)).toArray 5)).drew = .ok (.string s2) (wr.alloc (.cells (u8s (Utf.enc x)).toArray 5)).drew := by
          rw [hs2]; exact (((HS2.out.first j hjn2).alloc _).drew).str
        have hk3 : (convert 22 9 (.slice (some ⟨wr.heap.size, 0, none⟩) (Utf.size x) (Utf.size x))).run Try.prog (wr.alloc (.cells (u8s (Utf.enc x)).toArray 5)).drew = .ok (.string s1) (wr.alloc (.cells (u8s (Utf.enc x)).toArray 5)).drew := by
          have := ((Sl.new (w := wr) (t := 5) (Utf.enc x) (Utf.enc_bytes x hg) (by rw [Utf.enc_length]; have := Utf.size_le x; unfold maxLen; omega)).drew).str
          rw [Utf.enc_length] at this
          rw [hs1]; exact this
        have hsz : wr.heap.size = wr.drew.heap.size := rfl
        have hsize := hbel.size
        have hcons : (c :: rest).take j = c :: rest.take (j - 1) := by
          obtain ⟨m, rfl⟩ : ∃ m, j = m + 1 := ⟨j - 1, by omega⟩
          rfl
        by_cases hq : Utf.enc x = (c :: rest).take j
        · have hbe : (s1.toList == s2.toList) = true := by rw [hs1, hs2, hq]; simp
          have hfin : Utf.takeL (c :: rest) = some (x, j) := by
            have := Utf.fits_take c rest (fun z hz => (hzz z hz).1) j hj1 (by rw [HL.out]; exact hjn2) ⟨by rw [← HX.out]; exact hg, by rw [← HX.out, hq, hcons]⟩
            rw [← HX.out] at this
            exact this
          have HFI := Lib.hid hfin
          clear hs1 hs2 hq hsz hcons hfin
          go_wp2_with (first
            | (go_at_call 72; refine (number_any _ _ _ _ j _ _ _ HS2.out hj1 hj4 hjn2).mono ?_; rintro e w' ⟨he, rfl⟩; obtain rfl : e = .returned (.int .i64 x) := (by rw [he, HX.out]); clear he))
          go_region_law (first
            | (go_simp; go_at_call 40; refine (rgood_any _ _ (by omega) (by omega)).mono ?_; rintro e w' ⟨rfl, rfl⟩)
            | (go_simp; go_at_call 58; refine (one_any _ _ hx0 hx2).mono ?_; rintro e w' ⟨rfl, rfl⟩))
          all_goals (
            go_wp2
            go_ret3
            exact ⟨by rw [HFI.out]; rfl, (hbel.alloc hsize _).drew⟩)
        · have hbe : (s1.toList == s2.toList) = false := by
            rw [beq_eq_false_iff_ne]
            intro h
            apply hq
            have hy : ∀ z ∈ (c :: rest).take j, 0 ≤ z ∧ z ≤ 255 := fun z hz => hzz z (List.mem_of_mem_take hz)
            refine strOfNums_ne (Utf.enc_bytes x hg) hy ?_
            rw [← hs1, ← hs2]
            exact toList_inj h
          have hnot : ¬ Utf.fits c rest j := by
            intro hf
            apply hq
            have := hf.2
            rw [← HX.out] at this
            rw [hcons]; exact this
          have HN : Hid (∀ k, 1 ≤ k → k < j + 1 → ¬ Utf.fits c rest k) := no_more HF.out hnot
          clear hs1 hs2 hq hsz hcons hnot
          go_wp2_with (first
            | (go_at_call 72; refine (number_any _ _ _ _ j _ _ _ HS2.out hj1 hj4 hjn2).mono ?_; rintro e w' ⟨he, rfl⟩; obtain rfl : e = .returned (.int .i64 x) := (by rw [he, HX.out]); clear he))
          go_region_law (first
            | (go_simp; go_at_call 40; refine (rgood_any _ _ (by omega) (by omega)).mono ?_; rintro e w' ⟨rfl, rfl⟩)
            | (go_simp; go_at_call 58; refine (one_any _ _ hx0 hx2).mono ?_; rintro e w' ⟨rfl, rfl⟩))
          all_goals (
            go_wp2
            go_roundw
            case rel => exact ⟨j + 1, by omega, by omega, by omega, by go_num, HN, (hbel.alloc hsize _).drew⟩
            case measure => simp [intOf]; omega)
      · have hgf : Utf.good x = false := by simpa using hg
        have hnot : ¬ Utf.fits c rest j := by
          intro hf
          apply hg
          rw [HX.out]; exact hf.1
        have HN : Hid (∀ k, 1 ≤ k → k < j + 1 → ¬ Utf.fits c rest k) := no_more HF.out hnot
        have HGC : Hid (∀ W : World, Calls Try.prog 40 #[.int .i64 x] W fun e w' => e = .returned (.bool false) ∧ w' = W) := fun W => (rgood_any x W (by omega) (by omega)).mono fun e w' h => ⟨by rw [h.1, hgf], h.2.symm⟩
        clear hg hnot hgf
        go_wp2_with (first
          | (go_at_call 72; refine (number_any _ _ _ _ j _ _ _ HS2.out hj1 hj4 hjn2).mono ?_; rintro e w' ⟨he, rfl⟩; obtain rfl : e = .returned (.int .i64 x) := (by rw [he, HX.out]); clear he))
        go_quiet ((go_at_call 40; exact Calls.quiet_of_same (HGC.out _)))
        go_wp2
        go_roundw
        case rel => exact ⟨j + 1, by omega, by omega, by omega, by go_num, HN, below_drewN hbel _⟩
        case measure => simp [intOf]; omega
    · have hfin : Utf.takeL (c :: rest) = none := Utf.fits_none c rest (fun z hz => (hzz z hz).1) (fun k h1 h4 hl => HF.out k h1 (by rw [HL.out] at hl; omega))
      have HFI := Lib.hid hfin
      clear hfin
      by_cases h4 : j ≤ 4
      · have h4i : (j : Int) ≤ 4 := by omega
        have hni : ¬ (j : Int) ≤ (n : Int) := by omega
        clear hin h4
        go_wp2
        go_ret3
        exact ⟨by rw [HFI.out]; rfl, hbel⟩
      · have h4i : ¬ (j : Int) ≤ 4 := by omega
        clear hin h4
        go_wp2
        go_ret3
        exact ⟨by rw [HFI.out]; rfl, hbel⟩

set_option maxRecDepth 100000 in
theorem rtake_nil (a : Option Addr) (cap : Nat) (w : World) :
    Calls Try.prog 54 #[.slice a 0 cap] w fun e w' => e = .returned (takeV none) ∧ Below w.heap.size w w' := by
  go_enter Try.func54, Try.ntmps54
  go_wp2
  refine wp_loop_rounds 1 ?_
  rw [rounds_succ]
  go_wp2
  go_ret3
  exact ⟨rfl, Below.refl _ _⟩

end Go.Proofs.Ytflikfnehpaohaa
