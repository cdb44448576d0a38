import Derived.Test.YtjmabjeaodojeaaGreatPackC
import Derived.LoopN
import Derived.Lib.Strings
import Derived.Test.YtjmabjeaodojeaaGreatPackP
/- Used by the law. -/
namespace Go.Proofs.YtjmabjeaodojeaaGreat
open Go.RowKit

theorem Sl.new {w : World} {t : TypeId} (zs : List Int) (hw : ∀ z ∈ zs, 0 ≤ z ∧ z ≤ 255) (hl : zs.length ≤ maxLen) : Sl .u8 (w.alloc (.cells (u8s zs).toArray t)) (some ⟨w.heap.size, 0, none⟩) zs.length zs.length zs := by
  refine ⟨rfl, Nat.le_refl _, hl, fun z hz => WalkArith.wf_u8 (hw z hz), .inr ⟨w.heap.size, 0, rfl, fun i hi => ?_⟩⟩
  rw [cell_of_row _ w.heap.size _ _ t (0, 0) (heap_alloc_new w _)]
  simp [u8s, hi]
theorem strOfNums_ne {a b : List Int} (ha : ∀ z ∈ a, 0 ≤ z ∧ z ≤ 255) (hb : ∀ z ∈ b, 0 ≤ z ∧ z ≤ 255) (h : strOfNums a = strOfNums b) : a = b := by
  have h' : a.map (fun n => UInt8.ofNat n.toNat) = b.map (fun n => UInt8.ofNat n.toNat) := by
    have := congrArg (fun s : ByteArray => s.data.toList) h
    simpa [strOfNums] using this
  clear h
  induction a generalizing b with
  | nil => cases b with
    | nil => rfl
    | cons y b => simp at h'
  | cons x a ih => cases b with
    | nil => simp at h'
    | cons y b =>
      simp only [List.map_cons, List.cons.injEq] at h'
      have hx := ha x (by simp)
      have hy := hb y (by simp)
      have e : x = y := by
        have := congrArg UInt8.toNat h'.1
        simp at this
        omega
      rw [e, ih (fun z hz => ha z (by simp [hz])) (fun z hz => hb z (by simp [hz])) h'.2]

theorem toList_inj {a b : ByteArray} (h : a.toList = b.toList) : a = b := by
  rw [Lib.toList_data, Lib.toList_data] at h
  rw [← Lib.mk_data a, ← Lib.mk_data b, h]
theorem no_more {c : Int} {rest : List Int} {j : Nat} (h : ∀ k, 1 ≤ k → k < j → ¬ Utf.fits c rest k) (hj : ¬ Utf.fits c rest j) : ∀ k, 1 ≤ k → k < j + 1 → ¬ Utf.fits c rest k := by
  intro k h1 h2
  rcases Nat.lt_or_ge k j with h3 | h3
  · exact h k h1 h3
  · obtain rfl : k = j := by omega
    exact hj

set_option maxRecDepth 100000 in
set_option maxHeartbeats 4000000 in
theorem rtake_some (b off n cap : Nat) (c : Int) (rest : List Int) (w : World) (hs : Sl .u8 w (some ⟨b, off, none⟩) n cap (c :: rest)) :
    Calls Tryz.prog 106 #[.slice (some ⟨b, off, none⟩) n cap] w fun e w' => e = .returned (takeV (Utf.takeL (c :: rest))) ∧ Below w.heap.size w w' := by
  have hlen := hs.1
  have hnc := hs.2.1
  have hcm := hs.2.2.1
  have hwf := hs.2.2.2.1
  have hn0 : 0 < n := by simp at hlen; omega
  have hzz : ∀ z ∈ c :: rest, 0 ≤ z ∧ z ≤ 255 := fun z hz => bounds_u8 (hwf z hz)
  unfold maxLen at hcm
  have HL := Lib.hid hlen
  have HS := Lib.hid hs
  clear hlen hwf hs
  go_enter Tryz.func106, Tryz.ntmps106
  go_wp2
  go_loopw [5] (fun ix wr => ∃ j : Nat, 1 ≤ j ∧ j ≤ 5 ∧ j ≤ n + 1 ∧ ix = .int .i64 (j : Int) ∧ Hid (∀ k, 1 ≤ k → k < j → ¬ Utf.fits c rest k) ∧ Below w.heap.size w wr) (fun ix _ => 5 - (intOf ix).toNat)
  case atStart => exact ⟨1, by omega, by omega, by omega, rfl, fun k _ _ => by omega, Below.refl _ _⟩
  case round =>
    obtain ⟨j, hj1, hj5, hjn, rfl, HF, hbel⟩ := hrel
    by_cases hin : j ≤ 4 ∧ j ≤ n
    · obtain ⟨hj4, hjn2⟩ := hin
      have hj4i : (j : Int) ≤ 4 := by omega
      have hjni : (j : Int) ≤ (n : Int) := by omega
      have hjc : j ≤ cap := by omega
      obtain ⟨x, hx⟩ : ∃ x, x = Utf.num c j (rest.take (j - 1)) := ⟨_, rfl⟩
      have hcb := hzz c (by simp)
      have hxb := Utf.num_bound c j (rest.take (j - 1)) hcb.1 hcb.2 (by have := List.length_take_le (j - 1) rest; omega)
      rw [← hx] at hxb
      obtain ⟨hx0, hx1⟩ := hxb
      have HS2 : Hid (Sl .u8 wr (some ⟨b, off, none⟩) n cap (c :: rest)) := HS.out.below hbel (Nat.le_refl _)
      have HX := Lib.hid hx
      clear hx hcb
      by_cases hg : Utf.good x = true
      · have hgi := (Utf.good_iff x).1 hg
        have hx2 := hgi.2.1
        clear hgi
        obtain ⟨s1, hs1⟩ : ∃ s1, s1 = strOfNums (Utf.enc x) := ⟨_, rfl⟩
        obtain ⟨s2, hs2⟩ : ∃ s2, s2 = strOfNums ((c :: rest).take j) := ⟨_, rfl⟩
        have hk1 : (convert 22 9 (.slice (some ⟨b, off, none⟩) j cap)).run Tryz.prog wr.drew = .ok (.string s2) wr.drew := by
          rw [hs2]; exact ((HS2.out.first j hjn2).drew).str
        have hk2 : (convert 22 9 (.slice (some ⟨b, off, none⟩) j cap)).run Tryz.prog (wr.alloc (.cells (u8s (Utf.enc x)).toArray 5)).drew = .ok (.string s2) (wr.alloc (.cells (u8s (Utf.enc x)).toArray 5)).drew := by
          rw [hs2]; exact (((HS2.out.first j hjn2).alloc _).drew).str
        have hk3 : (convert 22 9 (.slice (some ⟨wr.heap.size, 0, none⟩) (Utf.size x) (Utf.size x))).run Tryz.prog (wr.alloc (.cells (u8s (Utf.enc x)).toArray 5)).drew = .ok (.string s1) (wr.alloc (.cells (u8s (Utf.enc x)).toArray 5)).drew := by
          have := ((Sl.new (w := wr) (t := 5) (Utf.enc x) (Utf.enc_bytes x hg) (by rw [Utf.enc_length]; have := Utf.size_le x; unfold maxLen; omega)).drew).str
          rw [Utf.enc_length] at this
          rw [hs1]; exact this
        have hsz : wr.heap.size = wr.drew.heap.size := rfl
        have hsize := hbel.size
        have hcons : (c :: rest).take j = c :: rest.take (j - 1) := by
          obtain ⟨m, rfl⟩ : ∃ m, j = m + 1 := ⟨j - 1, by omega⟩
          rfl
        by_cases hq : Utf.enc x = (c :: rest).take j
        · have hbe : (s1.toList == s2.toList) = true := by rw [hs1, hs2, hq]; simp
          have hfin : Utf.takeL (c :: rest) = some (x, j) := by
            have := Utf.fits_take c rest (fun z hz => (hzz z hz).1) j hj1 (by rw [HL.out]; exact hjn2) ⟨by rw [← HX.out]; exact hg, by rw [← HX.out, hq, hcons]⟩
            rw [← HX.out] at this
            exact this
          have HFI := Lib.hid hfin
          clear hs1 hs2 hq hsz hcons hfin
          go_wp2_with (first
            | (go_at_call 124; refine (number_any _ _ _ _ j _ _ _ HS2.out hj1 hj4 hjn2).mono ?_; rintro e w' ⟨he, rfl⟩; obtain rfl : e = .returned (.int .i64 x) := (by rw [he, HX.out]); clear he))
          go_region_law (first
            | (go_simp; go_at_call 107; refine (rgood_any _ _ (by omega) (by omega)).mono ?_; rintro e w' ⟨rfl, rfl⟩)
            | (go_simp; go_at_call 111; refine (one_any _ _ hx0 hx2).mono ?_; rintro e w' ⟨rfl, rfl⟩))
          all_goals (
            go_wp2
            go_ret3
            exact ⟨by rw [HFI.out]; rfl, (hbel.alloc hsize _).drew⟩)
        · have hbe : (s1.toList == s2.toList) = false := by
            rw [beq_eq_false_iff_ne]
            intro h
            apply hq
            have hy : ∀ z ∈ (c :: rest).take j, 0 ≤ z ∧ z ≤ 255 := fun z hz => hzz z (List.mem_of_mem_take hz)
            refine strOfNums_ne (Utf.enc_bytes x hg) hy ?_
            rw [← hs1, ← hs2]
            exact toList_inj h
          have hnot : ¬ Utf.fits c rest j := by
            intro hf
            apply hq
            have := hf.2
            rw [← HX.out] at this
            rw [hcons]; exact this
          have HN : Hid (∀ k, 1 ≤ k → k < j + 1 → ¬ Utf.fits c rest k) := no_more HF.out hnot
          clear hs1 hs2 hq hsz hcons hnot
          go_wp2_with (first
            | (go_at_call 124; refine (number_any _ _ _ _ j _ _ _ HS2.out hj1 hj4 hjn2).mono ?_; rintro e w' ⟨he, rfl⟩; obtain rfl : e = .returned (.int .i64 x) := (by rw [he, HX.out]); clear he))
          go_region_law (first
            | (go_simp; go_at_call 107; refine (rgood_any _ _ (by omega) (by omega)).mono ?_; rintro e w' ⟨rfl, rfl⟩)
            | (go_simp; go_at_call 111; refine (one_any _ _ hx0 hx2).mono ?_; rintro e w' ⟨rfl, rfl⟩))
          all_goals (
            go_wp2
            go_roundw
            case rel => exact ⟨j + 1, by omega, by omega, by omega, by go_num, HN, (hbel.alloc hsize _).drew⟩
            case measure => simp [intOf]; omega)
      · have hgf : Utf.good x = false := by simpa using hg
        have hnot : ¬ Utf.fits c rest j := by
          intro hf
          apply hg
          rw [HX.out]; exact hf.1
        have HN : Hid (∀ k, 1 ≤ k → k < j + 1 → ¬ Utf.fits c rest k) := no_more HF.out hnot
        have HGC : Hid (∀ W : World, Calls Tryz.prog 107 #[.int .i64 x] W fun e w' => e = .returned (.bool false) ∧ w' = W) := fun W => (rgood_any x W (by omega) (by omega)).mono fun e w' h => ⟨by rw [h.1, hgf], h.2.symm⟩
        clear hg hnot hgf
        go_wp2_with (first
          | (go_at_call 124; refine (number_any _ _ _ _ j _ _ _ HS2.out hj1 hj4 hjn2).mono ?_; rintro e w' ⟨he, rfl⟩; obtain rfl : e = .returned (.int .i64 x) := (by rw [he, HX.out]); clear he))
        go_quiet ((go_at_call 107; exact Calls.quiet_of_same (HGC.out _)))
        go_wp2
        go_roundw
        case rel => exact ⟨j + 1, by omega, by omega, by omega, by go_num, HN, below_drewN hbel _⟩
        case measure => simp [intOf]; omega
    · have hfin : Utf.takeL (c :: rest) = none := Utf.fits_none c rest (fun z hz => (hzz z hz).1) (fun k h1 h4 hl => HF.out k h1 (by rw [HL.out] at hl; omega))
      have HFI := Lib.hid hfin
      clear hfin
      by_cases h4 : j ≤ 4
      · have h4i : (j : Int) ≤ 4 := by omega
        have hni : ¬ (j : Int) ≤ (n : Int) := by omega
        clear hin h4
        go_wp2
        go_ret3
        exact ⟨by rw [HFI.out]; rfl, hbel⟩
      · have h4i : ¬ (j : Int) ≤ 4 := by omega
        clear hin h4
        go_wp2
        go_ret3
        exact ⟨by rw [HFI.out]; rfl, hbel⟩

end Go.Proofs.YtjmabjeaodojeaaGreat

/- Used by the law. -/
namespace Go.Proofs.YtjmabjeaodojeaaGreat
open Go.RowKit

set_option maxRecDepth 100000 in
theorem Tryz.info3 : (Tryz.prog.info? 3).map (fun i => (i.zero, i.size, i.bytes)) = some (some (.int .i64 0), 1, 8) := by kernel_rfl


def ReadPost (B : Nat) (zs : List Int) (w : World) (e : Ending) (w' : World) : Prop :=
  Below B w w' ∧ ((∃ l, Utf.IsRead zs (some l) ∧ ∃ a cap, e = .returned (.tuple #[.slice a l.length cap, .int .i64 0]) ∧ w'.ownsRow B 3 1 (.slice a l.length cap) l.length (i64s l)) ∨
    (Utf.IsRead zs none ∧ e = .returned (.tuple #[.slice none 0 0, .int .i64 10])))

set_option maxRecDepth 100000 in
theorem take_below (b off n cap : Nat) (c : Int) (rest : List Int) (w : World) (hs : Sl .u8 w (some ⟨b, off, none⟩) n cap (c :: rest)) :
    Calls Tryz.prog 65 #[.slice (some ⟨b, off, none⟩) n cap] w fun e w' => e = .returned (takeV (Utf.takeL (c :: rest))) ∧ Below w.heap.size w w' :=
  (take_some b off n cap c rest w hs).mono fun e w' h => ⟨h.1, by obtain ⟨m, hm⟩ := h.2; rw [hm]; exact below_drewN (Below.refl _ _) m⟩

set_option maxRecDepth 100000 in
set_option maxHeartbeats 2000000 in
theorem uread_any (a : Option Addr) (n cap : Nat) (zs : List Int) (w : World) (hs : Sl .u8 w a n cap zs) (hn : n ≤ 17592186044416) :
    Calls Tryz.prog 36 #[.slice a n cap] w (ReadPost w.heap.size zs w) := by
  obtain ⟨i0, hi, hz0, hz1, hz2⟩ := info_parts Tryz.info3
  have hcm := hs.2.2.1
  unfold maxLen at hcm
  have HS := Lib.hid hs
  clear hs
  go_enter Tryz.func36, Tryz.ntmps36
  go_wp2
  go_loopw [0, 4] (fun bv lv wr => ∃ (a' g : Option Addr) (n' cap' c2 : Nat) (d rs : List Int), bv = .slice a' n' cap' ∧ lv = .slice g d.length c2 ∧ d.length + n' ≤ n ∧ cap' ≤ cap ∧
      Hid (Sl .u8 w a' n' cap' rs) ∧ Hid (Utf.allGood d = true) ∧ Hid (zs = Utf.put d ++ rs) ∧ wr.ownsRow w.heap.size 3 1 (.slice g d.length c2) d.length (i64s d) ∧ Below w.heap.size w wr) (fun bv _ _ => match bv with | .slice _ m _ => m | _ => 0)
  case atStart => exact ⟨a, none, n, cap, 0, [], zs, rfl, rfl, by simp, Nat.le_refl _, HS, rfl, rfl, World.ownsRow_nil _ _ _ _, Below.refl _ _⟩
  case round =>
    obtain ⟨a', g, n', cap', c2, d, rs, rfl, rfl, hdn, hcc, HR, HD, HZ, hown, hbel⟩ := hrel
    by_cases hz : n' = 0
    · subst hz
      have hrs : rs = [] := List.eq_nil_of_length_eq_zero HR.out.1
      have hfin : Utf.IsRead zs (some d) := Utf.read_end HD.out (by rw [HZ.out, hrs])
      have HF := Lib.hid hfin
      clear hfin hrs
      go_wp2
      go_ret2
      exact ⟨hbel, .inl ⟨d, HF.out, g, c2, rfl, hown⟩⟩
    · obtain ⟨b, off, rfl, hlt, _⟩ := HR.out.at (by omega)
      obtain ⟨x, rest, rfl⟩ : ∃ x rest, rs = x :: rest := by
        cases rs with
        | nil => exact absurd HR.out.1.symm (by simpa using hz)
        | cons x rest => exact ⟨x, rest, rfl⟩
      have hnn : 0 < n' := by omega
      have hcn : n' ≤ cap' := HR.out.2.1
      have hpos : ∀ z ∈ x :: rest, 0 ≤ z := fun z hz => (bounds_u8 (HR.out.2.2.2.1 z hz)).1
      have htk := Utf.takeL_is (x :: rest) hpos
      have hcall := take_below b off n' cap' x rest wr (HR.out.below hbel (Nat.le_refl _))
      have hsize := hbel.size
      clear hpos
      cases ht : Utf.takeL (x :: rest) with
      | none =>
        rw [ht] at htk hcall
        simp only [takeV] at hcall
        have HF : Hid (Utf.IsRead zs none) := Utf.read_stop HD.out HZ.out (by simp) htk
        have HC := Lib.hid hcall
        clear ht htk hcall
        go_wp2_with (go_at_call 65; refine (HC.out).mono ?_; rintro e w1 ⟨rfl, hb1⟩)
        go_ret2
        exact ⟨hbel.trans (hb1.mono hsize), .inr ⟨HF.out, rfl⟩⟩
      | some p =>
        obtain ⟨s, k⟩ := p
        rw [ht] at htk hcall
        simp only [takeV] at hcall
        have hstep := Utf.read_step HD.out HZ.out htk
        have hk0 : 0 < k := by obtain ⟨_, rfl, _⟩ := htk; exact Utf.size_pos s
        have hkn : k ≤ n' := by
          obtain ⟨_, rfl, r, e⟩ := htk
          have := congrArg List.length e
          rw [HR.out.1, List.length_append, Utf.enc_length] at this
          omega
        have HC := Lib.hid hcall
        have HST := Lib.hid hstep
        have hpiece : ¬ cap' = k → Sl .u8 w (some ⟨b, off + k, none⟩) (n' - k) (cap' - k) ((x :: rest).drop k) := fun _ => by
          have := HR.out.piece k (n' - k) (by omega)
          rwa [List.take_of_length_le (by rw [List.length_drop, HR.out.1]; omega)] at this
        have hend : cap' = k → Sl .u8 w (some ⟨b, off, none⟩) (n' - k) (cap' - k) ((x :: rest).drop k) := fun e => by
          have e0 : n' - k = 0 := by omega
          refine ⟨by rw [List.length_drop, HR.out.1], by omega, by unfold maxLen; omega, fun z hz => HR.out.2.2.2.1 z (List.mem_of_mem_drop hz), .inl e0⟩
        have HP := Lib.hid hpiece
        have HE := Lib.hid hend
        clear ht htk hcall hstep hpiece hend
        have hd8 : (d.length + 1) * 8 ≤ 140737488355328 := by omega
        have hd63 : d.length + 1 ≤ maxLen := by unfold maxLen; omega
        by_cases hcap : cap' = k
        · subst hcap
          go_wp2_with (first
            | (go_at_call 65; refine (HC.out).mono ?_; rintro e w1 ⟨rfl, hb1⟩; have hown1 := ownsRow_below hown hb1 (Nat.le_refl _); have hsz1 := hb1.size)
            | (at_builtin; refine wpList_append_lies _ (by rfl) (.tmp 20) (.tmp 22) 37 (by rfl) w.heap.size 3 i0 (.int .i64 0) 1 8 Tryz.underlying37 hi hz0 hz1 hz2 rfl (by decide) _ _ _ (by rfl) (hown1.alloc _) ⟨w1.heap.size, 0, none⟩ 1 1 [.int .i64 s] (by rfl) rfl (one_newp rfl) (by simp [Value.oneCell']) (by decide) hd63 hd8 (by simp; omega) _ rfl ?_; intro g3 c3 w3 hown3 hgrow3 hat3 hlt3))
          have hb3 : Below w.heap.size w w3 := (((hbel.trans (hb1.mono hsize)).alloc (by omega) _).grown hgrow3 (by simp; omega) (by intro m hm; exact (hown1.lt m hm).1))
          rw [i64s_snoc] at hown3
          have el : d.length + 1 = (d ++ [s]).length := by simp
          rw [el] at hown3
          clear hgrow3 hat3 hlt3 hown1 hown hb1
          go_roundw
          case rel => exact ⟨some ⟨b, off, none⟩, some ⟨g3, 0, none⟩, n' - cap', cap' - cap', c3, d ++ [s], (x :: rest).drop cap', by rw [show n' - cap' = 0 from by omega, show cap' - cap' = 0 from by omega], by rw [el], by simp; omega, by omega, HE.out (by simp), HST.out.1, HST.out.2, hown3, hb3⟩
          case measure => simp; omega
        · go_wp2_with (first
            | (go_at_call 65; refine (HC.out).mono ?_; rintro e w1 ⟨rfl, hb1⟩; have hown1 := ownsRow_below hown hb1 (Nat.le_refl _); have hsz1 := hb1.size)
            | (at_builtin; refine wpList_append_lies _ (by rfl) (.tmp 20) (.tmp 22) 37 (by rfl) w.heap.size 3 i0 (.int .i64 0) 1 8 Tryz.underlying37 hi hz0 hz1 hz2 rfl (by decide) _ _ _ (by rfl) (hown1.alloc _) ⟨w1.heap.size, 0, none⟩ 1 1 [.int .i64 s] (by rfl) rfl (one_newp rfl) (by simp [Value.oneCell']) (by decide) hd63 hd8 (by simp; omega) _ rfl ?_; intro g3 c3 w3 hown3 hgrow3 hat3 hlt3))
          have hb3 : Below w.heap.size w w3 := (((hbel.trans (hb1.mono hsize)).alloc (by omega) _).grown hgrow3 (by simp; omega) (by intro m hm; exact (hown1.lt m hm).1))
          rw [i64s_snoc] at hown3
          have el : d.length + 1 = (d ++ [s]).length := by simp
          rw [el] at hown3
          clear hgrow3 hat3 hlt3 hown1 hown hb1
          go_roundw
          case rel => exact ⟨some ⟨b, off + k, none⟩, some ⟨g3, 0, none⟩, n' - k, cap' - k, c3, d ++ [s], (x :: rest).drop k, rfl, by rw [el], by simp; omega, by omega, HP.out hcap, HST.out.1, HST.out.2, hown3, hb3⟩
          case measure => simp; omega

set_option maxRecDepth 100000 in
set_option maxHeartbeats 2000000 in
theorem ruread_any (a : Option Addr) (n cap : Nat) (zs : List Int) (w : World) (hs : Sl .u8 w a n cap zs) (hn : n ≤ 17592186044416) :
    Calls Tryz.prog 79 #[.slice a n cap] w (ReadPost w.heap.size zs w) := by
  obtain ⟨i0, hi, hz0, hz1, hz2⟩ := info_parts Tryz.info3
  have hcm := hs.2.2.1
  unfold maxLen at hcm
  have HS := Lib.hid hs
  clear hs
  go_enter Tryz.func79, Tryz.ntmps79
  go_wp2
  go_loopw [0, 4] (fun bv lv wr => ∃ (a' g : Option Addr) (n' cap' c2 : Nat) (d rs : List Int), bv = .slice a' n' cap' ∧ lv = .slice g d.length c2 ∧ d.length + n' ≤ n ∧ cap' ≤ cap ∧
      Hid (Sl .u8 w a' n' cap' rs) ∧ Hid (Utf.allGood d = true) ∧ Hid (zs = Utf.put d ++ rs) ∧ wr.ownsRow w.heap.size 3 1 (.slice g d.length c2) d.length (i64s d) ∧ Below w.heap.size w wr) (fun bv _ _ => match bv with | .slice _ m _ => m | _ => 0)
  case atStart => exact ⟨a, none, n, cap, 0, [], zs, rfl, rfl, by simp, Nat.le_refl _, HS, rfl, rfl, World.ownsRow_nil _ _ _ _, Below.refl _ _⟩
  case round =>
    obtain ⟨a', g, n', cap', c2, d, rs, rfl, rfl, hdn, hcc, HR, HD, HZ, hown, hbel⟩ := hrel
    by_cases hz : n' = 0
    · subst hz
      have hrs : rs = [] := List.eq_nil_of_length_eq_zero HR.out.1
      have hfin : Utf.IsRead zs (some d) := Utf.read_end HD.out (by rw [HZ.out, hrs])
      have HF := Lib.hid hfin
      clear hfin hrs
      go_wp2
      go_ret2
      exact ⟨hbel, .inl ⟨d, HF.out, g, c2, rfl, hown⟩⟩
    · obtain ⟨b, off, rfl, hlt, _⟩ := HR.out.at (by omega)
      obtain ⟨x, rest, rfl⟩ : ∃ x rest, rs = x :: rest := by
        cases rs with
        | nil => exact absurd HR.out.1.symm (by simpa using hz)
        | cons x rest => exact ⟨x, rest, rfl⟩
      have hnn : 0 < n' := by omega
      have hcn : n' ≤ cap' := HR.out.2.1
      have hpos : ∀ z ∈ x :: rest, 0 ≤ z := fun z hz => (bounds_u8 (HR.out.2.2.2.1 z hz)).1
      have htk := Utf.takeL_is (x :: rest) hpos
      have hcall := rtake_some b off n' cap' x rest wr (HR.out.below hbel (Nat.le_refl _))
      have hsize := hbel.size
      clear hpos
      cases ht : Utf.takeL (x :: rest) with
      | none =>
        rw [ht] at htk hcall
        simp only [takeV] at hcall
        have HF : Hid (Utf.IsRead zs none) := Utf.read_stop HD.out HZ.out (by simp) htk
        have HC := Lib.hid hcall
        clear ht htk hcall
        go_wp2_with (go_at_call 106; refine (HC.out).mono ?_; rintro e w1 ⟨rfl, hb1⟩)
        go_ret2
        exact ⟨hbel.trans (hb1.mono hsize), .inr ⟨HF.out, rfl⟩⟩
      | some p =>
        obtain ⟨s, k⟩ := p
        rw [ht] at htk hcall
        simp only [takeV] at hcall
        have hstep := Utf.read_step HD.out HZ.out htk
        have hk0 : 0 < k := by obtain ⟨_, rfl, _⟩ := htk; exact Utf.size_pos s
        have hkn : k ≤ n' := by
          obtain ⟨_, rfl, r, e⟩ := htk
          have := congrArg List.length e
          rw [HR.out.1, List.length_append, Utf.enc_length] at this
          omega
        have HC := Lib.hid hcall
        have HST := Lib.hid hstep
        have hpiece : ¬ cap' = k → Sl .u8 w (some ⟨b, off + k, none⟩) (n' - k) (cap' - k) ((x :: rest).drop k) := fun _ => by
          have := HR.out.piece k (n' - k) (by omega)
          rwa [List.take_of_length_le (by rw [List.length_drop, HR.out.1]; omega)] at this
        have hend : cap' = k → Sl .u8 w (some ⟨b, off, none⟩) (n' - k) (cap' - k) ((x :: rest).drop k) := fun e => by
          have e0 : n' - k = 0 := by omega
          refine ⟨by rw [List.length_drop, HR.out.1], by omega, by unfold maxLen; omega, fun z hz => HR.out.2.2.2.1 z (List.mem_of_mem_drop hz), .inl e0⟩
        have HP := Lib.hid hpiece
        have HE := Lib.hid hend
        clear ht htk hcall hstep hpiece hend
        have hd8 : (d.length + 1) * 8 ≤ 140737488355328 := by omega
        have hd63 : d.length + 1 ≤ maxLen := by unfold maxLen; omega
        by_cases hcap : cap' = k
        · subst hcap
          go_wp2_with (first
            | (go_at_call 106; refine (HC.out).mono ?_; rintro e w1 ⟨rfl, hb1⟩; have hown1 := ownsRow_below hown hb1 (Nat.le_refl _); have hsz1 := hb1.size)
            | (at_builtin; refine wpList_append_lies _ (by rfl) (.tmp 20) (.tmp 22) 37 (by rfl) w.heap.size 3 i0 (.int .i64 0) 1 8 Tryz.underlying37 hi hz0 hz1 hz2 rfl (by decide) _ _ _ (by rfl) (hown1.alloc _) ⟨w1.heap.size, 0, none⟩ 1 1 [.int .i64 s] (by rfl) rfl (one_newp rfl) (by simp [Value.oneCell']) (by decide) hd63 hd8 (by simp; omega) _ rfl ?_; intro g3 c3 w3 hown3 hgrow3 hat3 hlt3))
          have hb3 : Below w.heap.size w w3 := (((hbel.trans (hb1.mono hsize)).alloc (by omega) _).grown hgrow3 (by simp; omega) (by intro m hm; exact (hown1.lt m hm).1))
          rw [i64s_snoc] at hown3
          have el : d.length + 1 = (d ++ [s]).length := by simp
          rw [el] at hown3
          clear hgrow3 hat3 hlt3 hown1 hown hb1
          go_roundw
          case rel => exact ⟨some ⟨b, off, none⟩, some ⟨g3, 0, none⟩, n' - cap', cap' - cap', c3, d ++ [s], (x :: rest).drop cap', by rw [show n' - cap' = 0 from by omega, show cap' - cap' = 0 from by omega], by rw [el], by simp; omega, by omega, HE.out (by simp), HST.out.1, HST.out.2, hown3, hb3⟩
          case measure => simp; omega
        · go_wp2_with (first
            | (go_at_call 106; refine (HC.out).mono ?_; rintro e w1 ⟨rfl, hb1⟩; have hown1 := ownsRow_below hown hb1 (Nat.le_refl _); have hsz1 := hb1.size)
            | (at_builtin; refine wpList_append_lies _ (by rfl) (.tmp 20) (.tmp 22) 37 (by rfl) w.heap.size 3 i0 (.int .i64 0) 1 8 Tryz.underlying37 hi hz0 hz1 hz2 rfl (by decide) _ _ _ (by rfl) (hown1.alloc _) ⟨w1.heap.size, 0, none⟩ 1 1 [.int .i64 s] (by rfl) rfl (one_newp rfl) (by simp [Value.oneCell']) (by decide) hd63 hd8 (by simp; omega) _ rfl ?_; intro g3 c3 w3 hown3 hgrow3 hat3 hlt3))
          have hb3 : Below w.heap.size w w3 := (((hbel.trans (hb1.mono hsize)).alloc (by omega) _).grown hgrow3 (by simp; omega) (by intro m hm; exact (hown1.lt m hm).1))
          rw [i64s_snoc] at hown3
          have el : d.length + 1 = (d ++ [s]).length := by simp
          rw [el] at hown3
          clear hgrow3 hat3 hlt3 hown1 hown hb1
          go_roundw
          case rel => exact ⟨some ⟨b, off + k, none⟩, some ⟨g3, 0, none⟩, n' - k, cap' - k, c3, d ++ [s], (x :: rest).drop k, rfl, by rw [el], by simp; omega, by omega, HP.out hcap, HST.out.1, HST.out.2, hown3, hb3⟩
          case measure => simp; omega

end Go.Proofs.YtjmabjeaodojeaaGreat

/- Used by the law. -/
namespace Go.Proofs.YtjmabjeaodojeaaGreat
open Go.RowKit


end Go.Proofs.YtjmabjeaodojeaaGreat

/- Used by the law. -/
namespace Go.Proofs.YtjmabjeaodojeaaGreat
open Go.RowKit

theorem good_wf {l : List Int} (h : Utf.allGood l = true) : ∀ z ∈ l, (Lit.int .i64 z).wf = true := by
  intro z hz
  have := (Utf.good_iff z).1 (by simpa using (List.all_eq_true.1 h) z hz)
  exact WalkArith.wf_i64 (by omega)
theorem put_wf {l : List Int} (h : Utf.allGood l = true) : ∀ z ∈ Utf.put l, (Lit.int .u8 z).wf = true := fun z hz => WalkArith.wf_u8 (Utf.put_bytes l h z hz)

set_option maxRecDepth 100000 in
theorem put_ok (a : Option Addr) (n cap : Nat) (zs : List Int) (w : World) (hs : Sl .i64 w a n cap zs) (hn : n ≤ 17592186044416) (hg : Utf.allGood zs = true) :
    Calls Tryz.prog 88 #[.slice a n cap] w fun e w' => ∃ g c, e = .returned (.tuple #[.slice (some ⟨g, 0, none⟩) (Utf.put zs).length c, .int .i64 0]) ∧
      Sl .u8 w' (some ⟨g, 0, none⟩) (Utf.put zs).length c (Utf.put zs) ∧ Below w.heap.size w w' :=
  (put_any a n cap zs w hs hn).mono fun e w' h => by
    obtain ⟨hb, ⟨_, g, c, he, ho⟩ | ⟨h0, _⟩⟩ := h
    · exact ⟨g, c, he, Sl.of_owns ho (put_wf hg) rfl, hb⟩
    · rw [hg] at h0; cases h0
set_option maxRecDepth 100000 in
theorem rput_ok (a : Option Addr) (n cap : Nat) (zs : List Int) (w : World) (hs : Sl .i64 w a n cap zs) (hn : n ≤ 17592186044416) (hg : Utf.allGood zs = true) :
    Calls Tryz.prog 90 #[.slice a n cap] w fun e w' => ∃ g c, e = .returned (.tuple #[.slice g (Utf.put zs).length c, .int .i64 0]) ∧
      Sl .u8 w' g (Utf.put zs).length c (Utf.put zs) ∧ Below w.heap.size w w' :=
  (rput_any a n cap zs w hs hn).mono fun e w' h => by
    obtain ⟨hb, ⟨_, g, c, he, ho⟩ | ⟨h0, _⟩⟩ := h
    · exact ⟨g, c, he, Sl.of_owns ho (put_wf hg) rfl, hb⟩
    · rw [hg] at h0; cases h0
theorem read_ok_of {B : Nat} {zs l : List Int} {w : World} (hl : Utf.IsRead zs (some l)) {e : Ending} {w' : World} (h : ReadPost B zs w e w') :
    ∃ g c, e = .returned (.tuple #[.slice g l.length c, .int .i64 0]) ∧ Sl .i64 w' g l.length c l ∧ Below B w w' := by
  obtain ⟨hb, ⟨l', hl', g, c, he, ho⟩ | ⟨h0, _⟩⟩ := h
  · have := hl'.one hl
    simp only [Option.some.injEq] at this
    subst this
    exact ⟨g, c, he, Sl.of_owns ho (good_wf hl.1) rfl, hb⟩
  · have := h0.one hl; cases this
theorem read_bad_of {B : Nat} {zs : List Int} {w : World} (hl : Utf.IsRead zs none) {e : Ending} {w' : World} (h : ReadPost B zs w e w') :
    e = .returned (.tuple #[.slice none 0 0, .int .i64 10]) ∧ Below B w w' := by
  obtain ⟨hb, ⟨l', hl', g, c, he, ho⟩ | ⟨_, he⟩⟩ := h
  · have := hl'.one hl; cases this
  · exact ⟨he, hb⟩
set_option maxRecDepth 100000 in
theorem read_bad (a : Option Addr) (n cap : Nat) (zs : List Int) (w : World) (hs : Sl .u8 w a n cap zs) (hn : n ≤ 17592186044416) (hl : Utf.IsRead zs none) :
    Calls Tryz.prog 36 #[.slice a n cap] w fun e w' => e = .returned (.tuple #[.slice none 0 0, .int .i64 10]) ∧ Below w.heap.size w w' :=
  (uread_any a n cap zs w hs hn).mono fun _ _ h => read_bad_of hl h
set_option maxRecDepth 100000 in
theorem rread_ok (a : Option Addr) (n cap : Nat) (zs l : List Int) (w : World) (hs : Sl .u8 w a n cap zs) (hn : n ≤ 17592186044416) (hl : Utf.IsRead zs (some l)) :
    Calls Tryz.prog 79 #[.slice a n cap] w fun e w' => ∃ g c, e = .returned (.tuple #[.slice g l.length c, .int .i64 0]) ∧ Sl .i64 w' g l.length c l ∧ Below w.heap.size w w' :=
  (ruread_any a n cap zs w hs hn).mono fun _ _ h => read_ok_of hl h
set_option maxRecDepth 100000 in
theorem rread_bad (a : Option Addr) (n cap : Nat) (zs : List Int) (w : World) (hs : Sl .u8 w a n cap zs) (hn : n ≤ 17592186044416) (hl : Utf.IsRead zs none) :
    Calls Tryz.prog 79 #[.slice a n cap] w fun e w' => e = .returned (.tuple #[.slice none 0 0, .int .i64 10]) ∧ Below w.heap.size w w' :=
  (ruread_any a n cap zs w hs hn).mono fun _ _ h => read_bad_of hl h
theorem read_or (zs : List Int) : Utf.IsRead zs none ∨ ∃ l, Utf.IsRead zs (some l) := by
  rcases Classical.em (∃ l, Utf.IsRead zs (some l)) with h | h
  · exact .inr h
  · exact .inl fun l hl e => h ⟨l, hl, e⟩
end Go.Proofs.YtjmabjeaodojeaaGreat

/- Used by the law. -/
namespace Go.Proofs.YtjmabjeaodojeaaGreat
open Go.RowKit

def PutIs (zs bs : List Int) (er : Int) : Prop := (Utf.allGood zs = true ∧ bs = Utf.put zs ∧ er = 0) ∨ (Utf.allGood zs = false ∧ bs = [] ∧ er = 10)
theorem PutIs.wf {zs bs : List Int} {er : Int} (h : PutIs zs bs er) : ∀ z ∈ bs, 0 ≤ z ∧ z ≤ 255 := by
  obtain ⟨h1, rfl, _⟩ | ⟨_, rfl, _⟩ := h
  · exact Utf.put_bytes zs h1
  · simp
def ReadIs (zs l : List Int) (er : Int) : Prop := (Utf.IsRead zs (some l) ∧ er = 0) ∨ (Utf.IsRead zs none ∧ l = [] ∧ er = 10)
theorem readIs_ex (zs : List Int) : ∃ l er, ReadIs zs l er := by
  rcases read_or zs with h | ⟨l, h⟩
  · exact ⟨_, _, .inr ⟨h, rfl, rfl⟩⟩
  · exact ⟨_, _, .inl ⟨h, rfl⟩⟩
set_option maxRecDepth 100000 in
theorem rread_gen (a : Option Addr) (n cap : Nat) (zs l : List Int) (er : Int) (w : World) (h : ReadIs zs l er) (hs : Sl .u8 w a n cap zs) (hn : n ≤ 17592186044416) :
    Calls Tryz.prog 79 #[.slice a n cap] w fun e w' => ∃ (a' : Option Addr) (c : Nat), e = .returned (.tuple #[.slice a' l.length c, .int .i64 er]) ∧ Sl .i64 w' a' l.length c l ∧ Below w.heap.size w w' := by
  obtain ⟨h1, rfl⟩ | ⟨h1, rfl, rfl⟩ := h
  · exact rread_ok a n cap zs l w hs hn h1
  · refine (rread_bad a n cap zs w hs hn h1).mono ?_
    rintro e w' ⟨rfl, hb⟩
    exact ⟨none, 0, rfl, ⟨rfl, Nat.le_refl _, by decide, by simp, .inl rfl⟩, hb⟩

def TakeIs (zs : List Int) (s : Int) (k : Nat) (er : Int) : Prop := (Utf.takeL zs = some (s, k) ∧ er = 0) ∨ (Utf.takeL zs = none ∧ s = 0 ∧ k = 0 ∧ er = 10)
theorem TakeIs.v {zs : List Int} {s : Int} {k : Nat} {er : Int} (h : TakeIs zs s k er) : takeV (Utf.takeL zs) = .tuple #[.int .i64 s, .int .i64 k, .int .i64 er] := by
  obtain ⟨h1, rfl⟩ | ⟨h1, rfl, rfl, rfl⟩ := h
  · rw [h1]; rfl
  · rw [h1]; rfl
end Go.Proofs.YtjmabjeaodojeaaGreat
