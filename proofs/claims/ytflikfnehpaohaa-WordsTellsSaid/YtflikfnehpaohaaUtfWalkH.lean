/- utf.Read, and the document's own: the signs of bytes, in a row of their own, or ErrUtf. Asked: no more than 2^44 bytes. -/
import Derived.Test.YtflikfnehpaohaaUtfWalkG
namespace Go.Proofs.Ytflikfnehpaohaa
open Go.RowKit

set_option maxRecDepth 100000 in
theorem Try.info3 : (Try.prog.info? 3).map (fun i => (i.zero, i.size, i.bytes)) = some (some (.int .i64 0), 1, 8) := by kernel_rfl


/-- what Read answers -/
def ReadPost (B : Nat) (zs : List Int) (w : World) (e : Ending) (w' : World) : Prop :=
  Below B w w' ∧ ((∃ l, Utf.IsRead zs (some l) ∧ ∃ a cap, e = .returned (.tuple #[.slice a l.length cap, .int .i64 0]) ∧ w'.ownsRow B 3 1 (.slice a l.length cap) l.length (i64s l)) ∨
    (Utf.IsRead zs none ∧ e = .returned (.tuple #[.slice none 0 0, .int .i64 10])))

set_option maxRecDepth 100000 in
theorem take_below (b off n cap : Nat) (c : Int) (rest : List Int) (w : World) (hs : Sl .u8 w (some ⟨b, off, none⟩) n cap (c :: rest)) :
    Calls Try.prog 45 #[.slice (some ⟨b, off, none⟩) n cap] w fun e w' => e = .returned (takeV (Utf.takeL (c :: rest))) ∧ Below w.heap.size w w' :=
  (take_some b off n cap c rest w hs).mono fun e w' h => ⟨h.1, by obtain ⟨m, hm⟩ := h.2; rw [hm]; exact below_drewN (Below.refl _ _) m⟩

set_option maxRecDepth 100000 in
set_option maxHeartbeats 2000000 in
theorem uread_any (a : Option Addr) (n cap : Nat) (zs : List Int) (w : World) (hs : Sl .u8 w a n cap zs) (hn : n ≤ 17592186044416) :
    Calls Try.prog 20 #[.slice a n cap] w (ReadPost w.heap.size zs w) := by
  obtain ⟨i0, hi, hz0, hz1, hz2⟩ := info_parts Try.info3
  have hcm := hs.2.2.1
  unfold maxLen at hcm
  have HS := Lib.hid hs
  clear hs
  go_enter Try.func20, Try.ntmps20
  go_wp2
  go_loopw [0, 4] (fun bv lv wr => ∃ (a' g : Option Addr) (n' cap' c2 : Nat) (d rs : List Int), bv = .slice a' n' cap' ∧ lv = .slice g d.length c2 ∧ d.length + n' ≤ n ∧ cap' ≤ cap ∧
      Hid (Sl .u8 w a' n' cap' rs) ∧ Hid (Utf.allGood d = true) ∧ Hid (zs = Utf.put d ++ rs) ∧ wr.ownsRow w.heap.size 3 1 (.slice g d.length c2) d.length (i64s d) ∧ Below w.heap.size w wr) (fun bv _ _ => match bv with | .slice _ m _ => m | _ => 0)
  case atStart => exact ⟨a, none, n, cap, 0, [], zs, rfl, rfl, by simp, Nat.le_refl _, HS, rfl, rfl, World.ownsRow_nil _ _ _ _, Below.refl _ _⟩
  case round =>
    obtain ⟨a', g, n', cap', c2, d, rs, rfl, rfl, hdn, hcc, HR, HD, HZ, hown, hbel⟩ := hrel
    by_cases hz : n' = 0
    · subst hz
      have hrs : rs = [] := List.eq_nil_of_length_eq_zero HR.out.1
      have hfin : Utf.IsRead zs (some d) := Utf.read_end HD.out (by rw [HZ.out, hrs])
      have HF := Lib.hid hfin
      clear hfin hrs
      go_wp2
      go_ret2
      exact ⟨hbel, .inl ⟨d, HF.out, g, c2, rfl, hown⟩⟩
    · obtain ⟨b, off, rfl, hlt, _⟩ := HR.out.at (by omega)
      obtain ⟨x, rest, rfl⟩ : ∃ x rest, rs = x :: rest := by
        cases rs with
        | nil => exact absurd HR.out.1.symm (by simpa using hz)
        | cons x rest => exact ⟨x, rest, rfl⟩
      have hnn : 0 < n' := by omega
      have hcn : n' ≤ cap' := HR.out.2.1
      have hpos : ∀ z ∈ x :: rest, 0 ≤ z := fun z hz => (bounds_u8 (HR.out.2.2.2.1 z hz)).1
      have htk := Utf.takeL_is (x :: rest) hpos
      have hcall := take_below b off n' cap' x rest wr (HR.out.below hbel (Nat.le_refl _))
      have hsize := hbel.size
      clear hpos
      cases ht : Utf.takeL (x :: rest) with
      | none =>
        rw [ht] at htk hcall
        simp only [takeV] at hcall
        have HF : Hid (Utf.IsRead zs none) := Utf.read_stop HD.out HZ.out (by simp) htk
        have HC := Lib.hid hcall
        clear ht htk hcall
        go_wp2_with (go_at_call 45; refine (HC.out).mono ?_; rintro e w1 ⟨rfl, hb1⟩)
        go_ret2
        exact ⟨hbel.trans (hb1.mono hsize), .inr ⟨HF.out, rfl⟩⟩
      | some p =>
        obtain ⟨s, k⟩ := p
        rw [ht] at htk hcall
        simp only [takeV] at hcall
        have hstep := Utf.read_step HD.out HZ.out htk
        have hk0 : 0 < k := by obtain ⟨_, rfl, _⟩ := htk; exact Utf.size_pos s
        have hkn : k ≤ n' := by
          obtain ⟨_, rfl, r, e⟩ := htk
          have := congrArg List.length e
          rw [HR.out.1, List.length_append, Utf.enc_length] at this
          omega
        have HC := Lib.hid hcall
        have HST := Lib.hid hstep
        have hpiece : ¬ cap' = k → Sl .u8 w (some ⟨b, off + k, none⟩) (n' - k) (cap' - k) ((x :: rest).drop k) := fun _ => by
          have := HR.out.piece k (n' - k) (by omega)
          rwa [List.take_of_length_le (by rw [List.length_drop, HR.out.1]; omega)] at this
        have hend : cap' = k → Sl .u8 w (some ⟨b, off, none⟩) (n' - k) (cap' - k) ((x :: rest).drop k) := fun e => by
          have e0 : n' - k = 0 := by omega
          refine ⟨by rw [List.length_drop, HR.out.1], by omega, by unfold maxLen; omega, fun z hz => HR.out.2.2.2.1 z (List.mem_of_mem_drop hz), .inl e0⟩
        have HP := Lib.hid hpiece
        have HE := Lib.hid hend
        clear ht htk hcall hstep hpiece hend
        have hd8 : (d.length + 1) * 8 ≤ 140737488355328 := by omega
        have hd63 : d.length + 1 ≤ maxLen := by unfold maxLen; omega
        by_cases hcap : cap' = k
        · subst hcap
          go_wp2_with (first
            | (go_at_call 45; refine (HC.out).mono ?_; rintro e w1 ⟨rfl, hb1⟩; have hown1 := ownsRow_below hown hb1 (Nat.le_refl _); have hsz1 := hb1.size)
            | (at_builtin; refine wpList_append_lies _ (by rfl) (.tmp 20) (.tmp 22) 24 (by rfl) w.heap.size 3 i0 (.int .i64 0) 1 8 Try.underlying24 hi hz0 hz1 hz2 rfl (by decide) _ _ _ (by rfl) (hown1.alloc _) ⟨w1.heap.size, 0, none⟩ 1 1 [.int .i64 s] (by rfl) rfl (one_newp rfl) (by simp [Value.oneCell']) (by decide) hd63 hd8 (by simp; omega) _ rfl ?_; intro g3 c3 w3 hown3 hgrow3 hat3 hlt3))
          have hb3 : Below w.heap.size w w3 := (((hbel.trans (hb1.mono hsize)).alloc (by omega) _).grown hgrow3 (by simp; omega) (by intro m hm; exact (hown1.lt m hm).1))
          rw [i64s_snoc] at hown3
          have el : d.length + 1 = (d ++ [s]).length := by simp
          rw [el] at hown3
          clear hgrow3 hat3 hlt3 hown1 hown hb1
          go_roundw
          case rel => exact ⟨some ⟨b, off, none⟩, some ⟨g3, 0, none⟩, n' - cap', cap' - cap', c3, d ++ [s], (x :: rest).drop cap', by rw [show n' - cap' = 0 from by omega, show cap' - cap' = 0 from by omega], by rw [el], by simp; omega, by omega, HE.out (by simp), HST.out.1, HST.out.2, hown3, hb3⟩
          case measure => simp; omega
        · go_wp2_with (first
            | (go_at_call 45; refine (HC.out).mono ?_; rintro e w1 ⟨rfl, hb1⟩; have hown1 := ownsRow_below hown hb1 (Nat.le_refl _); have hsz1 := hb1.size)
            | (at_builtin; refine wpList_append_lies _ (by rfl) (.tmp 20) (.tmp 22) 24 (by rfl) w.heap.size 3 i0 (.int .i64 0) 1 8 Try.underlying24 hi hz0 hz1 hz2 rfl (by decide) _ _ _ (by rfl) (hown1.alloc _) ⟨w1.heap.size, 0, none⟩ 1 1 [.int .i64 s] (by rfl) rfl (one_newp rfl) (by simp [Value.oneCell']) (by decide) hd63 hd8 (by simp; omega) _ rfl ?_; intro g3 c3 w3 hown3 hgrow3 hat3 hlt3))
          have hb3 : Below w.heap.size w w3 := (((hbel.trans (hb1.mono hsize)).alloc (by omega) _).grown hgrow3 (by simp; omega) (by intro m hm; exact (hown1.lt m hm).1))
          rw [i64s_snoc] at hown3
          have el : d.length + 1 = (d ++ [s]).length := by simp
          rw [el] at hown3
          clear hgrow3 hat3 hlt3 hown1 hown hb1
          go_roundw
          case rel => exact ⟨some ⟨b, off + k, none⟩, some ⟨g3, 0, none⟩, n' - k, cap' - k, c3, d ++ [s], (x :: rest).drop k, rfl, by rw [el], by simp; omega, by omega, HP.out hcap, HST.out.1, HST.out.2, hown3, hb3⟩
          case measure => simp; omega

set_option maxRecDepth 100000 in
set_option maxHeartbeats 2000000 in
theorem ruread_any (a : Option Addr) (n cap : Nat) (zs : List Int) (w : World) (hs : Sl .u8 w a n cap zs) (hn : n ≤ 17592186044416) :
    Calls Try.prog 31 #[.slice a n cap] w (ReadPost w.heap.size zs w) := by
  obtain ⟨i0, hi, hz0, hz1, hz2⟩ := info_parts Try.info3
  have hcm := hs.2.2.1
  unfold maxLen at hcm
  have HS := Lib.hid hs
  clear hs
  go_enter Try.func31, Try.ntmps31
  go_wp2
  go_loopw [0, 4] (fun bv lv wr => ∃ (a' g : Option Addr) (n' cap' c2 : Nat) (d rs : List Int), bv = .slice a' n' cap' ∧ lv = .slice g d.length c2 ∧ d.length + n' ≤ n ∧ cap' ≤ cap ∧
      Hid (Sl .u8 w a' n' cap' rs) ∧ Hid (Utf.allGood d = true) ∧ Hid (zs = Utf.put d ++ rs) ∧ wr.ownsRow w.heap.size 3 1 (.slice g d.length c2) d.length (i64s d) ∧ Below w.heap.size w wr) (fun bv _ _ => match bv with | .slice _ m _ => m | _ => 0)
  case atStart => exact ⟨a, none, n, cap, 0, [], zs, rfl, rfl, by simp, Nat.le_refl _, HS, rfl, rfl, World.ownsRow_nil _ _ _ _, Below.refl _ _⟩
  case round =>
    obtain ⟨a', g, n', cap', c2, d, rs, rfl, rfl, hdn, hcc, HR, HD, HZ, hown, hbel⟩ := hrel
    by_cases hz : n' = 0
    · subst hz
      have hrs : rs = [] := List.eq_nil_of_length_eq_zero HR.out.1
      have hfin : Utf.IsRead zs (some d) := Utf.read_end HD.out (by rw [HZ.out, hrs])
      have HF := Lib.hid hfin
      clear hfin hrs
      go_wp2
      go_ret2
      exact ⟨hbel, .inl ⟨d, HF.out, g, c2, rfl, hown⟩⟩
    · obtain ⟨b, off, rfl, hlt, _⟩ := HR.out.at (by omega)
      obtain ⟨x, rest, rfl⟩ : ∃ x rest, rs = x :: rest := by
        cases rs with
        | nil => exact absurd HR.out.1.symm (by simpa using hz)
        | cons x rest => exact ⟨x, rest, rfl⟩
      have hnn : 0 < n' := by omega
      have hcn : n' ≤ cap' := HR.out.2.1
      have hpos : ∀ z ∈ x :: rest, 0 ≤ z := fun z hz => (bounds_u8 (HR.out.2.2.2.1 z hz)).1
      have htk := Utf.takeL_is (x :: rest) hpos
      have hcall := rtake_some b off n' cap' x rest wr (HR.out.below hbel (Nat.le_refl _))
      have hsize := hbel.size
      clear hpos
      cases ht : Utf.takeL (x :: rest) with
      | none =>
        rw [ht] at htk hcall
        simp only [takeV] at hcall
        have HF : Hid (Utf.IsRead zs none) := Utf.read_stop HD.out HZ.out (by simp) htk
        have HC := Lib.hid hcall
        clear ht htk hcall
        go_wp2_with (go_at_call 54; refine (HC.out).mono ?_; rintro e w1 ⟨rfl, hb1⟩)
        go_ret2
        exact ⟨hbel.trans (hb1.mono hsize), .inr ⟨HF.out, rfl⟩⟩
      | some p =>
        obtain ⟨s, k⟩ := p
        rw [ht] at htk hcall
        simp only [takeV] at hcall
        have hstep := Utf.read_step HD.out HZ.out htk
        have hk0 : 0 < k := by obtain ⟨_, rfl, _⟩ := htk; exact Utf.size_pos s
        have hkn : k ≤ n' := by
          obtain ⟨_, rfl, r, e⟩ := htk
          have := congrArg List.length e
          rw [HR.out.1, List.length_append, Utf.enc_length] at this
          omega
        have HC := Lib.hid hcall
        have HST := Lib.hid hstep
        have hpiece : ¬ cap' = k → Sl .u8 w (some ⟨b, off + k, none⟩) (n' - k) (cap' - k) ((x :: rest).drop k) := fun _ => by
          have := HR.out.piece k (n' - k) (by omega)
          rwa [List.take_of_length_le (by rw [List.length_drop, HR.out.1]; omega)] at this
        have hend : cap' = k → Sl .u8 w (some ⟨b, off, none⟩) (n' - k) (cap' - k) ((x :: rest).drop k) := fun e => by
          have e0 : n' - k = 0 := by omega
          refine ⟨by rw [List.length_drop, HR.out.1], by omega, by unfold maxLen; omega, fun z hz => HR.out.2.2.2.1 z (List.mem_of_mem_drop hz), .inl e0⟩
        have HP := Lib.hid hpiece
        have HE := Lib.hid hend
        clear ht htk hcall hstep hpiece hend
        have hd8 : (d.length + 1) * 8 ≤ 140737488355328 := by omega
        have hd63 : d.length + 1 ≤ maxLen := by unfold maxLen; omega
        by_cases hcap : cap' = k
        · subst hcap
          go_wp2_with (first
            | (go_at_call 54; refine (HC.out).mono ?_; rintro e w1 ⟨rfl, hb1⟩; have hown1 := ownsRow_below hown hb1 (Nat.le_refl _); have hsz1 := hb1.size)
            | (at_builtin; refine wpList_append_lies _ (by rfl) (.tmp 20) (.tmp 22) 24 (by rfl) w.heap.size 3 i0 (.int .i64 0) 1 8 Try.underlying24 hi hz0 hz1 hz2 rfl (by decide) _ _ _ (by rfl) (hown1.alloc _) ⟨w1.heap.size, 0, none⟩ 1 1 [.int .i64 s] (by rfl) rfl (one_newp rfl) (by simp [Value.oneCell']) (by decide) hd63 hd8 (by simp; omega) _ rfl ?_; intro g3 c3 w3 hown3 hgrow3 hat3 hlt3))
          have hb3 : Below w.heap.size w w3 := (((hbel.trans (hb1.mono hsize)).alloc (by omega) _).grown hgrow3 (by simp; omega) (by intro m hm; exact (hown1.lt m hm).1))
          rw [i64s_snoc] at hown3
          have el : d.length + 1 = (d ++ [s]).length := by simp
          rw [el] at hown3
          clear hgrow3 hat3 hlt3 hown1 hown hb1
          go_roundw
          case rel => exact ⟨some ⟨b, off, none⟩, some ⟨g3, 0, none⟩, n' - cap', cap' - cap', c3, d ++ [s], (x :: rest).drop cap', by rw [show n' - cap' = 0 from by omega, show cap' - cap' = 0 from by omega], by rw [el], by simp; omega, by omega, HE.out (by simp), HST.out.1, HST.out.2, hown3, hb3⟩
          case measure => simp; omega
        · go_wp2_with (first
            | (go_at_call 54; refine (HC.out).mono ?_; rintro e w1 ⟨rfl, hb1⟩; have hown1 := ownsRow_below hown hb1 (Nat.le_refl _); have hsz1 := hb1.size)
            | (at_builtin; refine wpList_append_lies _ (by rfl) (.tmp 20) (.tmp 22) 24 (by rfl) w.heap.size 3 i0 (.int .i64 0) 1 8 Try.underlying24 hi hz0 hz1 hz2 rfl (by decide) _ _ _ (by rfl) (hown1.alloc _) ⟨w1.heap.size, 0, none⟩ 1 1 [.int .i64 s] (by rfl) rfl (one_newp rfl) (by simp [Value.oneCell']) (by decide) hd63 hd8 (by simp; omega) _ rfl ?_; intro g3 c3 w3 hown3 hgrow3 hat3 hlt3))
          have hb3 : Below w.heap.size w w3 := (((hbel.trans (hb1.mono hsize)).alloc (by omega) _).grown hgrow3 (by simp; omega) (by intro m hm; exact (hown1.lt m hm).1))
          rw [i64s_snoc] at hown3
          have el : d.length + 1 = (d ++ [s]).length := by simp
          rw [el] at hown3
          clear hgrow3 hat3 hlt3 hown1 hown hb1
          go_roundw
          case rel => exact ⟨some ⟨b, off + k, none⟩, some ⟨g3, 0, none⟩, n' - k, cap' - k, c3, d ++ [s], (x :: rest).drop k, rfl, by rw [el], by simp; omega, by omega, HP.out hcap, HST.out.1, HST.out.2, hown3, hb3⟩
          case measure => simp; omega

end Go.Proofs.Ytflikfnehpaohaa
