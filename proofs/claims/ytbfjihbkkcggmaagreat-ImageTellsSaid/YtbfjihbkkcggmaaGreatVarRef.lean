/- Used by the law. -/
import Derived.Deep.RegionWith
import Derived.BigQuiet
import Derived.Test.YtbfjihbkkcggmaaGreatPackH
namespace Go.Proofs.YtbfjihbkkcggmaaGreat
open Go.RowKit

set_option maxHeartbeats 1600000 in
set_option maxRecDepth 100000 in
theorem rone_is (c : Nat) : c < 18446744073709551616 → ∀ w : World,
    Calls Tryz.prog 76 #[.int .u64 (c : Int)] w fun e w' => MadeB w w' e (Var.enc c) := by
  induction c using Var.enc_rec with
  | h0 c h =>
    intro hc w
    have hlt : (c : Int) < 128 := by omega
    have hw8 : IntKind.u8.wrap (c : Int) = (c : Int) := by
      simp [IntKind.wrap, IntKind.signed, IntKind.bits]; omega
    go_enter Tryz.func76, Tryz.ntmps76
    go_wp2
    go_ret
    refine ⟨some ⟨w.heap.size, 0, none⟩, 1, 1, rfl, by rw [Var.enc_small h]; rfl, ?_, (fun h => by cases h), (Below.refl _ w).alloc (Nat.le_refl _) _⟩
    rw [Var.enc_small h]
    have := World.ownsRow_lit (base := w.heap.size) (e := 5) (size := 1) w #[.int .u8 (c : Int)] 1 (Nat.le_refl _) (by unfold maxLen; omega) (by simp)
    simpa [u8s] using this
  | h1 c h ih =>
    intro hc w
    have HI := Lib.hid (fun w => ih (by omega) w)
    clear ih
    have hlt : ¬ (c : Int) < 128 := by omega
    have hw8 : IntKind.u8.wrap (128 + (c : Int) % 128) = 128 + ((c % 128 : Nat) : Int) := by
      simp [IntKind.wrap, IntKind.signed, IntKind.bits]; omega
    obtain ⟨x, hx⟩ : ∃ x : Int, x = 128 + ((c % 128 : Nat) : Int) := ⟨_, rfl⟩
    rw [← hx] at hw8
    have HX := Lib.hid hx
    have hx0 : 0 ≤ x := by omega
    have hx9 : x ≤ 255 := by omega
    clear hx
    have hl10 := Var.len_10 (n := c / 128) (by omega)
    go_enter Tryz.func76, Tryz.ntmps76
    go_wp2_with fail
    refine (HI.out _).mono ?_
    rintro e w2 ⟨a', n', c', rfl, hn, hown, hnil, hb⟩
    have hlit := World.ownsRow_lit (base := w.heap.size) (e := 5) (size := 1) w #[.int .u8 x] 1 (Nat.le_refl _) (by unfold maxLen; omega) (by simp)
    have HLIT : Hid (w2.ownsRow w.heap.size 5 1 (.slice (some ⟨w.heap.size, 0, none⟩) 1 1) 1 (u8s [x])) := by
      show World.ownsRow _ _ _ _ _ _ _
      refine ownsRow_below ?_ hb (Nat.le_refl _)
      simpa [u8s] using hlit
    have HS2 := Lib.hid (Sl.of_owns (k := .u8) hown (Var.enc_wf _) hn.symm)
    have hB2 : Below w.heap.size w w2 := ((Below.refl w.heap.size w).alloc (Nat.le_refl _) _).trans (hb.mono (by simp))
    have HB2 := Lib.hid hB2
    have hsz := hB2.size
    have hn10 : n' ≤ 10 := by omega
    have HN := Lib.hid hn
    clear hn hown hnil hb hlit hB2 hl10 HI
    obtain ⟨M, hM⟩ : ∃ M, 1 + n' = M := ⟨_, rfl⟩
    go_wp2_with (at_builtin; refine append_bytes (by rfl) (.tmp 12) (.tmp 15) (by rfl) w.heap.size _ 1 [x] (by rfl) HLIT.out a' n' c' (Var.enc (c / 128)) (by rfl) HS2.out M hM (by omega) hsz ?_; intro a3 c3 w3 hown3 hb3 hn3)
    go_ret
    refine ⟨a3, M, c3, rfl, by rw [Var.enc_big h, List.length_cons, ← HN.out]; omega, ?_, hn3, HB2.out.trans hb3⟩
    rw [Var.enc_big h, ← HX.out]
    exact hown3

set_option maxHeartbeats 1600000 in
set_option maxRecDepth 100000 in
theorem rput_is (a : Option Addr) (n1 cap : Nat) (b : List Int) (c : Nat) (hc : c < 18446744073709551616) (w : World) (hs : Sl .u8 w a n1 cap b) (hb1 : n1 ≤ 200000000000) :
    Calls Tryz.prog 54 #[.slice a n1 cap, .int .u64 (c : Int)] w fun e w' => MadeB w w' e (b ++ Var.enc c) := by
  have h10 := Var.len_10 hc
  have HL := Lib.hid hs.1
  have HS := Lib.hid hs
  have HC := Lib.hid (fun w => rone_is c hc w)
  have H10 := Lib.hid h10
  have HMD : Hid ((w.alloc (.cells #[] 5)).ownsRow w.heap.size 5 1 (.slice (some ⟨w.heap.size, 0, none⟩) 0 0) 0 (u8s [])) := World.ownsRow_made w #[] 0 (Nat.le_refl _) (Nat.zero_le _) rfl
  have HB0 : ∀ o, Hid (Below w.heap.size w (w.alloc o)) := fun o => Lib.hid ((Below.refl _ w).alloc (Nat.le_refl _) o)
  clear hs h10
  go_enter Tryz.func54, Tryz.ntmps54
  go_wp2_with (at_builtin; refine append_bytes (by rfl) (.tmp 5) (.tmp 6) (by rfl) w.heap.size _ 0 [] (by rfl) HMD.out a n1 cap b (by rfl) (HS.out.alloc _) n1 (by omega) (by omega) (by simp) ?_; intro a2 c2 w2 hown hb hnil; have HO := Lib.hid hown; have HB := Lib.hid ((HB0 _).out.trans hb); clear hown hb hnil)
  refine (HC.out _).mono ?_
  rintro e w3 ⟨a', n', c', rfl, hn, hown, hnil, hb⟩
  have HS3 := Lib.hid (Sl.of_owns (k := .u8) hown (Var.enc_wf _) hn.symm)
  have HO3 : Hid (w3.ownsRow w.heap.size 5 1 (.slice a2 n1 c2) n1 (u8s b)) := by show World.ownsRow _ _ _ _ _ _ _; exact ownsRow_below (by simpa using HO.out) hb (Nat.le_refl _)
  have hB3 := HB.out.trans (hb.mono HB.out.size)
  have HB3 := Lib.hid hB3
  have hsz := hB3.size
  have hn10 : n' ≤ 10 := by rw [hn]; exact H10.out
  have HN := Lib.hid hn
  obtain ⟨M, hM⟩ : ∃ M, n1 + n' = M := ⟨_, rfl⟩
  clear hn hown hnil hb hB3 HC
  go_wp2_with (at_builtin; refine append_bytes (by rfl) (.tmp 7) (.tmp 9) (by rfl) w.heap.size _ n1 b (by rfl) HO3.out a' n' c' (Var.enc c) (by rfl) HS3.out M hM (by omega) hsz ?_; intro a4 c4 w4 hown4 hb4 hn4)
  go_ret
  exact ⟨a4, M, c4, rfl, by rw [List.length_append, HL.out, ← HN.out, hM], hown4, hn4, HB3.out.trans hb4⟩

theorem Sl.tail {k : IntKind} {w : World} {b off n cap m : Nat} {zs : List Int} (h : Sl k w (some ⟨b, off, none⟩) n cap zs) (hm : m ≤ n) : Sl k w (some ⟨b, off + m, none⟩) (n - m) (cap - m) (zs.drop m) := by
  have h1 := h.piece m (n - m) (by omega)
  rwa [List.take_of_length_le (by rw [List.length_drop, h.1]; exact Nat.le_refl _)] at h1

theorem wrap_mul {v V W : Nat} {x : Int} (hv : v = V % 18446744073709551616) (hx : 0 ≤ x) (hW : W = x.toNat % 128 + 128 * V) :
    IntKind.u64.wrap (IntKind.u64.wrap ((v : Int) * 128) + x % 128) = ((W % 18446744073709551616 : Nat) : Int) := by
  rw [wrap_u64v, wrap_u64v, hW, hv]
  omega

def Low (B : Nat) (a : Option Addr) (n : Nat) : Prop := n = 0 ∨ ∃ b o, a = some ⟨b, o, none⟩ ∧ b < B
theorem Low.of {k : IntKind} {w : World} {a : Option Addr} {n cap : Nat} {zs : List Int} (h : Sl k w a n cap zs) : Low w.heap.size a n := by
  rcases Nat.eq_zero_or_pos n with h0 | h0
  · exact .inl h0
  · obtain ⟨b, o, h1, h2, _⟩ := h.at h0
    exact .inr ⟨b, o, h1, h2⟩
theorem Low.mono {B B' : Nat} {a : Option Addr} {n : Nat} (h : Low B a n) (hB : B ≤ B') : Low B' a n := by
  rcases h with h | ⟨b, o, h1, h2⟩
  · exact .inl h
  · exact .inr ⟨b, o, h1, by omega⟩
theorem Low.get {B b o n : Nat} (h : Low B (some ⟨b, o, none⟩) n) (hn : 0 < n) : b < B := by
  rcases h with h | ⟨b', o', h1, h2⟩
  · omega
  · cases h1; exact h2
theorem Sl.low {k : IntKind} {w w' : World} {a : Option Addr} {n cap B : Nat} {zs : List Int} (h : Sl k w a n cap zs) (hl : Low B a n) (hb : Below B w w') : Sl k w' a n cap zs := by
  obtain ⟨h1, h2, h3, h4, h5⟩ := h
  refine ⟨h1, h2, h3, h4, ?_⟩
  rcases h5 with h5 | ⟨b, off, ha, hc⟩
  · exact .inl h5
  · rcases Nat.eq_zero_or_pos n with h0 | h0
    · exact .inl h0
    · subst ha
      have hB := hl.get h0
      exact .inr ⟨b, off, rfl, fun i hi => by rw [hb.cell (p := ⟨b, off + i, none⟩) hB]; exact hc i hi⟩
def VTakeAt (B : Nat) (w' : World) (e : Ending) (r : Option (Nat × List Int)) : Prop :=
  (∃ m l a' n' c', r = some (m, l) ∧ e = .returned (.tuple #[.int .u64 ((m : Nat) : Int), .slice a' n' c', .int .i64 0]) ∧ Sl .u8 w' a' n' c' l ∧ Low B a' n') ∨ (r = none ∧ e = .returned (.tuple #[.int .u64 0, .slice none 0 0, .int .i64 130]))
theorem VTakeAt.is {B : Nat} {w' : World} {e : Ending} {r : Option (Nat × List Int)} (h : VTakeAt B w' e r) : VTakeIs w' e r := by
  rcases h with ⟨m, l, a', n', c', h1, h2, h3, _⟩ | h
  · exact .inl ⟨m, l, a', n', c', h1, h2, h3⟩
  · exact .inr h
theorem VTakeAt.some {B : Nat} {w' : World} {e : Ending} {r : Option (Nat × List Int)} {m : Nat} {l : List Int} (h : VTakeAt B w' e r) (hr : r = some (m, l)) : ∃ a' n' c', e = .returned (.tuple #[.int .u64 (m : Int), .slice a' n' c', .int .i64 0]) ∧ Sl .u8 w' a' n' c' l ∧ Low B a' n' := by
  rcases h with ⟨m', l', a', n', c', h1, h2, h3, h4⟩ | ⟨h1, _⟩
  · rw [hr] at h1; cases h1; exact ⟨a', n', c', h2, h3, h4⟩
  · rw [hr] at h1; cases h1
theorem VTakeAt.none {B : Nat} {w' : World} {e : Ending} {r : Option (Nat × List Int)} (h : VTakeAt B w' e r) (hr : r = none) : e = .returned (.tuple #[.int .u64 0, .slice none 0 0, .int .i64 130]) := h.is.none hr

set_option maxHeartbeats 3200000 in
set_option maxRecDepth 100000 in
theorem rtake_at (B : Nat) (a : Option Addr) (n cap : Nat) (b : List Int) (w : World) (hs : Sl .u8 w a n cap b) (hl : Low B a n) :
    Calls Tryz.prog 60 #[.slice a n cap] w fun e w' => VTakeAt B w' e (Var.take b) ∧ Below w.heap.size w w' := by
  have hnc := hs.2.1
  have hcm := hs.2.2.1
  unfold maxLen at hcm
  have HS := Lib.hid hs
  have HL := Lib.hid hs.1
  have HLW := Lib.hid hl
  clear hs hl
  go_enter Tryz.func60, Tryz.ntmps60
  go_wp2
  go_loop [5] (fun kv => ∃ j : Nat, j ≤ n ∧ kv = .int .i64 (j : Int) ∧ Hid (∀ x ∈ b.take j, 128 ≤ x)) (fun kv => n - (intOf kv).toNat)
  case atStart => exact ⟨0, Nat.zero_le _, rfl, (by first | exact (trivial : True) | (intro x hx; simp at hx))⟩
  case round =>
    obtain ⟨j, hj, rfl, HD⟩ := hrel
    by_cases hlt : j < n
    · obtain ⟨b1, o1, rfl, _, hc1⟩ := HS.out.at (by omega)
      have HBL := Lib.hid (HLW.out.get (by omega))
      have hx1 := hc1 j hlt
      have hwf := bounds_u8 (HS.out.2.2.2.1 _ (vgetD_mem (i := j) (by rw [HL.out]; omega)))
      obtain ⟨x, hx⟩ : ∃ x, x = b.getD j 0 := ⟨_, rfl⟩
      rw [← hx] at hx1 hwf
      obtain ⟨hx0, hx255⟩ := hwf
      have HXD := Lib.hid hx
      have HC1 := Lib.hid hc1
      have hlti : (j : Int) < (n : Int) := by omega
      have hlt2 : ¬ (n : Int) ≤ (j : Int) := by omega
      clear hc1 hx
      by_cases h128 : 128 ≤ x
      · have HT := Lib.hid (take_more HD.out (by rw [HL.out]; omega) (by rw [← HXD.out]; exact h128))
        go_wp2
        go_round
        case rel => exact ⟨j + 1, by omega, by go_num, HT.out⟩
        case measure => simp [intOf]; omega
      · have h128' : ¬ 128 ≤ x := h128
        by_cases h9 : 9 < j
        · have h9i : (9 : Int) < (j : Int) := by omega
          have HT := Lib.hid (Var.take_far HD.out (.inr h9))
          go_wp2
          go_ret3
          exact ⟨.inr ⟨HT.out, rfl⟩, Below.refl _ _⟩
        · have h9i : ¬ (9 : Int) < (j : Int) := by omega
          have HNUM := Lib.hid (Var.take_at HD.out (by rw [HL.out]; omega) (by rw [← HXD.out]; omega) (by omega))
          go_wp2
          go_loopw [6, 7] (fun cv ix wr => ∃ (i v : Nat) (jx : Int), cv = .int .u64 (v : Int) ∧ ix = .int .i64 jx ∧ jx = (i : Int) - 1 ∧ i ≤ j + 1 ∧ v < 18446744073709551616 ∧ Hid (v = Var.val ((b.take (j + 1)).drop i) % 18446744073709551616) ∧ Hid (wr = w)) (fun _ ix _ => (intOf ix + 1).toNat)
          case atStart => exact ⟨j + 1, 0, (j : Int), rfl, rfl, by omega, Nat.le_refl _, by omega, (by show _ = _; rw [List.drop_eq_nil_of_le (by simp; omega)]; rfl), (by first | exact (trivial : True) | rfl)⟩
          case round =>
            obtain ⟨i, v, jx, rfl, rfl, hjx, hi, hv, HV, HW⟩ := hrel
            obtain rfl := HW.out
            clear HW
            by_cases hi0 : i = 0
            · have hneg : ¬ 0 ≤ jx := by omega
              subst hi0
              obtain ⟨J, hJ⟩ : ∃ J, J = j + 1 := ⟨_, rfl⟩
              have HJ := Lib.hid hJ
              have hnb : v = Var.num b := by rw [HNUM.out]; exact HV.out
              have HNB := Lib.hid hnb
              have HP := Lib.hid (HS.out.first J (by omega))
              have hJc : (j : Int) + 1 ≤ (cap : Int) := by omega
              have hJn : (j : Int) + 1 ≤ (n : Int) := by omega
              have hJ0 : (0 : Int) ≤ (j : Int) + 1 := by omega
              have hJt : ((j : Int) + 1).toNat = j + 1 := by omega
              have hwJ : IntKind.i64.wrap ((j : Int) + 1) = (j : Int) + 1 := by rw [IntKind.wrap_i64]; omega
              have hse := str_eq (Var.enc_wf v) HP.out.2.2.2.1
              obtain ⟨S1, hS1⟩ : ∃ S1, S1 = strOfNums (Var.enc v) := ⟨_, rfl⟩
              obtain ⟨S2, hS2⟩ : ∃ S2, S2 = strOfNums (b.take J) := ⟨_, rfl⟩
              rw [← hS1, ← hS2] at hse
              have hk0 : (convert 29 9 (.slice (some ⟨b1, o1, none⟩) (j + 1) cap)).run Tryz.prog wr.drew = .ok (.string S2) wr.drew := by rw [hS2, ← hJ]; exact HP.out.drew.str
              have HC := Lib.hid (rone_is v hv)
              have HS1 := Lib.hid hS1
              have HS2 := Lib.hid hS2
              have hmx : Tryz.prog.follows .mixedOrders = true := by kernel_rfl
              clear hjx hS1 hS2 HV hnb hJ hx1 hv
              by_cases he : Var.enc v = b.take J
              · by_cases hcap : j + 1 = cap
                · obtain rfl : n = j + 1 := by omega
                  subst hcap
                  have hval : Var.take b = some (v, b.drop J) := by
                    have h := Var.take_at_some HD.out (by rw [HL.out]; omega) (by rw [← HXD.out]; omega) (by omega) (by rw [← HNB.out, ← HJ.out]; exact he)
                    rw [← HNB.out, ← HJ.out] at h; exact h
                  have HT := Lib.hid hval
                  have hb1 : (S1.toList == S2.toList) = true := by rw [hse]; simpa using he
                  have hbn : (S1.toList != S2.toList) = false := by rw [bne, hb1]; rfl
                  clear hval hse he
                  go_wp2
                  refine wp_region_any hmx ?_
                  try (change wpAny _ _ _ _ _ _ _ (World.drew _))
                  refine wpAny_take (i := 0) (v := ?vb2) rfl (by kernel_rfl) (by kernel_rfl) (by kernel_rfl) (fun _ _ _ h => h) (Or.inl ⟨by rfl, ?hb2⟩) ?rb2
                  case hb2 => intro w; go_simp; try with_reducible rfl
                  simp only [Act.put, List.getElem_toArray, List.getElem_cons_succ, List.getElem_cons_zero, List.setIfInBounds_toArray, List.set_cons_succ, List.set_cons_zero]
                  refine wpAny_take (i := 3) (v := ?vb5) rfl (by kernel_rfl) (by kernel_rfl) (by kernel_rfl) (fun _ _ _ h => h) (Or.inl ⟨by rfl, ?hb5⟩) ?rb5
                  case hb5 => intro w; go_simp; try with_reducible rfl
                  simp only [Act.put, List.getElem_toArray, List.getElem_cons_succ, List.getElem_cons_zero, List.setIfInBounds_toArray, List.set_cons_succ, List.set_cons_zero]
                  refine wpAny_take (i := 4) (v := ?vb8) rfl (by kernel_rfl) (by kernel_rfl) (by kernel_rfl) (fun _ _ _ h => h) (Or.inl ⟨by rfl, ?hb8⟩) ?rb8
                  case hb8 => intro w; go_simp; try with_reducible rfl
                  simp only [Act.put, List.getElem_toArray, List.getElem_cons_succ, List.getElem_cons_zero, List.setIfInBounds_toArray, List.set_cons_succ, List.set_cons_zero]
                  refine wpAny_take (i := 5) (v := ?vb11) rfl (by kernel_rfl) (by kernel_rfl) (by kernel_rfl) (fun _ _ _ h => h) (Or.inl ⟨by rfl, ?hb11⟩) ?rb11
                  case hb11 => intro w; go_simp; try with_reducible rfl
                  simp only [Act.put, List.getElem_toArray, List.getElem_cons_succ, List.getElem_cons_zero, List.setIfInBounds_toArray, List.set_cons_succ, List.set_cons_zero]
                  refine wpAny_take (i := 6) (v := ?vb14) rfl (by kernel_rfl) (by kernel_rfl) (by kernel_rfl) (fun _ _ _ h => h) (Or.inl ⟨by rfl, ?hb14⟩) ?rb14
                  case hb14 => intro w; go_simp; try with_reducible rfl
                  simp only [Act.put, List.getElem_toArray, List.getElem_cons_succ, List.getElem_cons_zero, List.setIfInBounds_toArray, List.set_cons_succ, List.set_cons_zero]
                  refine wpAny_ready (rs := [1, 7]) (by kernel_rfl) (by simp) ?_
                  refine AllReady.cons rfl (fun K hK => ?_) (AllReady.cons rfl (fun K hK => ?_) AllReady.nil)
                  · go_simp
                    refine (HC.out _).mono ?_
                    rintro e w2 ⟨a', m, c', rfl, hm, hown, hnil, hb⟩
                    have hk1 : (convert 29 9 (.slice a' m c')).run Tryz.prog w2 = .ok (.string S1) w2 := by rw [HS1.out]; exact (Sl.of_owns (k := .u8) hown (Var.enc_wf v) hm.symm).str
                    have hk2 : (convert 29 9 (.slice (some ⟨b1, o1, none⟩) (j + 1) (j + 1))).run Tryz.prog w2 = .ok (.string S2) w2 := by rw [HS2.out, ← HJ.out]; exact (HP.out.drew.below hb (Nat.le_refl _)).str
                    have HB : Hid (Below wr.drew.heap.size wr.drew w2) := hb
                    clear hm hown hnil hb
                    refine hK _ _ ?_
                    clear hK K
                    try simp only [Act.put, List.getElem_toArray, List.getElem_cons_succ, List.getElem_cons_zero, List.setIfInBounds_toArray, List.set_cons_succ, List.set_cons_zero]
                    refine wpAny_ready (rs := [2, 7]) (by kernel_rfl) (by simp) ?_
                    refine AllReady.cons rfl (fun K hK => ?_) (AllReady.cons rfl (fun K hK => ?_) AllReady.nil)
                    · go_simp
                      refine hK _ _ ?_
                      clear hK K
                      try simp only [Act.put, List.getElem_toArray, List.getElem_cons_succ, List.getElem_cons_zero, List.setIfInBounds_toArray, List.set_cons_succ, List.set_cons_zero]
                      refine wpAny_ready (rs := [7]) (by kernel_rfl) (by simp) ?_
                      refine AllReady.cons rfl (fun K hK => ?_) AllReady.nil
                      go_simp
                      refine hK _ _ ?_
                      clear hK K
                      try simp only [Act.put, List.getElem_toArray, List.getElem_cons_succ, List.getElem_cons_zero, List.setIfInBounds_toArray, List.set_cons_succ, List.set_cons_zero]
                      refine wpAny_take (i := 8) (v := ?vb41) rfl (by kernel_rfl) (by kernel_rfl) (by kernel_rfl) (fun _ _ _ h => h) (Or.inl ⟨by rfl, ?hb41⟩) ?rb41
                      case hb41 => intro w; go_simp; try with_reducible rfl
                      simp only [Act.put, List.getElem_toArray, List.getElem_cons_succ, List.getElem_cons_zero, List.setIfInBounds_toArray, List.set_cons_succ, List.set_cons_zero]
                      refine wpAny_done (by kernel_rfl) ?_ _
                      go_wp2
                      first | (go_quiet (fail)) | fail
                      go_wp2
                      go_ret3
                      obtain rfl := HJ.out
                      exact ⟨.inl ⟨v, b.drop (j + 1), _, _, _, HT.out, rfl, (by rw [List.drop_eq_nil_of_le (by rw [HL.out]; omega)]; exact ⟨by simp, by omega, by unfold maxLen; omega, by simp, .inl (by omega)⟩), .inl (by omega)⟩, ⟨HB.out.os, HB.out.tape, HB.out.output, HB.out.size, HB.out.block⟩⟩
                      
                    · go_simp
                      refine hK _ _ ?_
                      clear hK K
                      try simp only [Act.put, List.getElem_toArray, List.getElem_cons_succ, List.getElem_cons_zero, List.setIfInBounds_toArray, List.set_cons_succ, List.set_cons_zero]
                      refine wpAny_ready (rs := [2]) (by kernel_rfl) (by simp) ?_
                      refine AllReady.cons rfl (fun K hK => ?_) AllReady.nil
                      go_simp
                      refine hK _ _ ?_
                      clear hK K
                      try simp only [Act.put, List.getElem_toArray, List.getElem_cons_succ, List.getElem_cons_zero, List.setIfInBounds_toArray, List.set_cons_succ, List.set_cons_zero]
                      refine wpAny_take (i := 8) (v := ?vb62) rfl (by kernel_rfl) (by kernel_rfl) (by kernel_rfl) (fun _ _ _ h => h) (Or.inl ⟨by rfl, ?hb62⟩) ?rb62
                      case hb62 => intro w; go_simp; try with_reducible rfl
                      simp only [Act.put, List.getElem_toArray, List.getElem_cons_succ, List.getElem_cons_zero, List.setIfInBounds_toArray, List.set_cons_succ, List.set_cons_zero]
                      refine wpAny_done (by kernel_rfl) ?_ _
                      go_wp2
                      first | (go_quiet (fail)) | fail
                      go_wp2
                      go_ret3
                      obtain rfl := HJ.out
                      exact ⟨.inl ⟨v, b.drop (j + 1), _, _, _, HT.out, rfl, (by rw [List.drop_eq_nil_of_le (by rw [HL.out]; omega)]; exact ⟨by simp, by omega, by unfold maxLen; omega, by simp, .inl (by omega)⟩), .inl (by omega)⟩, ⟨HB.out.os, HB.out.tape, HB.out.output, HB.out.size, HB.out.block⟩⟩
                      
                  · go_simp
                    refine hK _ _ ?_
                    clear hK K
                    try simp only [Act.put, List.getElem_toArray, List.getElem_cons_succ, List.getElem_cons_zero, List.setIfInBounds_toArray, List.set_cons_succ, List.set_cons_zero]
                    refine wpAny_ready (rs := [1]) (by kernel_rfl) (by simp) ?_
                    refine AllReady.cons rfl (fun K hK => ?_) AllReady.nil
                    go_simp
                    refine (HC.out _).mono ?_
                    rintro e w2 ⟨a', m, c', rfl, hm, hown, hnil, hb⟩
                    have hk1 : (convert 29 9 (.slice a' m c')).run Tryz.prog w2 = .ok (.string S1) w2 := by rw [HS1.out]; exact (Sl.of_owns (k := .u8) hown (Var.enc_wf v) hm.symm).str
                    have hk2 : (convert 29 9 (.slice (some ⟨b1, o1, none⟩) (j + 1) (j + 1))).run Tryz.prog w2 = .ok (.string S2) w2 := by rw [HS2.out, ← HJ.out]; exact (HP.out.drew.below hb (Nat.le_refl _)).str
                    have HB : Hid (Below wr.drew.heap.size wr.drew w2) := hb
                    clear hm hown hnil hb
                    refine hK _ _ ?_
                    clear hK K
                    try simp only [Act.put, List.getElem_toArray, List.getElem_cons_succ, List.getElem_cons_zero, List.setIfInBounds_toArray, List.set_cons_succ, List.set_cons_zero]
                    refine wpAny_ready (rs := [2]) (by kernel_rfl) (by simp) ?_
                    refine AllReady.cons rfl (fun K hK => ?_) AllReady.nil
                    go_simp
                    refine hK _ _ ?_
                    clear hK K
                    try simp only [Act.put, List.getElem_toArray, List.getElem_cons_succ, List.getElem_cons_zero, List.setIfInBounds_toArray, List.set_cons_succ, List.set_cons_zero]
                    refine wpAny_take (i := 8) (v := ?vb95) rfl (by kernel_rfl) (by kernel_rfl) (by kernel_rfl) (fun _ _ _ h => h) (Or.inl ⟨by rfl, ?hb95⟩) ?rb95
                    case hb95 => intro w; go_simp; try with_reducible rfl
                    simp only [Act.put, List.getElem_toArray, List.getElem_cons_succ, List.getElem_cons_zero, List.setIfInBounds_toArray, List.set_cons_succ, List.set_cons_zero]
                    refine wpAny_done (by kernel_rfl) ?_ _
                    go_wp2
                    first | (go_quiet (fail)) | fail
                    go_wp2
                    go_ret3
                    obtain rfl := HJ.out
                    exact ⟨.inl ⟨v, b.drop (j + 1), _, _, _, HT.out, rfl, (by rw [List.drop_eq_nil_of_le (by rw [HL.out]; omega)]; exact ⟨by simp, by omega, by unfold maxLen; omega, by simp, .inl (by omega)⟩), .inl (by omega)⟩, ⟨HB.out.os, HB.out.tape, HB.out.output, HB.out.size, HB.out.block⟩⟩
                    
                · have hcapi : ¬ (j : Int) + 1 = (cap : Int) := by omega
                  have hcapj : ¬ (cap : Int) = (j : Int) + 1 := by omega
                  have hval : Var.take b = some (v, b.drop J) := by
                    have h := Var.take_at_some HD.out (by rw [HL.out]; omega) (by rw [← HXD.out]; omega) (by omega) (by rw [← HNB.out, ← HJ.out]; exact he)
                    rw [← HNB.out, ← HJ.out] at h; exact h
                  have HT := Lib.hid hval
                  have hb1 : (S1.toList == S2.toList) = true := by rw [hse]; simpa using he
                  have hbn : (S1.toList != S2.toList) = false := by rw [bne, hb1]; rfl
                  clear hval hse he
                  go_wp2
                  refine wp_region_any hmx ?_
                  try (change wpAny _ _ _ _ _ _ _ (World.drew _))
                  refine wpAny_take (i := 0) (v := ?vc2) rfl (by kernel_rfl) (by kernel_rfl) (by kernel_rfl) (fun _ _ _ h => h) (Or.inl ⟨by rfl, ?hc2⟩) ?rc2
                  case hc2 => intro w; go_simp; try with_reducible rfl
                  simp only [Act.put, List.getElem_toArray, List.getElem_cons_succ, List.getElem_cons_zero, List.setIfInBounds_toArray, List.set_cons_succ, List.set_cons_zero]
                  refine wpAny_take (i := 3) (v := ?vc5) rfl (by kernel_rfl) (by kernel_rfl) (by kernel_rfl) (fun _ _ _ h => h) (Or.inl ⟨by rfl, ?hc5⟩) ?rc5
                  case hc5 => intro w; go_simp; try with_reducible rfl
                  simp only [Act.put, List.getElem_toArray, List.getElem_cons_succ, List.getElem_cons_zero, List.setIfInBounds_toArray, List.set_cons_succ, List.set_cons_zero]
                  refine wpAny_take (i := 4) (v := ?vc8) rfl (by kernel_rfl) (by kernel_rfl) (by kernel_rfl) (fun _ _ _ h => h) (Or.inl ⟨by rfl, ?hc8⟩) ?rc8
                  case hc8 => intro w; go_simp; try with_reducible rfl
                  simp only [Act.put, List.getElem_toArray, List.getElem_cons_succ, List.getElem_cons_zero, List.setIfInBounds_toArray, List.set_cons_succ, List.set_cons_zero]
                  refine wpAny_take (i := 5) (v := ?vc11) rfl (by kernel_rfl) (by kernel_rfl) (by kernel_rfl) (fun _ _ _ h => h) (Or.inl ⟨by rfl, ?hc11⟩) ?rc11
                  case hc11 => intro w; go_simp; try with_reducible rfl
                  simp only [Act.put, List.getElem_toArray, List.getElem_cons_succ, List.getElem_cons_zero, List.setIfInBounds_toArray, List.set_cons_succ, List.set_cons_zero]
                  refine wpAny_take (i := 6) (v := ?vc14) rfl (by kernel_rfl) (by kernel_rfl) (by kernel_rfl) (fun _ _ _ h => h) (Or.inl ⟨by rfl, ?hc14⟩) ?rc14
                  case hc14 => intro w; go_simp; try with_reducible rfl
                  simp only [Act.put, List.getElem_toArray, List.getElem_cons_succ, List.getElem_cons_zero, List.setIfInBounds_toArray, List.set_cons_succ, List.set_cons_zero]
                  refine wpAny_ready (rs := [1, 7]) (by kernel_rfl) (by simp) ?_
                  refine AllReady.cons rfl (fun K hK => ?_) (AllReady.cons rfl (fun K hK => ?_) AllReady.nil)
                  · go_simp
                    refine (HC.out _).mono ?_
                    rintro e w2 ⟨a', m, c', rfl, hm, hown, hnil, hb⟩
                    have hk1 : (convert 29 9 (.slice a' m c')).run Tryz.prog w2 = .ok (.string S1) w2 := by rw [HS1.out]; exact (Sl.of_owns (k := .u8) hown (Var.enc_wf v) hm.symm).str
                    have hk2 : (convert 29 9 (.slice (some ⟨b1, o1, none⟩) (j + 1) cap)).run Tryz.prog w2 = .ok (.string S2) w2 := by rw [HS2.out, ← HJ.out]; exact (HP.out.drew.below hb (Nat.le_refl _)).str
                    have HB : Hid (Below wr.drew.heap.size wr.drew w2) := hb
                    clear hm hown hnil hb
                    refine hK _ _ ?_
                    clear hK K
                    try simp only [Act.put, List.getElem_toArray, List.getElem_cons_succ, List.getElem_cons_zero, List.setIfInBounds_toArray, List.set_cons_succ, List.set_cons_zero]
                    refine wpAny_ready (rs := [2, 7]) (by kernel_rfl) (by simp) ?_
                    refine AllReady.cons rfl (fun K hK => ?_) (AllReady.cons rfl (fun K hK => ?_) AllReady.nil)
                    · go_simp
                      refine hK _ _ ?_
                      clear hK K
                      try simp only [Act.put, List.getElem_toArray, List.getElem_cons_succ, List.getElem_cons_zero, List.setIfInBounds_toArray, List.set_cons_succ, List.set_cons_zero]
                      refine wpAny_ready (rs := [7]) (by kernel_rfl) (by simp) ?_
                      refine AllReady.cons rfl (fun K hK => ?_) AllReady.nil
                      go_simp
                      refine hK _ _ ?_
                      clear hK K
                      try simp only [Act.put, List.getElem_toArray, List.getElem_cons_succ, List.getElem_cons_zero, List.setIfInBounds_toArray, List.set_cons_succ, List.set_cons_zero]
                      refine wpAny_take (i := 8) (v := ?vc41) rfl (by kernel_rfl) (by kernel_rfl) (by kernel_rfl) (fun _ _ _ h => h) (Or.inl ⟨by rfl, ?hc41⟩) ?rc41
                      case hc41 => intro w; go_simp; try with_reducible rfl
                      simp only [Act.put, List.getElem_toArray, List.getElem_cons_succ, List.getElem_cons_zero, List.setIfInBounds_toArray, List.set_cons_succ, List.set_cons_zero]
                      refine wpAny_done (by kernel_rfl) ?_ _
                      go_wp2
                      first | (go_quiet (fail)) | fail
                      go_wp2
                      go_ret3
                      obtain rfl := HJ.out
                      exact ⟨.inl ⟨v, b.drop (j + 1), _, _, _, HT.out, rfl, (by refine Sl.tail ?_ (by omega); exact (HS.out.drew.below HB.out (Nat.le_refl _)).drewN _), .inr ⟨_, _, rfl, HBL.out⟩⟩, ⟨HB.out.os, HB.out.tape, HB.out.output, HB.out.size, HB.out.block⟩⟩
                      
                    · go_simp
                      refine hK _ _ ?_
                      clear hK K
                      try simp only [Act.put, List.getElem_toArray, List.getElem_cons_succ, List.getElem_cons_zero, List.setIfInBounds_toArray, List.set_cons_succ, List.set_cons_zero]
                      refine wpAny_ready (rs := [2]) (by kernel_rfl) (by simp) ?_
                      refine AllReady.cons rfl (fun K hK => ?_) AllReady.nil
                      go_simp
                      refine hK _ _ ?_
                      clear hK K
                      try simp only [Act.put, List.getElem_toArray, List.getElem_cons_succ, List.getElem_cons_zero, List.setIfInBounds_toArray, List.set_cons_succ, List.set_cons_zero]
                      refine wpAny_take (i := 8) (v := ?vc62) rfl (by kernel_rfl) (by kernel_rfl) (by kernel_rfl) (fun _ _ _ h => h) (Or.inl ⟨by rfl, ?hc62⟩) ?rc62
                      case hc62 => intro w; go_simp; try with_reducible rfl
                      simp only [Act.put, List.getElem_toArray, List.getElem_cons_succ, List.getElem_cons_zero, List.setIfInBounds_toArray, List.set_cons_succ, List.set_cons_zero]
                      refine wpAny_done (by kernel_rfl) ?_ _
                      go_wp2
                      first | (go_quiet (fail)) | fail
                      go_wp2
                      go_ret3
                      obtain rfl := HJ.out
                      exact ⟨.inl ⟨v, b.drop (j + 1), _, _, _, HT.out, rfl, (by refine Sl.tail ?_ (by omega); exact (HS.out.drew.below HB.out (Nat.le_refl _)).drewN _), .inr ⟨_, _, rfl, HBL.out⟩⟩, ⟨HB.out.os, HB.out.tape, HB.out.output, HB.out.size, HB.out.block⟩⟩
                      
                  · go_simp
                    refine hK _ _ ?_
                    clear hK K
                    try simp only [Act.put, List.getElem_toArray, List.getElem_cons_succ, List.getElem_cons_zero, List.setIfInBounds_toArray, List.set_cons_succ, List.set_cons_zero]
                    refine wpAny_ready (rs := [1]) (by kernel_rfl) (by simp) ?_
                    refine AllReady.cons rfl (fun K hK => ?_) AllReady.nil
                    go_simp
                    refine (HC.out _).mono ?_
                    rintro e w2 ⟨a', m, c', rfl, hm, hown, hnil, hb⟩
                    have hk1 : (convert 29 9 (.slice a' m c')).run Tryz.prog w2 = .ok (.string S1) w2 := by rw [HS1.out]; exact (Sl.of_owns (k := .u8) hown (Var.enc_wf v) hm.symm).str
                    have hk2 : (convert 29 9 (.slice (some ⟨b1, o1, none⟩) (j + 1) cap)).run Tryz.prog w2 = .ok (.string S2) w2 := by rw [HS2.out, ← HJ.out]; exact (HP.out.drew.below hb (Nat.le_refl _)).str
                    have HB : Hid (Below wr.drew.heap.size wr.drew w2) := hb
                    clear hm hown hnil hb
                    refine hK _ _ ?_
                    clear hK K
                    try simp only [Act.put, List.getElem_toArray, List.getElem_cons_succ, List.getElem_cons_zero, List.setIfInBounds_toArray, List.set_cons_succ, List.set_cons_zero]
                    refine wpAny_ready (rs := [2]) (by kernel_rfl) (by simp) ?_
                    refine AllReady.cons rfl (fun K hK => ?_) AllReady.nil
                    go_simp
                    refine hK _ _ ?_
                    clear hK K
                    try simp only [Act.put, List.getElem_toArray, List.getElem_cons_succ, List.getElem_cons_zero, List.setIfInBounds_toArray, List.set_cons_succ, List.set_cons_zero]
                    refine wpAny_take (i := 8) (v := ?vc95) rfl (by kernel_rfl) (by kernel_rfl) (by kernel_rfl) (fun _ _ _ h => h) (Or.inl ⟨by rfl, ?hc95⟩) ?rc95
                    case hc95 => intro w; go_simp; try with_reducible rfl
                    simp only [Act.put, List.getElem_toArray, List.getElem_cons_succ, List.getElem_cons_zero, List.setIfInBounds_toArray, List.set_cons_succ, List.set_cons_zero]
                    refine wpAny_done (by kernel_rfl) ?_ _
                    go_wp2
                    first | (go_quiet (fail)) | fail
                    go_wp2
                    go_ret3
                    obtain rfl := HJ.out
                    exact ⟨.inl ⟨v, b.drop (j + 1), _, _, _, HT.out, rfl, (by refine Sl.tail ?_ (by omega); exact (HS.out.drew.below HB.out (Nat.le_refl _)).drewN _), .inr ⟨_, _, rfl, HBL.out⟩⟩, ⟨HB.out.os, HB.out.tape, HB.out.output, HB.out.size, HB.out.block⟩⟩
                    
              · skip
                have hval : Var.take b = none := by
                  refine Var.take_at_none HD.out (by rw [HL.out]; omega) (by rw [← HXD.out]; omega) ?_
                  rw [← HNB.out, ← HJ.out]; exact he
                have HT := Lib.hid hval
                have hb1 : (S1.toList == S2.toList) = false := by rw [hse]; simpa using he
                have hbn : (S1.toList != S2.toList) = true := by rw [bne, hb1]; rfl
                clear hval hse he
                go_wp2
                refine wp_region_any hmx ?_
                try (change wpAny _ _ _ _ _ _ _ (World.drew _))
                refine wpAny_take (i := 0) (v := ?va2) rfl (by kernel_rfl) (by kernel_rfl) (by kernel_rfl) (fun _ _ _ h => h) (Or.inl ⟨by rfl, ?ha2⟩) ?ra2
                case ha2 => intro w; go_simp; try with_reducible rfl
                simp only [Act.put, List.getElem_toArray, List.getElem_cons_succ, List.getElem_cons_zero, List.setIfInBounds_toArray, List.set_cons_succ, List.set_cons_zero]
                refine wpAny_take (i := 3) (v := ?va5) rfl (by kernel_rfl) (by kernel_rfl) (by kernel_rfl) (fun _ _ _ h => h) (Or.inl ⟨by rfl, ?ha5⟩) ?ra5
                case ha5 => intro w; go_simp; try with_reducible rfl
                simp only [Act.put, List.getElem_toArray, List.getElem_cons_succ, List.getElem_cons_zero, List.setIfInBounds_toArray, List.set_cons_succ, List.set_cons_zero]
                refine wpAny_take (i := 4) (v := ?va8) rfl (by kernel_rfl) (by kernel_rfl) (by kernel_rfl) (fun _ _ _ h => h) (Or.inl ⟨by rfl, ?ha8⟩) ?ra8
                case ha8 => intro w; go_simp; try with_reducible rfl
                simp only [Act.put, List.getElem_toArray, List.getElem_cons_succ, List.getElem_cons_zero, List.setIfInBounds_toArray, List.set_cons_succ, List.set_cons_zero]
                refine wpAny_take (i := 5) (v := ?va11) rfl (by kernel_rfl) (by kernel_rfl) (by kernel_rfl) (fun _ _ _ h => h) (Or.inl ⟨by rfl, ?ha11⟩) ?ra11
                case ha11 => intro w; go_simp; try with_reducible rfl
                simp only [Act.put, List.getElem_toArray, List.getElem_cons_succ, List.getElem_cons_zero, List.setIfInBounds_toArray, List.set_cons_succ, List.set_cons_zero]
                refine wpAny_take (i := 6) (v := ?va14) rfl (by kernel_rfl) (by kernel_rfl) (by kernel_rfl) (fun _ _ _ h => h) (Or.inl ⟨by rfl, ?ha14⟩) ?ra14
                case ha14 => intro w; go_simp; try with_reducible rfl
                simp only [Act.put, List.getElem_toArray, List.getElem_cons_succ, List.getElem_cons_zero, List.setIfInBounds_toArray, List.set_cons_succ, List.set_cons_zero]
                refine wpAny_ready (rs := [1, 7]) (by kernel_rfl) (by simp) ?_
                refine AllReady.cons rfl (fun K hK => ?_) (AllReady.cons rfl (fun K hK => ?_) AllReady.nil)
                · go_simp
                  refine (HC.out _).mono ?_
                  rintro e w2 ⟨a', m, c', rfl, hm, hown, hnil, hb⟩
                  have hk1 : (convert 29 9 (.slice a' m c')).run Tryz.prog w2 = .ok (.string S1) w2 := by rw [HS1.out]; exact (Sl.of_owns (k := .u8) hown (Var.enc_wf v) hm.symm).str
                  have hk2 : (convert 29 9 (.slice (some ⟨b1, o1, none⟩) (j + 1) cap)).run Tryz.prog w2 = .ok (.string S2) w2 := by rw [HS2.out, ← HJ.out]; exact (HP.out.drew.below hb (Nat.le_refl _)).str
                  have HB : Hid (Below wr.drew.heap.size wr.drew w2) := hb
                  clear hm hown hnil hb
                  refine hK _ _ ?_
                  clear hK K
                  try simp only [Act.put, List.getElem_toArray, List.getElem_cons_succ, List.getElem_cons_zero, List.setIfInBounds_toArray, List.set_cons_succ, List.set_cons_zero]
                  refine wpAny_ready (rs := [2, 7]) (by kernel_rfl) (by simp) ?_
                  refine AllReady.cons rfl (fun K hK => ?_) (AllReady.cons rfl (fun K hK => ?_) AllReady.nil)
                  · go_simp
                    refine hK _ _ ?_
                    clear hK K
                    try simp only [Act.put, List.getElem_toArray, List.getElem_cons_succ, List.getElem_cons_zero, List.setIfInBounds_toArray, List.set_cons_succ, List.set_cons_zero]
                    refine wpAny_ready (rs := [7]) (by kernel_rfl) (by simp) ?_
                    refine AllReady.cons rfl (fun K hK => ?_) AllReady.nil
                    go_simp
                    refine hK _ _ ?_
                    clear hK K
                    try simp only [Act.put, List.getElem_toArray, List.getElem_cons_succ, List.getElem_cons_zero, List.setIfInBounds_toArray, List.set_cons_succ, List.set_cons_zero]
                    refine wpAny_take (i := 8) (v := ?va41) rfl (by kernel_rfl) (by kernel_rfl) (by kernel_rfl) (fun _ _ _ h => h) (Or.inl ⟨by rfl, ?ha41⟩) ?ra41
                    case ha41 => intro w; go_simp; try with_reducible rfl
                    simp only [Act.put, List.getElem_toArray, List.getElem_cons_succ, List.getElem_cons_zero, List.setIfInBounds_toArray, List.set_cons_succ, List.set_cons_zero]
                    refine wpAny_done (by kernel_rfl) ?_ _
                    go_wp2
                    go_ret3
                    exact ⟨.inr ⟨HT.out, rfl⟩, ⟨HB.out.os, HB.out.tape, HB.out.output, HB.out.size, HB.out.block⟩⟩
                    
                  · go_simp
                    refine hK _ _ ?_
                    clear hK K
                    try simp only [Act.put, List.getElem_toArray, List.getElem_cons_succ, List.getElem_cons_zero, List.setIfInBounds_toArray, List.set_cons_succ, List.set_cons_zero]
                    refine wpAny_ready (rs := [2]) (by kernel_rfl) (by simp) ?_
                    refine AllReady.cons rfl (fun K hK => ?_) AllReady.nil
                    go_simp
                    refine hK _ _ ?_
                    clear hK K
                    try simp only [Act.put, List.getElem_toArray, List.getElem_cons_succ, List.getElem_cons_zero, List.setIfInBounds_toArray, List.set_cons_succ, List.set_cons_zero]
                    refine wpAny_take (i := 8) (v := ?va59) rfl (by kernel_rfl) (by kernel_rfl) (by kernel_rfl) (fun _ _ _ h => h) (Or.inl ⟨by rfl, ?ha59⟩) ?ra59
                    case ha59 => intro w; go_simp; try with_reducible rfl
                    simp only [Act.put, List.getElem_toArray, List.getElem_cons_succ, List.getElem_cons_zero, List.setIfInBounds_toArray, List.set_cons_succ, List.set_cons_zero]
                    refine wpAny_done (by kernel_rfl) ?_ _
                    go_wp2
                    go_ret3
                    exact ⟨.inr ⟨HT.out, rfl⟩, ⟨HB.out.os, HB.out.tape, HB.out.output, HB.out.size, HB.out.block⟩⟩
                    
                · go_simp
                  refine hK _ _ ?_
                  clear hK K
                  try simp only [Act.put, List.getElem_toArray, List.getElem_cons_succ, List.getElem_cons_zero, List.setIfInBounds_toArray, List.set_cons_succ, List.set_cons_zero]
                  refine wpAny_ready (rs := [1]) (by kernel_rfl) (by simp) ?_
                  refine AllReady.cons rfl (fun K hK => ?_) AllReady.nil
                  go_simp
                  refine (HC.out _).mono ?_
                  rintro e w2 ⟨a', m, c', rfl, hm, hown, hnil, hb⟩
                  have hk1 : (convert 29 9 (.slice a' m c')).run Tryz.prog w2 = .ok (.string S1) w2 := by rw [HS1.out]; exact (Sl.of_owns (k := .u8) hown (Var.enc_wf v) hm.symm).str
                  have hk2 : (convert 29 9 (.slice (some ⟨b1, o1, none⟩) (j + 1) cap)).run Tryz.prog w2 = .ok (.string S2) w2 := by rw [HS2.out, ← HJ.out]; exact (HP.out.drew.below hb (Nat.le_refl _)).str
                  have HB : Hid (Below wr.drew.heap.size wr.drew w2) := hb
                  clear hm hown hnil hb
                  refine hK _ _ ?_
                  clear hK K
                  try simp only [Act.put, List.getElem_toArray, List.getElem_cons_succ, List.getElem_cons_zero, List.setIfInBounds_toArray, List.set_cons_succ, List.set_cons_zero]
                  refine wpAny_ready (rs := [2]) (by kernel_rfl) (by simp) ?_
                  refine AllReady.cons rfl (fun K hK => ?_) AllReady.nil
                  go_simp
                  refine hK _ _ ?_
                  clear hK K
                  try simp only [Act.put, List.getElem_toArray, List.getElem_cons_succ, List.getElem_cons_zero, List.setIfInBounds_toArray, List.set_cons_succ, List.set_cons_zero]
                  refine wpAny_take (i := 8) (v := ?va89) rfl (by kernel_rfl) (by kernel_rfl) (by kernel_rfl) (fun _ _ _ h => h) (Or.inl ⟨by rfl, ?ha89⟩) ?ra89
                  case ha89 => intro w; go_simp; try with_reducible rfl
                  simp only [Act.put, List.getElem_toArray, List.getElem_cons_succ, List.getElem_cons_zero, List.setIfInBounds_toArray, List.set_cons_succ, List.set_cons_zero]
                  refine wpAny_done (by kernel_rfl) ?_ _
                  go_wp2
                  go_ret3
                  exact ⟨.inr ⟨HT.out, rfl⟩, ⟨HB.out.os, HB.out.tape, HB.out.output, HB.out.size, HB.out.block⟩⟩
                  
            · obtain ⟨k, rfl⟩ : ∃ k, i = k + 1 := ⟨i - 1, by omega⟩
              obtain rfl : jx = (k : Int) := by omega
              have hxk := HC1.out k (by omega)
              have hkl : k < (b.take (j + 1)).length := by rw [List.length_take, HL.out]; omega
              have hvd := Var.val_drop hkl
              rw [show (b.take (j + 1)).getD k 0 = b.getD k 0 from by simp [show k < j + 1 by omega]] at hvd
              have hwf := bounds_u8 (HS.out.2.2.2.1 _ (vgetD_mem (i := k) (by rw [HL.out]; omega)))
              obtain ⟨y, hy⟩ : ∃ y, y = b.getD k 0 := ⟨_, rfl⟩
              rw [← hy] at hxk hwf hvd
              obtain ⟨hy0, hy255⟩ := hwf
              have HVD := Lib.hid (wrap_mul HV.out hy0 hvd)
              have hki : (k : Int) < (n : Int) := by omega
              have hk0 : (0 : Int) ≤ (k : Int) := by omega
              clear hvd hy hkl hjx
              go_wp2
              go_roundw
              case rel => exact ⟨k, Var.val ((b.take (j + 1)).drop k) % 18446744073709551616, (k : Int) - 1, by rw [← HVD.out], by go_num, rfl, by omega, Nat.mod_lt _ (by omega), rfl, (by first | exact (trivial : True) | rfl)⟩
              case measure => simp [intOf]; try omega
    · obtain rfl : j = n := by omega
      have HT := Lib.hid (Var.take_far HD.out (.inl (by rw [HL.out]; exact Nat.le_refl _)))
      go_wp2
      go_ret3
      exact ⟨.inr ⟨HT.out, rfl⟩, Below.refl _ _⟩

end Go.Proofs.YtbfjihbkkcggmaaGreat
