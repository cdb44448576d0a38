/- The program's Open. -/
import Derived.Test.YtbfjihbkkcggmaaPackG
import Derived.BigQuiet
import Derived.Deep.RegionHeld3
import Derived.Laws.Cover3
namespace Go.Proofs.Ytbfjihbkkcggmaa
open Go.RowKit

/-- what Open answers: the bytes that were sealed, or the error -/
def OpenIs (w' : World) (e : Ending) (r : Option (List Int)) : Prop :=
  (∃ y a' n' c', r = some y ∧ e = .returned (.tuple #[.slice a' n' c', .int .i64 0]) ∧ Sl .u8 w' a' n' c' y) ∨ (r = none ∧ e = .returned (.tuple #[.slice none 0 0, .int .i64 140]))
set_option maxRecDepth 100000 in
theorem OpenIs.some {w' : World} {e : Ending} {r : Option (List Int)} {y : List Int} (h : OpenIs w' e r) (hr : r = some y) : ∃ a' n' c', e = .returned (.tuple #[.slice a' n' c', .int .i64 0]) ∧ Sl .u8 w' a' n' c' y := by
  rcases h with ⟨y', a', n', c', h1, h2, h3⟩ | ⟨h1, _⟩
  · rw [hr] at h1; cases h1; exact ⟨a', n', c', h2, h3⟩
  · rw [hr] at h1; cases h1
set_option maxRecDepth 100000 in
theorem OpenIs.none {w' : World} {e : Ending} {r : Option (List Int)} (h : OpenIs w' e r) (hr : r = none) : e = .returned (.tuple #[.slice none 0 0, .int .i64 140]) := by
  rcases h with ⟨_, _, _, _, h1, _⟩ | ⟨_, h2⟩
  · rw [hr] at h1; cases h1
  · exact h2

set_option maxRecDepth 100000 in
/-- four numbers, held against four others -/
theorem neq4 (w : World) (q l : List Int) (hq : q.length = 4) (hl : l.length = 4) (r : Bool) (hr : decide (q ≠ l) = r) :
    (binOp .neq 65 (.agg #[.int .u8 (q.getD 0 0), .int .u8 (q.getD 1 0), .int .u8 (q.getD 2 0), .int .u8 (q.getD 3 0)]) (.agg (cells8 l))).run Try.prog w = .ok (.bool r) w := by
  match q, l, hq, hl with
  | [a, b, c, d], [a', b', c', d'], _, _ =>
    rw [run_neq_struct]
    show Result.andThen ((Op.equalIn 10000 65 (.agg #[.int .u8 a, .int .u8 b, .int .u8 c, .int .u8 d]) (.agg #[.int .u8 a', .int .u8 b', .int .u8 c', .int .u8 d'])).run Try.prog w) _ = _
    rw [equal4, ← hr]
    simp only [Result.andThen_ok]
    congr 2
    by_cases h1 : a = a' <;> by_cases h2 : b = b' <;> by_cases h3 : c = c' <;> by_cases h4 : d = d' <;> simp_all

set_option maxRecDepth 100000 in
theorem opn_short {b : List Int} (h : b.length < 4) : Crc.opn b = none := by rw [Crc.opn, if_neg (by omega)]
set_option maxRecDepth 100000 in
theorem opn_no {b q : List Int} {m : Nat} (hm : b.length = m + 4) (hq : q = b.drop m) (h : decide (q ≠ Crc.le4 (Crc.sum (b.take m))) = true) : Crc.opn b = none := by
  rw [Crc.opn, hm, Nat.add_sub_cancel, if_neg]
  rintro ⟨_, h2⟩
  rw [decide_eq_true_iff] at h
  apply h
  have e : b.take m ++ b.drop m = b := List.take_append_drop m b
  rw [Crc.lock] at h2
  rw [hq]
  have h3 : Crc.le4 (Crc.sum (b.take m)) = b.drop m := List.append_cancel_left (h2.trans e.symm)
  exact h3.symm
set_option maxRecDepth 100000 in
theorem opn_yes {b q : List Int} {m : Nat} (hm : b.length = m + 4) (hq : q = b.drop m) (h : decide (q ≠ Crc.le4 (Crc.sum (b.take m))) = false) : Crc.opn b = some (b.take m) := by
  have h' : q = Crc.le4 (Crc.sum (b.take m)) := by simpa using h
  have hl : Crc.lock (b.take m) = b := by rw [Crc.lock, ← h', hq, List.take_append_drop]
  rw [Crc.opn, hm, Nat.add_sub_cancel, if_pos ⟨by omega, hl⟩]

set_option maxHeartbeats 3200000 in
set_option maxRecDepth 100000 in
theorem copen_is (a : Option Addr) (n cap : Nat) (b : List Int) (w : World) (hs : Sl .u8 w a n cap b) (hb1 : n ≤ 200000000000) :
    Calls Try.prog 15 #[.slice a n cap] w fun e w' => OpenIs w' e (Crc.opn b) ∧ Below w.heap.size w w' := by
  have hmx : Try.prog.follows .mixedOrders = true := by kernel_rfl
  have hnc := hs.2.1
  have hcm := hs.2.2.1
  unfold maxLen at hcm
  have HS := Lib.hid hs
  have HL := Lib.hid hs.1
  clear hs
  by_cases h4 : n < 4
  · have HR := Lib.hid (opn_short (b := b) (by rw [HL.out]; exact h4))
    obtain ⟨k, hk⟩ : ∃ k : Int, (n : Int) - 4 = k := ⟨_, rfl⟩
    have hk0 : k < 0 := by omega
    go_enter Try.func15, Try.ntmps15
    go_wp2
    first | (go_quiet (fail)) | fail
    go_wp2
    go_ret2
    exact ⟨.inr ⟨HR.out, rfl⟩, below_drawn (Below.refl _ _) ⟨_, rfl⟩⟩
  · obtain ⟨m, hm⟩ : ∃ m, n = m + 4 := ⟨n - 4, by omega⟩
    obtain ⟨b1, o1, rfl, _, hc1⟩ := HS.out.at (by omega)
    have hsub : (n : Int) - 4 = (m : Int) := by omega
    have hm0 : ¬ (m : Int) < 0 := by omega
    have hm0' : (0 : Int) ≤ (m : Int) := by omega
    have hmn : (m : Int) ≤ (n : Int) := by omega
    have hmc : (m : Int) ≤ (cap : Int) := by omega
    have hmc2 : ¬ (m : Int) = (cap : Int) := by omega
    have hmc3 : ¬ (cap : Int) = (m : Int) := by omega
    have hmc4 : ¬ m = cap := by omega
    have hmc5 : ¬ cap = m := by omega
    have hlen : n - m = 4 := by omega
    have HLM : Hid (b.length = m + 4) := by show _ = _; rw [HL.out, hm]
    obtain ⟨q, hq⟩ : ∃ q, q = b.drop m := ⟨_, rfl⟩
    have HQ := Lib.hid hq
    have hq4 : q.length = 4 := by rw [hq, List.length_drop, HLM.out]; omega
    have hqc : ∀ i, i < 4 → w.cell? ⟨b1, o1 + m + i, none⟩ = some (.int .u8 (q.getD i 0)) := by
      intro i hi
      rw [show o1 + m + i = o1 + (m + i) from by omega, hc1 (m + i) (by omega), hq]
      simp
    have HP := Lib.hid (HS.out.first m (by omega))
    have hsum := Crc.sum_lt HP.out.bytes
    obtain ⟨s, hsd⟩ : ∃ s, s = Crc.sum (b.take m) := ⟨_, rfl⟩
    rw [← hsd] at hsum
    have HSD := Lib.hid hsd
    have HC := Lib.hid (fun w => cbytesOf_is s hsum w)
    have HCS : Hid (∀ w', Sl .u8 w' (some ⟨b1, o1, none⟩) m cap (b.take m) → Calls Try.prog 27 #[.slice (some ⟨b1, o1, none⟩) m cap] w' fun e w2 => e = .returned (.int .u32 ((s : Nat) : Int)) ∧ w' = w2) := by
      intro w' h
      have h2 := csum_is _ _ _ _ w' h
      rw [← hsd] at h2; exact h2
    have hat : ∀ (w : World) (c : Nat), (Instr.arrayAt 65 (.slice (some ⟨b1, o1 + m, none⟩) 4 c)).run Try.prog w = .ok (.pointer (some ⟨b1, o1 + m, none⟩)) w := fun w c => run_arrayAt w 65 _ 4 _ 4 c Try.underlying65 (Nat.le_refl 4)
    obtain ⟨x0, hx0⟩ : ∃ x, x = q.getD 0 0 := ⟨_, rfl⟩
    obtain ⟨x1, hx1⟩ : ∃ x, x = q.getD 1 0 := ⟨_, rfl⟩
    obtain ⟨x2, hx2⟩ : ∃ x, x = q.getD 2 0 := ⟨_, rfl⟩
    obtain ⟨x3, hx3⟩ : ∃ x, x = q.getD 3 0 := ⟨_, rfl⟩
    obtain ⟨r, hr⟩ : ∃ r, decide (q ≠ Crc.le4 s) = r := ⟨_, rfl⟩
    have HR := Lib.hid hr
    have hneq := fun w => neq4 w q (Crc.le4 s) hq4 rfl r hr
    have k0 := hqc 0 (by omega)
    have k1 := hqc 1 (by omega)
    have k2 := hqc 2 (by omega)
    have k3 := hqc 3 (by omega)
    rw [← hx0, ← hx1, ← hx2, ← hx3] at hneq
    rw [← hx0] at k0
    rw [← hx1] at k1
    rw [← hx2] at k2
    rw [← hx3] at k3
    have hgd : Try.prog.eqGuardType Try.prog.depth 65 = false := by kernel_rfl
    have HLT := Lib.hid (cell_lt k0)
    have HK0 : Hid (w.drew.cell? ⟨b1, o1 + m, none⟩ = some (.int .u8 x0) ∧ w.drew.cell? ⟨b1, o1 + m + 1, none⟩ = some (.int .u8 x1) ∧ w.drew.cell? ⟨b1, o1 + m + 2, none⟩ = some (.int .u8 x2) ∧ w.drew.cell? ⟨b1, o1 + m + 3, none⟩ = some (.int .u8 x3)) := ⟨k0, k1, k2, k3⟩
    clear hc1 hq hqc hsd hx0 hx1 hx2 hx3 k0 k1 k2 k3 hr hq4 hsum hm
    cases r with
    | true =>
      have HT := Lib.hid (opn_no HLM.out HQ.out (by rw [← HSD.out]; exact HR.out))
      go_enter Try.func15, Try.ntmps15
      go_wp2
      refine wp_region_held_drew (S := (fun W => W.cell? ⟨b1, o1 + m, none⟩ = some (.int .u8 x0) ∧ W.cell? ⟨b1, o1 + m + 1, none⟩ = some (.int .u8 x1) ∧ W.cell? ⟨b1, o1 + m + 2, none⟩ = some (.int .u8 x2) ∧ W.cell? ⟨b1, o1 + m + 3, none⟩ = some (.int .u8 x3))) (by kernel_rfl) (by first | (first | exact HK2.out | exact HK0.out) | ((try dsimp only); first | exact HK2.out | exact HK0.out)) (fun hHeld => ?_)
      refine wpAnyH_take (i := 0) (v := ?vp1) rfl (by kernel_rfl) (by kernel_rfl) (by kernel_rfl) (fun _ _ _ h => h) (Or.inl ⟨by rfl, ?hp1⟩) (by assumption) ?rp1
      case hp1 => intro w hSw; (try dsimp only at hSw); go_simp; try with_reducible rfl
      simp only [Act.put, List.getElem_toArray, List.getElem_cons_succ, List.getElem_cons_zero, List.setIfInBounds_toArray, List.set_cons_succ, List.set_cons_zero]
      refine wpAnyH_take (i := 1) (v := ?vp4) rfl (by kernel_rfl) (by kernel_rfl) (by kernel_rfl) (fun _ _ _ h => h) (Or.inl ⟨by rfl, ?hp4⟩) (by assumption) ?rp4
      case hp4 => intro w hSw; (try dsimp only at hSw); go_simp; try with_reducible rfl
      simp only [Act.put, List.getElem_toArray, List.getElem_cons_succ, List.getElem_cons_zero, List.setIfInBounds_toArray, List.set_cons_succ, List.set_cons_zero]
      refine wpAnyH_take (i := 2) (v := ?vp7) rfl (by kernel_rfl) (by kernel_rfl) (by kernel_rfl) (fun _ _ _ h => h) (Or.inl ⟨by rfl, ?hp7⟩) (by assumption) ?rp7
      case hp7 => intro w hSw; (try dsimp only at hSw); go_simp; try with_reducible rfl
      simp only [Act.put, List.getElem_toArray, List.getElem_cons_succ, List.getElem_cons_zero, List.setIfInBounds_toArray, List.set_cons_succ, List.set_cons_zero]
      refine wpAnyH_take (i := 3) (v := ?vp10) rfl (by kernel_rfl) (by kernel_rfl) (by kernel_rfl) (fun _ _ _ h => h) (Or.inl ⟨by rfl, ?hp10⟩) (by assumption) ?rp10
      case hp10 => intro w hSw; (try dsimp only at hSw); go_simp; try with_reducible rfl
      simp only [Act.put, List.getElem_toArray, List.getElem_cons_succ, List.getElem_cons_zero, List.setIfInBounds_toArray, List.set_cons_succ, List.set_cons_zero]
      refine wpAnyH_take (i := 4) (v := ?vp13) rfl (by kernel_rfl) (by kernel_rfl) (by kernel_rfl) (fun _ _ _ h => h) (Or.inl ⟨by rfl, ?hp13⟩) (by assumption) ?rp13
      case hp13 => intro w hSw; (try dsimp only at hSw); go_simp; try with_reducible rfl
      simp only [Act.put, List.getElem_toArray, List.getElem_cons_succ, List.getElem_cons_zero, List.setIfInBounds_toArray, List.set_cons_succ, List.set_cons_zero]
      refine wpAnyH_take (i := 5) (v := ?vp16) rfl (by kernel_rfl) (by kernel_rfl) (by kernel_rfl) (fun _ _ _ h => h) (Or.inl ⟨by rfl, ?hp16⟩) (by assumption) ?rp16
      case hp16 => intro w hSw; (try dsimp only at hSw); go_simp; try with_reducible rfl
      simp only [Act.put, List.getElem_toArray, List.getElem_cons_succ, List.getElem_cons_zero, List.setIfInBounds_toArray, List.set_cons_succ, List.set_cons_zero]
      refine wpAnyH_take (i := 6) (v := ?vp19) rfl (by kernel_rfl) (by kernel_rfl) (by kernel_rfl) (fun _ _ _ h => h) (Or.inl ⟨by rfl, ?hp19⟩) (by assumption) ?rp19
      case hp19 => intro w hSw; (try dsimp only at hSw); go_simp; try with_reducible rfl
      simp only [Act.put, List.getElem_toArray, List.getElem_cons_succ, List.getElem_cons_zero, List.setIfInBounds_toArray, List.set_cons_succ, List.set_cons_zero]
      refine wpAnyH_take (i := 7) (v := ?vp22) rfl (by kernel_rfl) (by kernel_rfl) (by kernel_rfl) (fun _ _ _ h => h) (Or.inl ⟨by rfl, ?hp22⟩) (by assumption) ?rp22
      case hp22 => intro w hSw; (try dsimp only at hSw); go_simp; try with_reducible rfl
      simp only [Act.put, List.getElem_toArray, List.getElem_cons_succ, List.getElem_cons_zero, List.setIfInBounds_toArray, List.set_cons_succ, List.set_cons_zero]
      refine wpAnyH_take (i := 8) (v := ?vp25) rfl (by kernel_rfl) (by kernel_rfl) (by kernel_rfl) (fun _ _ _ h => h) (Or.inl ⟨by rfl, ?hp25⟩) (by assumption) ?rp25
      case hp25 => intro w hSw; (try dsimp only at hSw); go_simp; try with_reducible rfl
      simp only [Act.put, List.getElem_toArray, List.getElem_cons_succ, List.getElem_cons_zero, List.setIfInBounds_toArray, List.set_cons_succ, List.set_cons_zero]
      refine wpAnyH_take (i := 9) (v := ?vp28) rfl (by kernel_rfl) (by kernel_rfl) (by kernel_rfl) (fun _ _ _ h => h) (Or.inl ⟨by rfl, ?hp28⟩) (by assumption) ?rp28
      case hp28 => intro w hSw; (try dsimp only at hSw); go_simp; try with_reducible rfl
      simp only [Act.put, List.getElem_toArray, List.getElem_cons_succ, List.getElem_cons_zero, List.setIfInBounds_toArray, List.set_cons_succ, List.set_cons_zero]
      refine wpAnyH_take (i := 10) (v := ?vp31) rfl (by kernel_rfl) (by kernel_rfl) (by kernel_rfl) (fun _ _ _ h => h) (Or.inl ⟨by rfl, ?hp31⟩) (by assumption) ?rp31
      case hp31 => intro w hSw; (try dsimp only at hSw); go_simp; try with_reducible rfl
      simp only [Act.put, List.getElem_toArray, List.getElem_cons_succ, List.getElem_cons_zero, List.setIfInBounds_toArray, List.set_cons_succ, List.set_cons_zero]
      refine wpAnyH_ready (rs := [11]) (by kernel_rfl) (by simp) ?_
      refine AllReadyH.cons rfl (fun K hK => ?_) AllReadyH.nil
      go_simp
      refine (HCS.out _ HP.out.drew).mono ?_
      rintro e wz ⟨rfl, hwz⟩
      subst hwz
      refine hK.out _ _ (by first | (first | exact HK2.out | exact HK0.out) | ((try dsimp only); first | exact HK2.out | exact HK0.out)) (fun hHeld => ?_)
      clear hK K
      try simp only [Act.put, List.getElem_toArray, List.getElem_cons_succ, List.getElem_cons_zero, List.setIfInBounds_toArray, List.set_cons_succ, List.set_cons_zero]
      refine wpAnyH_ready (rs := [12]) (by kernel_rfl) (by simp) ?_
      refine AllReadyH.cons rfl (fun K hK => ?_) AllReadyH.nil
      go_simp
      refine (HC.out _).mono ?_
      rintro e w2 ⟨rfl, hb2⟩
      have HB2 : Hid (Below w.heap.size w w2) := ⟨hb2.os, hb2.tape, hb2.output, hb2.size, hb2.block⟩
      have HK2 : Hid (w2.cell? ⟨b1, o1 + m, none⟩ = some (.int .u8 x0) ∧ w2.cell? ⟨b1, o1 + m + 1, none⟩ = some (.int .u8 x1) ∧ w2.cell? ⟨b1, o1 + m + 2, none⟩ = some (.int .u8 x2) ∧ w2.cell? ⟨b1, o1 + m + 3, none⟩ = some (.int .u8 x3)) := by
        obtain ⟨k0, k1, k2, k3⟩ := HK0.out
        exact ⟨by rw [hb2.cell (p := ⟨b1, o1 + m, none⟩) HLT.out]; exact k0, by rw [hb2.cell (p := ⟨b1, o1 + m + 1, none⟩) HLT.out]; exact k1, by rw [hb2.cell (p := ⟨b1, o1 + m + 2, none⟩) HLT.out]; exact k2, by rw [hb2.cell (p := ⟨b1, o1 + m + 3, none⟩) HLT.out]; exact k3⟩
      clear hb2
      refine hK.out _ _ (by first | (first | exact HK2.out | exact HK0.out) | ((try dsimp only); first | exact HK2.out | exact HK0.out)) (fun hHeld => ?_)
      clear hK K
      try simp only [Act.put, List.getElem_toArray, List.getElem_cons_succ, List.getElem_cons_zero, List.setIfInBounds_toArray, List.set_cons_succ, List.set_cons_zero]
      refine wpAnyH_take (i := 13) (v := ?vp56) rfl (by kernel_rfl) (by kernel_rfl) (by kernel_rfl) (fun _ _ _ h => h) (Or.inl ⟨by rfl, ?hp56⟩) (by assumption) ?rp56
      case hp56 => intro w hSw; (try dsimp only at hSw); go_simp; try with_reducible rfl
      simp only [Act.put, List.getElem_toArray, List.getElem_cons_succ, List.getElem_cons_zero, List.setIfInBounds_toArray, List.set_cons_succ, List.set_cons_zero]
      refine wpAnyH_take (i := 14) (v := ?vp59) rfl (by kernel_rfl) (by kernel_rfl) (by kernel_rfl) (fun _ _ _ h => h) (Or.inl ⟨by rfl, ?hp59⟩) (by assumption) ?rp59
      case hp59 => intro w hSw; (try dsimp only at hSw); go_simp; try with_reducible rfl
      simp only [Act.put, List.getElem_toArray, List.getElem_cons_succ, List.getElem_cons_zero, List.setIfInBounds_toArray, List.set_cons_succ, List.set_cons_zero]
      refine wpAnyH_done (by kernel_rfl) ?_ _
      go_wp2
      go_ret2
      exact ⟨.inr ⟨HT.out, rfl⟩, HB2.out⟩
    | false =>
      have HT := Lib.hid (opn_yes HLM.out HQ.out (by rw [← HSD.out]; exact HR.out))
      go_enter Try.func15, Try.ntmps15
      go_wp2
      refine wp_region_held_drew (S := (fun W => W.cell? ⟨b1, o1 + m, none⟩ = some (.int .u8 x0) ∧ W.cell? ⟨b1, o1 + m + 1, none⟩ = some (.int .u8 x1) ∧ W.cell? ⟨b1, o1 + m + 2, none⟩ = some (.int .u8 x2) ∧ W.cell? ⟨b1, o1 + m + 3, none⟩ = some (.int .u8 x3))) (by kernel_rfl) (by first | (first | exact HK2.out | exact HK0.out) | ((try dsimp only); first | exact HK2.out | exact HK0.out)) (fun hHeld => ?_)
      refine wpAnyH_take (i := 0) (v := ?vq1) rfl (by kernel_rfl) (by kernel_rfl) (by kernel_rfl) (fun _ _ _ h => h) (Or.inl ⟨by rfl, ?hq1⟩) (by assumption) ?rq1
      case hq1 => intro w hSw; (try dsimp only at hSw); go_simp; try with_reducible rfl
      simp only [Act.put, List.getElem_toArray, List.getElem_cons_succ, List.getElem_cons_zero, List.setIfInBounds_toArray, List.set_cons_succ, List.set_cons_zero]
      refine wpAnyH_take (i := 1) (v := ?vq4) rfl (by kernel_rfl) (by kernel_rfl) (by kernel_rfl) (fun _ _ _ h => h) (Or.inl ⟨by rfl, ?hq4⟩) (by assumption) ?rq4
      case hq4 => intro w hSw; (try dsimp only at hSw); go_simp; try with_reducible rfl
      simp only [Act.put, List.getElem_toArray, List.getElem_cons_succ, List.getElem_cons_zero, List.setIfInBounds_toArray, List.set_cons_succ, List.set_cons_zero]
      refine wpAnyH_take (i := 2) (v := ?vq7) rfl (by kernel_rfl) (by kernel_rfl) (by kernel_rfl) (fun _ _ _ h => h) (Or.inl ⟨by rfl, ?hq7⟩) (by assumption) ?rq7
      case hq7 => intro w hSw; (try dsimp only at hSw); go_simp; try with_reducible rfl
      simp only [Act.put, List.getElem_toArray, List.getElem_cons_succ, List.getElem_cons_zero, List.setIfInBounds_toArray, List.set_cons_succ, List.set_cons_zero]
      refine wpAnyH_take (i := 3) (v := ?vq10) rfl (by kernel_rfl) (by kernel_rfl) (by kernel_rfl) (fun _ _ _ h => h) (Or.inl ⟨by rfl, ?hq10⟩) (by assumption) ?rq10
      case hq10 => intro w hSw; (try dsimp only at hSw); go_simp; try with_reducible rfl
      simp only [Act.put, List.getElem_toArray, List.getElem_cons_succ, List.getElem_cons_zero, List.setIfInBounds_toArray, List.set_cons_succ, List.set_cons_zero]
      refine wpAnyH_take (i := 4) (v := ?vq13) rfl (by kernel_rfl) (by kernel_rfl) (by kernel_rfl) (fun _ _ _ h => h) (Or.inl ⟨by rfl, ?hq13⟩) (by assumption) ?rq13
      case hq13 => intro w hSw; (try dsimp only at hSw); go_simp; try with_reducible rfl
      simp only [Act.put, List.getElem_toArray, List.getElem_cons_succ, List.getElem_cons_zero, List.setIfInBounds_toArray, List.set_cons_succ, List.set_cons_zero]
      refine wpAnyH_take (i := 5) (v := ?vq16) rfl (by kernel_rfl) (by kernel_rfl) (by kernel_rfl) (fun _ _ _ h => h) (Or.inl ⟨by rfl, ?hq16⟩) (by assumption) ?rq16
      case hq16 => intro w hSw; (try dsimp only at hSw); go_simp; try with_reducible rfl
      simp only [Act.put, List.getElem_toArray, List.getElem_cons_succ, List.getElem_cons_zero, List.setIfInBounds_toArray, List.set_cons_succ, List.set_cons_zero]
      refine wpAnyH_take (i := 6) (v := ?vq19) rfl (by kernel_rfl) (by kernel_rfl) (by kernel_rfl) (fun _ _ _ h => h) (Or.inl ⟨by rfl, ?hq19⟩) (by assumption) ?rq19
      case hq19 => intro w hSw; (try dsimp only at hSw); go_simp; try with_reducible rfl
      simp only [Act.put, List.getElem_toArray, List.getElem_cons_succ, List.getElem_cons_zero, List.setIfInBounds_toArray, List.set_cons_succ, List.set_cons_zero]
      refine wpAnyH_take (i := 7) (v := ?vq22) rfl (by kernel_rfl) (by kernel_rfl) (by kernel_rfl) (fun _ _ _ h => h) (Or.inl ⟨by rfl, ?hq22⟩) (by assumption) ?rq22
      case hq22 => intro w hSw; (try dsimp only at hSw); go_simp; try with_reducible rfl
      simp only [Act.put, List.getElem_toArray, List.getElem_cons_succ, List.getElem_cons_zero, List.setIfInBounds_toArray, List.set_cons_succ, List.set_cons_zero]
      refine wpAnyH_take (i := 8) (v := ?vq25) rfl (by kernel_rfl) (by kernel_rfl) (by kernel_rfl) (fun _ _ _ h => h) (Or.inl ⟨by rfl, ?hq25⟩) (by assumption) ?rq25
      case hq25 => intro w hSw; (try dsimp only at hSw); go_simp; try with_reducible rfl
      simp only [Act.put, List.getElem_toArray, List.getElem_cons_succ, List.getElem_cons_zero, List.setIfInBounds_toArray, List.set_cons_succ, List.set_cons_zero]
      refine wpAnyH_take (i := 9) (v := ?vq28) rfl (by kernel_rfl) (by kernel_rfl) (by kernel_rfl) (fun _ _ _ h => h) (Or.inl ⟨by rfl, ?hq28⟩) (by assumption) ?rq28
      case hq28 => intro w hSw; (try dsimp only at hSw); go_simp; try with_reducible rfl
      simp only [Act.put, List.getElem_toArray, List.getElem_cons_succ, List.getElem_cons_zero, List.setIfInBounds_toArray, List.set_cons_succ, List.set_cons_zero]
      refine wpAnyH_take (i := 10) (v := ?vq31) rfl (by kernel_rfl) (by kernel_rfl) (by kernel_rfl) (fun _ _ _ h => h) (Or.inl ⟨by rfl, ?hq31⟩) (by assumption) ?rq31
      case hq31 => intro w hSw; (try dsimp only at hSw); go_simp; try with_reducible rfl
      simp only [Act.put, List.getElem_toArray, List.getElem_cons_succ, List.getElem_cons_zero, List.setIfInBounds_toArray, List.set_cons_succ, List.set_cons_zero]
      refine wpAnyH_ready (rs := [11]) (by kernel_rfl) (by simp) ?_
      refine AllReadyH.cons rfl (fun K hK => ?_) AllReadyH.nil
      go_simp
      refine (HCS.out _ HP.out.drew).mono ?_
      rintro e wz ⟨rfl, hwz⟩
      subst hwz
      refine hK.out _ _ (by first | (first | exact HK2.out | exact HK0.out) | ((try dsimp only); first | exact HK2.out | exact HK0.out)) (fun hHeld => ?_)
      clear hK K
      try simp only [Act.put, List.getElem_toArray, List.getElem_cons_succ, List.getElem_cons_zero, List.setIfInBounds_toArray, List.set_cons_succ, List.set_cons_zero]
      refine wpAnyH_ready (rs := [12]) (by kernel_rfl) (by simp) ?_
      refine AllReadyH.cons rfl (fun K hK => ?_) AllReadyH.nil
      go_simp
      refine (HC.out _).mono ?_
      rintro e w2 ⟨rfl, hb2⟩
      have HB2 : Hid (Below w.heap.size w w2) := ⟨hb2.os, hb2.tape, hb2.output, hb2.size, hb2.block⟩
      have HK2 : Hid (w2.cell? ⟨b1, o1 + m, none⟩ = some (.int .u8 x0) ∧ w2.cell? ⟨b1, o1 + m + 1, none⟩ = some (.int .u8 x1) ∧ w2.cell? ⟨b1, o1 + m + 2, none⟩ = some (.int .u8 x2) ∧ w2.cell? ⟨b1, o1 + m + 3, none⟩ = some (.int .u8 x3)) := by
        obtain ⟨k0, k1, k2, k3⟩ := HK0.out
        exact ⟨by rw [hb2.cell (p := ⟨b1, o1 + m, none⟩) HLT.out]; exact k0, by rw [hb2.cell (p := ⟨b1, o1 + m + 1, none⟩) HLT.out]; exact k1, by rw [hb2.cell (p := ⟨b1, o1 + m + 2, none⟩) HLT.out]; exact k2, by rw [hb2.cell (p := ⟨b1, o1 + m + 3, none⟩) HLT.out]; exact k3⟩
      clear hb2
      refine hK.out _ _ (by first | (first | exact HK2.out | exact HK0.out) | ((try dsimp only); first | exact HK2.out | exact HK0.out)) (fun hHeld => ?_)
      clear hK K
      try simp only [Act.put, List.getElem_toArray, List.getElem_cons_succ, List.getElem_cons_zero, List.setIfInBounds_toArray, List.set_cons_succ, List.set_cons_zero]
      refine wpAnyH_take (i := 13) (v := ?vq56) rfl (by kernel_rfl) (by kernel_rfl) (by kernel_rfl) (fun _ _ _ h => h) (Or.inl ⟨by rfl, ?hq56⟩) (by assumption) ?rq56
      case hq56 => intro w hSw; (try dsimp only at hSw); go_simp; try with_reducible rfl
      simp only [Act.put, List.getElem_toArray, List.getElem_cons_succ, List.getElem_cons_zero, List.setIfInBounds_toArray, List.set_cons_succ, List.set_cons_zero]
      refine wpAnyH_take (i := 14) (v := ?vq59) rfl (by kernel_rfl) (by kernel_rfl) (by kernel_rfl) (fun _ _ _ h => h) (Or.inl ⟨by rfl, ?hq59⟩) (by assumption) ?rq59
      case hq59 => intro w hSw; (try dsimp only at hSw); go_simp; try with_reducible rfl
      simp only [Act.put, List.getElem_toArray, List.getElem_cons_succ, List.getElem_cons_zero, List.setIfInBounds_toArray, List.set_cons_succ, List.set_cons_zero]
      refine wpAnyH_done (by kernel_rfl) ?_ _
      go_wp2_with (go_at_call 38; refine (bclone_is _ _ _ (b.take m) _ (HP.out.below HB2.out (Nat.le_refl _)) (by omega)).mono ?_; rintro e w4 ⟨a4, c4, rfl, hown, hb⟩; have HO := Lib.hid hown; have HB4 := Lib.hid (HB2.out.trans (hb.mono HB2.out.size)); clear hown hb)
      go_ret2
      exact ⟨.inl ⟨b.take m, a4, _, c4, HT.out, rfl, Sl.of_owns (k := .u8) HO.out HP.out.2.2.2.1 HP.out.1⟩, HB4.out⟩

end Go.Proofs.Ytbfjihbkkcggmaa
