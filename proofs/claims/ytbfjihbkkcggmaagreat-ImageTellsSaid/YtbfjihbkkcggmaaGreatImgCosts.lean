/- Used by the law. -/
import Derived.Test.YtbfjihbkkcggmaaGreatPackI
import Derived.Test.YtbfjihbkkcggmaaGreatPackF
import Derived.Test.YtbfjihbkkcggmaaGreatPackD
import Derived.Deep.RegionHeld3
namespace Go.Proofs.YtbfjihbkkcggmaaGreat
open Go.RowKit

theorem rulesNums_next {l : List Rul} {i : Nat} (h : i < l.length) (x : Rul) (hx : l.getD i Rul.no = x) : Img.rulesNums (l.take (i + 1)) = Img.rulesNums (l.take i) ++ Img.ruleNums x := by
  have e : l[i] = x := by simpa [h] using hx
  rw [List.take_succ_eq_append_getElem h, e]
  simp [Img.rulesNums]
theorem rulesNums_le {l : List Rul} (i : Nat) (b : List Int) : (b ++ Img.flat (Img.rulesNums (l.take i))).length ≤ (b ++ Img.flat (Img.rulesNums l)).length := by
  have h : Img.rulesNums l = Img.rulesNums (l.take i) ++ Img.rulesNums (l.drop i) := by
    unfold Img.rulesNums
    rw [← List.flatMap_append, List.take_append_drop]
  rw [h, Img.flat_app]
  simp only [List.length_append]
  omega

set_option maxHeartbeats 6400000 in
set_option maxRecDepth 100000 in
theorem rcosts15_is (a : Option Addr) (n1 cap : Nat) (b : List Int) (c : Cw) (w : World) (hs : Sl .u8 w a n1 cap b) (hc : c.Good w) (hk : File.check c.c = true) (hb : (b ++ Img.flat (Img.costNums c.c)).length ≤ 200000000000) :
    Calls Tryz.prog 24 #[.slice a n1 cap, c.v] w fun e w' => SlIs w' e (b ++ Img.flat (Img.costNums c.c)) ∧ Below w.heap.size w w' := by
  have hmx : Tryz.prog.follows .mixedOrders = true := by kernel_rfl
  obtain ⟨cm, cl, co, ct, ra, rn, rcap, xs⟩ := c
  have hbs := hc.2
  simp only [Cw.base, List.mem_cons, List.not_mem_nil, or_false, forall_eq_or_imp, forall_eq] at hbs
  obtain ⟨⟨hm0, hm1⟩, ⟨hl0, hl1⟩, ⟨ho0, ho1⟩, ⟨ht0, ht1⟩⟩ := hbs
  obtain ⟨m, rfl⟩ : ∃ m : Nat, cm = (m : Int) := ⟨cm.toNat, by omega⟩
  obtain ⟨l, rfl⟩ : ∃ m : Nat, cl = (m : Int) := ⟨cl.toNat, by omega⟩
  obtain ⟨o, rfl⟩ : ∃ m : Nat, co = (m : Int) := ⟨co.toNat, by omega⟩
  obtain ⟨t, rfl⟩ : ∃ m : Nat, ct = (m : Int) := ⟨ct.toNat, by omega⟩
  have hm9 : m < 18446744073709551616 := by omega
  have hl9 : l < 18446744073709551616 := by omega
  have ho9 : o < 18446744073709551616 := by omega
  have ht9 : t < 18446744073709551616 := by omega
  have HM9 := Lib.hid (And.intro hm9 (And.intro hl9 (And.intro ho9 ht9)))
  have HRS : Hid (Rs w ra rn rcap xs) := hc.1
  have HLX : Hid (xs.length = rn) := HRS.out.1
  have hrc := HRS.out.2.1
  have hrm := HRS.out.2.2.1
  unfold maxLen at hrm
  have HFIT : Hid (∀ x ∈ ruls xs, Spec.fit x = true) := (File.check_parts hk).2.2.1
  have hrn : rn ≤ 200 := by
    have h := (File.check_parts hk).2.1
    have h2 : (ruls xs).length ≤ 200 := h
    rw [ruls_length, HLX.out] at h2
    exact h2
  have hnums : Img.flat (Img.costNums (Cw.c ⟨(m : Int), (l : Int), (o : Int), (t : Int), ra, rn, rcap, xs⟩)) = Var.enc m ++ (Var.enc l ++ (Var.enc o ++ (Var.enc t ++ (Var.enc rn ++ Img.flat (Img.rulesNums (ruls xs)))))) := by
    show Img.flat (([(m : Int), (l : Int), (o : Int), (t : Int)].map Int.toNat) ++ (ruls xs).length :: Img.rulesNums (ruls xs)) = _
    rw [ruls_length, HLX.out]
    simp only [List.map_cons, List.map_nil, Int.toNat_natCast, List.cons_append, List.nil_append, Img.flat_cons]
  rw [hnums] at hb ⊢
  obtain ⟨Z1, hZ1⟩ : ∃ Z, Z = b ++ Var.enc m := ⟨_, rfl⟩
  obtain ⟨Z2, hZ2⟩ : ∃ Z, Z = Z1 ++ Var.enc l := ⟨_, rfl⟩
  obtain ⟨Z3, hZ3⟩ : ∃ Z, Z = Z2 ++ Var.enc o := ⟨_, rfl⟩
  obtain ⟨Z4, hZ4⟩ : ∃ Z, Z = Z3 ++ Var.enc t := ⟨_, rfl⟩
  obtain ⟨Z5, hZ5⟩ : ∃ Z, Z = Z4 ++ Var.enc rn := ⟨_, rfl⟩
  have hZ : b ++ (Var.enc m ++ (Var.enc l ++ (Var.enc o ++ (Var.enc t ++ (Var.enc rn ++ Img.flat (Img.rulesNums (ruls xs))))))) = Z5 ++ Img.flat (Img.rulesNums (ruls xs)) := by
    rw [hZ5, hZ4, hZ3, hZ2, hZ1]; simp only [List.append_assoc]
  rw [hZ] at hb ⊢
  have hln : b.length ≤ Z1.length ∧ Z1.length ≤ Z2.length ∧ Z2.length ≤ Z3.length ∧ Z3.length ≤ Z4.length ∧ Z4.length ≤ Z5.length ∧ Z5.length ≤ 200000000000 := by
    rw [List.length_append] at hb
    refine ⟨by rw [hZ1, List.length_append]; omega, by rw [hZ2, List.length_append]; omega, by rw [hZ3, List.length_append]; omega, by rw [hZ4, List.length_append]; omega, by rw [hZ5, List.length_append]; omega, by omega⟩
  have HLN := Lib.hid hln
  have HB := Lib.hid hb
  have HS := Lib.hid hs
  have hwb := hs.2.2.2.1
  have HW1 : Hid (∀ z ∈ Z1, (Lit.int .u8 z).wf = true) := by rw [hZ1]; exact app_wf hwb (Var.enc_wf m)
  have HW2 : Hid (∀ z ∈ Z2, (Lit.int .u8 z).wf = true) := by rw [hZ2]; exact app_wf HW1.out (Var.enc_wf l)
  have HW3 : Hid (∀ z ∈ Z3, (Lit.int .u8 z).wf = true) := by rw [hZ3]; exact app_wf HW2.out (Var.enc_wf o)
  have HW4 : Hid (∀ z ∈ Z4, (Lit.int .u8 z).wf = true) := by rw [hZ4]; exact app_wf HW3.out (Var.enc_wf t)
  have HC1 : Hid (∀ w a n c, Sl .u8 w a n c b → Calls Tryz.prog 54 #[.slice a n c, .int .u64 (m : Int)] w fun e w' => MadeB w w' e Z1) := by
    intro w a n c h; rw [hZ1]; exact rput_is a n c b m HM9.out.1 w h (by rw [← h.1]; have := HLN.out; omega)
  have HC2 : Hid (∀ w a n c, Sl .u8 w a n c Z1 → Calls Tryz.prog 54 #[.slice a n c, .int .u64 (l : Int)] w fun e w' => MadeB w w' e Z2) := by
    intro w a n c h; rw [hZ2]; exact rput_is a n c Z1 l HM9.out.2.1 w h (by rw [← h.1]; have := HLN.out; omega)
  have HC3 : Hid (∀ w a n c, Sl .u8 w a n c Z2 → Calls Tryz.prog 54 #[.slice a n c, .int .u64 (o : Int)] w fun e w' => MadeB w w' e Z3) := by
    intro w a n c h; rw [hZ3]; exact rput_is a n c Z2 o HM9.out.2.2.1 w h (by rw [← h.1]; have := HLN.out; omega)
  have HC4 : Hid (∀ w a n c, Sl .u8 w a n c Z3 → Calls Tryz.prog 54 #[.slice a n c, .int .u64 (t : Int)] w fun e w' => MadeB w w' e Z4) := by
    intro w a n c h; rw [hZ4]; exact rput_is a n c Z3 t HM9.out.2.2.2 w h (by rw [← h.1]; have := HLN.out; omega)
  have HC5 : Hid (∀ w a n c la lc, Sl .u8 w a n c Z4 → Sl .i64 w la 1 lc [(rn : Int)] → Calls Tryz.prog 21 #[.slice a n c, .slice la 1 lc] w fun e w' => SlIs w' e Z5 ∧ Below w.heap.size w w') := by
    intro w a n c la lc h hl
    have e : Z5 = Z4 ++ Img.flat ([(rn : Int)].map Int.toNat) := by rw [hZ5]; simp [Img.flat]
    rw [e]
    refine rput15_is a n c Z4 la 1 lc [(rn : Int)] w h hl (by intro z hz; simp at hz; omega) (by rw [← e]; have := HLN.out; omega)
  obtain ⟨W0, hW0⟩ : ∃ W0, W0 = w.alloc (.cells #[.int .u64 (m : Int), .int .u64 (l : Int), .int .u64 (o : Int), .int .u64 (t : Int), .slice ra rn rcap] 26) := ⟨_, rfl⟩
  have HBX0 : Hid (Below w.heap.size w W0 ∧ W0.heap.size = w.heap.size + 1) := by
    rw [hW0]; exact ⟨(Below.refl _ w).alloc (Nat.le_refl _) _, by simp⟩
  have HBOX : Hid (∀ W, Below (w.heap.size + 1) W0 W → W.cell? ⟨w.heap.size, 0, none⟩ = some (.int .u64 (m : Int)) ∧ W.cell? ⟨w.heap.size, 1, none⟩ = some (.int .u64 (l : Int)) ∧ W.cell? ⟨w.heap.size, 2, none⟩ = some (.int .u64 (o : Int)) ∧ W.cell? ⟨w.heap.size, 3, none⟩ = some (.int .u64 (t : Int)) ∧ W.cell? ⟨w.heap.size, 4, none⟩ = some (.slice ra rn rcap)) := by
    intro W hW
    have e : ∀ j, W.cell? ⟨w.heap.size, j, none⟩ = W0.cell? ⟨w.heap.size, j, none⟩ := fun j => hW.cell (p := ⟨w.heap.size, j, none⟩) (by show w.heap.size < w.heap.size + 1; omega)
    rw [e, e, e, e, e, hW0]
    simp only [World.cell?_alloc_mark]
    exact ⟨rfl, rfl, rfl, rfl, rfl⟩
  have HS0 : Hid (Sl .u8 W0.drew a n1 cap b) := by
    show Sl _ _ _ _ _ _
    rw [hW0]; exact (HS.out.alloc _).drew
  have HB0 : Hid (Below (w.heap.size + 1) W0 W0.drew) := ⟨rfl, rfl, rfl, Nat.le_refl _, fun _ _ => rfl⟩
  clear hs hc hk hb hln hZ hZ1 hZ2 hZ3 hZ4 hZ5 hnums hwb hm0 hm1 hl0 hl1 ho0 ho1 ht0 ht1 hm9 hl9 ho9 ht9
  show Calls _ _ #[.slice a n1 cap, .agg #[.int .u64 (m : Int), .int .u64 (l : Int), .int .u64 (o : Int), .int .u64 (t : Int), .slice ra rn rcap]] w _
  go_enter Tryz.func24, Tryz.ntmps24
  go_wp2
  rw [← hW0]
  clear hW0
  refine wp_region_held_drew (S := (fun W => W.cell? ⟨w.heap.size, 0, none⟩ = some (.int .u64 (m : Int)) ∧ W.cell? ⟨w.heap.size, 1, none⟩ = some (.int .u64 (l : Int)) ∧ W.cell? ⟨w.heap.size, 2, none⟩ = some (.int .u64 (o : Int)) ∧ W.cell? ⟨w.heap.size, 3, none⟩ = some (.int .u64 (t : Int)) ∧ W.cell? ⟨w.heap.size, 4, none⟩ = some (.slice ra rn rcap))) (by kernel_rfl) (by first | (first | exact K2.out | exact K1.out | exact HBOX.out _ HB0.out) | ((try dsimp only); first | exact K2.out | exact K1.out | exact HBOX.out _ HB0.out)) (fun hHeld => ?_)
  refine wpAnyH_take (i := 0) (v := ?va1) rfl (by kernel_rfl) (by kernel_rfl) (by kernel_rfl) (fun _ _ _ h => h) (Or.inl ⟨by rfl, ?ha1⟩) (by assumption) ?ra1
  case ha1 => intro w hSw; (try dsimp only at hSw); go_simp; try with_reducible rfl
  simp only [Act.put, List.getElem_toArray, List.getElem_cons_succ, List.getElem_cons_zero, List.setIfInBounds_toArray, List.set_cons_succ, List.set_cons_zero]
  refine wpAnyH_take (i := 1) (v := ?va4) rfl (by kernel_rfl) (by kernel_rfl) (by kernel_rfl) (fun _ _ _ h => h) (Or.inl ⟨by rfl, ?ha4⟩) (by assumption) ?ra4
  case ha4 => intro w hSw; (try dsimp only at hSw); go_simp; try with_reducible rfl
  simp only [Act.put, List.getElem_toArray, List.getElem_cons_succ, List.getElem_cons_zero, List.setIfInBounds_toArray, List.set_cons_succ, List.set_cons_zero]
  refine wpAnyH_take (i := 2) (v := ?va7) rfl (by kernel_rfl) (by kernel_rfl) (by kernel_rfl) (fun _ _ _ h => h) (Or.inl ⟨by rfl, ?ha7⟩) (by assumption) ?ra7
  case ha7 => intro w hSw; (try dsimp only at hSw); go_simp; try with_reducible rfl
  simp only [Act.put, List.getElem_toArray, List.getElem_cons_succ, List.getElem_cons_zero, List.setIfInBounds_toArray, List.set_cons_succ, List.set_cons_zero]
  refine wpAnyH_take (i := 4) (v := ?va10) rfl (by kernel_rfl) (by kernel_rfl) (by kernel_rfl) (fun _ _ _ h => h) (Or.inl ⟨by rfl, ?ha10⟩) (by assumption) ?ra10
  case ha10 => intro w hSw; (try dsimp only at hSw); go_simp; try with_reducible rfl
  simp only [Act.put, List.getElem_toArray, List.getElem_cons_succ, List.getElem_cons_zero, List.setIfInBounds_toArray, List.set_cons_succ, List.set_cons_zero]
  refine wpAnyH_take (i := 5) (v := ?va13) rfl (by kernel_rfl) (by kernel_rfl) (by kernel_rfl) (fun _ _ _ h => h) (Or.inl ⟨by rfl, ?ha13⟩) (by assumption) ?ra13
  case ha13 => intro w hSw; (try dsimp only at hSw); go_simp; try with_reducible rfl
  simp only [Act.put, List.getElem_toArray, List.getElem_cons_succ, List.getElem_cons_zero, List.setIfInBounds_toArray, List.set_cons_succ, List.set_cons_zero]
  refine wpAnyH_ready (rs := [3]) (by kernel_rfl) (by simp) ?_
  refine AllReadyH.cons rfl (fun K hK => ?_) AllReadyH.nil
  go_simp
  refine (HC1.out _ _ _ _ HS0.out).mono ?_
  intro e w1 h1
  obtain ⟨a1, n1, c1, rfl, -, hs1, -, hb1⟩ := h1.sl HW1.out
  have X1 := Lib.hid hs1
  have B1 : Hid (Below (w.heap.size + 1) W0 w1) := (HB0.out).trans (hb1.mono (by rw [← HBX0.out.2]; exact (HB0.out).size))
  have K1 := Lib.hid (HBOX.out _ B1.out)
  clear h1 hs1 hb1
  refine hK.out _ _ (by first | (first | exact K2.out | exact K1.out | exact HBOX.out _ HB0.out) | ((try dsimp only); first | exact K2.out | exact K1.out | exact HBOX.out _ HB0.out)) (fun hHeld => ?_)
  clear hK K
  try simp only [Act.put, List.getElem_toArray, List.getElem_cons_succ, List.getElem_cons_zero, List.setIfInBounds_toArray, List.set_cons_succ, List.set_cons_zero]
  refine wpAnyH_ready (rs := [6]) (by kernel_rfl) (by simp) ?_
  refine AllReadyH.cons rfl (fun K hK => ?_) AllReadyH.nil
  go_simp
  refine (HC2.out _ _ _ _ X1.out).mono ?_
  intro e w2 h2
  obtain ⟨a2, n2, c2, rfl, -, hs2, -, hb2⟩ := h2.sl HW2.out
  have X2 := Lib.hid hs2
  have B2 : Hid (Below (w.heap.size + 1) W0 w2) := (B1.out).trans (hb2.mono (by rw [← HBX0.out.2]; exact (B1.out).size))
  have K2 := Lib.hid (HBOX.out _ B2.out)
  clear h2 hs2 hb2
  refine hK.out _ _ (by first | (first | exact K2.out | exact K1.out | exact HBOX.out _ HB0.out) | ((try dsimp only); first | exact K2.out | exact K1.out | exact HBOX.out _ HB0.out)) (fun hHeld => ?_)
  clear hK K
  try simp only [Act.put, List.getElem_toArray, List.getElem_cons_succ, List.getElem_cons_zero, List.setIfInBounds_toArray, List.set_cons_succ, List.set_cons_zero]
  refine wpAnyH_take (i := 7) (v := ?va42) rfl (by kernel_rfl) (by kernel_rfl) (by kernel_rfl) (fun _ _ _ h => h) (Or.inl ⟨by rfl, ?ha42⟩) (by assumption) ?ra42
  case ha42 => intro w hSw; (try dsimp only at hSw); go_simp; try with_reducible rfl
  simp only [Act.put, List.getElem_toArray, List.getElem_cons_succ, List.getElem_cons_zero, List.setIfInBounds_toArray, List.set_cons_succ, List.set_cons_zero]
  refine wpAnyH_done (by kernel_rfl) ?_ _
  have B2D : Hid (Below (w.heap.size + 1) W0 w2.drew) := ⟨B2.out.os, B2.out.tape, B2.out.output, B2.out.size, B2.out.block⟩
  have X2D : Hid (Sl .u8 w2.drew a2 n2 c2 Z2) := X2.out.drew
  clear HC1 HC2 HS0 HB0 B1 X1 K1
  go_wp2
  refine wp_region_held_drew (S := (fun W => W.cell? ⟨w.heap.size, 0, none⟩ = some (.int .u64 (m : Int)) ∧ W.cell? ⟨w.heap.size, 1, none⟩ = some (.int .u64 (l : Int)) ∧ W.cell? ⟨w.heap.size, 2, none⟩ = some (.int .u64 (o : Int)) ∧ W.cell? ⟨w.heap.size, 3, none⟩ = some (.int .u64 (t : Int)) ∧ W.cell? ⟨w.heap.size, 4, none⟩ = some (.slice ra rn rcap))) (by kernel_rfl) (by first | (first | exact K4.out | exact K3.out | exact HBOX.out _ B2D.out) | ((try dsimp only); first | exact K4.out | exact K3.out | exact HBOX.out _ B2D.out)) (fun hHeld => ?_)
  refine wpAnyH_take (i := 0) (v := ?vb1) rfl (by kernel_rfl) (by kernel_rfl) (by kernel_rfl) (fun _ _ _ h => h) (Or.inl ⟨by rfl, ?hb1⟩) (by assumption) ?rb1
  case hb1 => intro w hSw; (try dsimp only at hSw); go_simp; try with_reducible rfl
  simp only [Act.put, List.getElem_toArray, List.getElem_cons_succ, List.getElem_cons_zero, List.setIfInBounds_toArray, List.set_cons_succ, List.set_cons_zero]
  refine wpAnyH_take (i := 1) (v := ?vb4) rfl (by kernel_rfl) (by kernel_rfl) (by kernel_rfl) (fun _ _ _ h => h) (Or.inl ⟨by rfl, ?hb4⟩) (by assumption) ?rb4
  case hb4 => intro w hSw; (try dsimp only at hSw); go_simp; try with_reducible rfl
  simp only [Act.put, List.getElem_toArray, List.getElem_cons_succ, List.getElem_cons_zero, List.setIfInBounds_toArray, List.set_cons_succ, List.set_cons_zero]
  refine wpAnyH_take (i := 2) (v := ?vb7) rfl (by kernel_rfl) (by kernel_rfl) (by kernel_rfl) (fun _ _ _ h => h) (Or.inl ⟨by rfl, ?hb7⟩) (by assumption) ?rb7
  case hb7 => intro w hSw; (try dsimp only at hSw); go_simp; try with_reducible rfl
  simp only [Act.put, List.getElem_toArray, List.getElem_cons_succ, List.getElem_cons_zero, List.setIfInBounds_toArray, List.set_cons_succ, List.set_cons_zero]
  refine wpAnyH_take (i := 4) (v := ?vb10) rfl (by kernel_rfl) (by kernel_rfl) (by kernel_rfl) (fun _ _ _ h => h) (Or.inl ⟨by rfl, ?hb10⟩) (by assumption) ?rb10
  case hb10 => intro w hSw; (try dsimp only at hSw); go_simp; try with_reducible rfl
  simp only [Act.put, List.getElem_toArray, List.getElem_cons_succ, List.getElem_cons_zero, List.setIfInBounds_toArray, List.set_cons_succ, List.set_cons_zero]
  refine wpAnyH_take (i := 5) (v := ?vb13) rfl (by kernel_rfl) (by kernel_rfl) (by kernel_rfl) (fun _ _ _ h => h) (Or.inl ⟨by rfl, ?hb13⟩) (by assumption) ?rb13
  case hb13 => intro w hSw; (try dsimp only at hSw); go_simp; try with_reducible rfl
  simp only [Act.put, List.getElem_toArray, List.getElem_cons_succ, List.getElem_cons_zero, List.setIfInBounds_toArray, List.set_cons_succ, List.set_cons_zero]
  refine wpAnyH_ready (rs := [3]) (by kernel_rfl) (by simp) ?_
  refine AllReadyH.cons rfl (fun K hK => ?_) AllReadyH.nil
  go_simp
  refine (HC3.out _ _ _ _ X2D.out).mono ?_
  intro e w3 h3
  obtain ⟨a3, n3, c3, rfl, -, hs3, -, hb3⟩ := h3.sl HW3.out
  have X3 := Lib.hid hs3
  have B3 : Hid (Below (w.heap.size + 1) W0 w3) := (B2D.out).trans (hb3.mono (by rw [← HBX0.out.2]; exact (B2D.out).size))
  have K3 := Lib.hid (HBOX.out _ B3.out)
  clear h3 hs3 hb3
  refine hK.out _ _ (by first | (first | exact K4.out | exact K3.out | exact HBOX.out _ B2D.out) | ((try dsimp only); first | exact K4.out | exact K3.out | exact HBOX.out _ B2D.out)) (fun hHeld => ?_)
  clear hK K
  try simp only [Act.put, List.getElem_toArray, List.getElem_cons_succ, List.getElem_cons_zero, List.setIfInBounds_toArray, List.set_cons_succ, List.set_cons_zero]
  refine wpAnyH_ready (rs := [6]) (by kernel_rfl) (by simp) ?_
  refine AllReadyH.cons rfl (fun K hK => ?_) AllReadyH.nil
  go_simp
  refine (HC4.out _ _ _ _ X3.out).mono ?_
  intro e w4 h4
  obtain ⟨a4, n4, c4, rfl, -, hs4, -, hb4⟩ := h4.sl HW4.out
  have X4 := Lib.hid hs4
  have B4 : Hid (Below (w.heap.size + 1) W0 w4) := (B3.out).trans (hb4.mono (by rw [← HBX0.out.2]; exact (B3.out).size))
  have K4 := Lib.hid (HBOX.out _ B4.out)
  clear h4 hs4 hb4
  refine hK.out _ _ (by first | (first | exact K4.out | exact K3.out | exact HBOX.out _ B2D.out) | ((try dsimp only); first | exact K4.out | exact K3.out | exact HBOX.out _ B2D.out)) (fun hHeld => ?_)
  clear hK K
  try simp only [Act.put, List.getElem_toArray, List.getElem_cons_succ, List.getElem_cons_zero, List.setIfInBounds_toArray, List.set_cons_succ, List.set_cons_zero]
  refine wpAnyH_take (i := 7) (v := ?vb42) rfl (by kernel_rfl) (by kernel_rfl) (by kernel_rfl) (fun _ _ _ h => h) (Or.inl ⟨by rfl, ?hb42⟩) (by assumption) ?rb42
  case hb42 => intro w hSw; (try dsimp only at hSw); go_simp; try with_reducible rfl
  simp only [Act.put, List.getElem_toArray, List.getElem_cons_succ, List.getElem_cons_zero, List.setIfInBounds_toArray, List.set_cons_succ, List.set_cons_zero]
  refine wpAnyH_done (by kernel_rfl) ?_ _
  obtain ⟨kk0, kk1, kk2, kk3, kk4⟩ := K4.out
  clear HC3 HC4 B3 X3 K3 B2 B2D X2 X2D K2 K4 kk0 kk1 kk2 kk3
  have hszw4 : w.heap.size + 1 ≤ w4.heap.size := by rw [← HBX0.out.2]; exact B4.out.size
  go_wp2_with fail
  refine (HC5.out _ _ _ _ _ _ (X4.out.alloc _) (Sl.newI [(rn : Int)] (by intro z hz; simp at hz; subst hz; exact WalkArith.wf_i64 ⟨by omega, by omega⟩) (by unfold maxLen; simp) rfl rfl rfl)).mono ?_
  rintro e w5 ⟨⟨a5, n5, c5, rfl, hs5⟩, hb5⟩
  have X5 := Lib.hid hs5
  have B5 : Hid (Below (w.heap.size + 1) W0 w5) := (B4.out.alloc hszw4 _).trans (hb5.mono (by simp; omega))
  clear hs5 hb5 HC5 B4 X4 kk4 hszw4
  go_wp2
  go_loopw [0, 5] (fun bv ix wr => ∃ (i k c : Nat) (a : Option Addr), bv = .slice a k c ∧ ix = .int .i64 (i : Int) ∧ i ≤ rn ∧ Hid (Sl .u8 wr a k c (Z5 ++ Img.flat (Img.rulesNums ((ruls xs).take i)))) ∧ Hid (Below (w.heap.size + 1) W0 wr)) (fun _ ix _ => rn - (intOf ix).toNat)
  case atStart => exact ⟨0, n5, c5, a5, rfl, rfl, Nat.zero_le _, by show Sl _ _ _ _ _ _; simpa [Img.flat, Img.rulesNums] using X5.out, B5.out⟩
  case round =>
    obtain ⟨i, k, c, a', rfl, rfl, hi, HX, HBW⟩ := hrel
    have hbx4 := (HBOX.out _ HBW.out).2.2.2.2
    have HBX : Hid (Below w.heap.size w wr) := HBX0.out.1.trans (HBW.out.mono (by omega))
    by_cases hlt : i < rn
    · obtain ⟨rb, ro, la, ln, lc, L, qa, qn, qc, R, C, rfl, hrb, e1, e2, e3, hsL, hsR, hC0, hC9, hg⟩ := (HRS.out.below HBX.out (Nat.le_refl _)).one i hlt
      have hat : (ruls xs).getD i Rul.no = ⟨L, R, C⟩ := by rw [ruls_at, hg]; rfl
      have HNX := Lib.hid (rulesNums_next (by rw [ruls_length, HLX.out]; exact hlt) _ hat)
      have hfit := Img.fit_rule (HFIT.out ⟨L, R, C⟩ (by rw [← hat]; rw [show (ruls xs).getD i Rul.no = (ruls xs)[i]'(by rw [ruls_length, HLX.out]; exact hlt) from by simp [ruls_length, HLX.out, hlt]]; exact List.getElem_mem _))
      have HFL := Lib.hid (Img.side_small hfit.1)
      have HFR := Lib.hid (Img.side_small hfit.2.1)
      have hln8 : ln ≤ 8 := by rw [← hsL.1]; exact hfit.2.2.1
      have hqn8 : qn ≤ 8 := by rw [← hsR.1]; exact hfit.2.2.2.1
      have HSL := Lib.hid hsL
      have HSR := Lib.hid hsR
      obtain ⟨C, rfl⟩ : ∃ m : Nat, C = (m : Int) := ⟨C.toNat, by omega⟩
      have hC9' : C < 18446744073709551616 := by omega
      have hli : (i : Int) < (rn : Int) := by omega
      clear hg hat hfit hsL hsR
      obtain ⟨Y0, hY0⟩ : ∃ Y, Y = Z5 ++ Img.flat (Img.rulesNums ((ruls xs).take i)) := ⟨_, rfl⟩
      obtain ⟨Y1, hY1⟩ : ∃ Y, Y = Y0 ++ Var.enc ln := ⟨_, rfl⟩
      obtain ⟨Y2, hY2⟩ : ∃ Y, Y = Y1 ++ Img.flat (L.map Int.toNat) := ⟨_, rfl⟩
      obtain ⟨Y3, hY3⟩ : ∃ Y, Y = Y2 ++ Var.enc qn := ⟨_, rfl⟩
      obtain ⟨Y4, hY4⟩ : ∃ Y, Y = Y3 ++ Img.flat (R.map Int.toNat) := ⟨_, rfl⟩
      obtain ⟨Y5, hY5⟩ : ∃ Y, Y = Y4 ++ Var.enc C := ⟨_, rfl⟩
      have hY : Z5 ++ Img.flat (Img.rulesNums ((ruls xs).take (i + 1))) = Y5 := by
        rw [HNX.out, Img.flat_app, hY5, hY4, hY3, hY2, hY1, hY0, Img.ruleNums, Img.sideNums, Img.sideNums]
        simp only [Img.flat_app, Img.flat_cons, Img.flat_nil, List.append_nil, List.append_assoc, List.cons_append, List.nil_append, HSL.out.1, HSR.out.1, Int.toNat_natCast]
      have HYE := Lib.hid hY
      have hyl : Y0.length ≤ Y1.length ∧ Y1.length ≤ Y2.length ∧ Y2.length ≤ Y3.length ∧ Y3.length ≤ Y4.length ∧ Y4.length ≤ Y5.length ∧ Y5.length ≤ 200000000000 := by
        have h := rulesNums_le (l := ruls xs) (i + 1) Z5
        rw [hY] at h
        have := HB.out
        refine ⟨by rw [hY1, List.length_append]; omega, by rw [hY2, List.length_append]; omega, by rw [hY3, List.length_append]; omega, by rw [hY4, List.length_append]; omega, by rw [hY5, List.length_append]; omega, by omega⟩
      have HYL := Lib.hid hyl
      have HX0 : Hid (Sl .u8 wr a' k c Y0) := by rw [hY0]; exact HX.out
      have HWY4 : Hid (∀ z ∈ Y5, (Lit.int .u8 z).wf = true) := by
        rw [← hY]; exact app_wf (fun z hz => HX0.out.2.2.2.1 z (by rw [hY0]; exact List.mem_append_left _ hz)) (Img.flat_wf _)
      have HD1 : Hid (∀ w a n c la lc, Sl .u8 w a n c Y0 → Sl .i64 w la 1 lc [(ln : Int)] → Calls Tryz.prog 21 #[.slice a n c, .slice la 1 lc] w fun e w' => SlIs w' e Y1 ∧ Below w.heap.size w w') := by
        intro w a n c la lc h hl
        have e : Y1 = Y0 ++ Img.flat ([(ln : Int)].map Int.toNat) := by rw [hY1]; simp [Img.flat]
        rw [e]
        exact rput15_is a n c Y0 la 1 lc [(ln : Int)] w h hl (by intro z hz; simp at hz; omega) (by rw [← e]; have := HYL.out; omega)
      have HD2 : Hid (∀ w a n c, Sl .u8 w a n c Y1 → Sl .i64 w la ln lc L → Calls Tryz.prog 21 #[.slice a n c, .slice la ln lc] w fun e w' => SlIs w' e Y2 ∧ Below w.heap.size w w') := by
        intro w a n c h hl
        rw [hY2]
        exact rput15_is a n c Y1 la ln lc L w h hl (fun z hz => (HFL.out z hz).1) (by rw [← hY2]; have := HYL.out; omega)
      have HD3 : Hid (∀ w a n c la lc, Sl .u8 w a n c Y2 → Sl .i64 w la 1 lc [(qn : Int)] → Calls Tryz.prog 21 #[.slice a n c, .slice la 1 lc] w fun e w' => SlIs w' e Y3 ∧ Below w.heap.size w w') := by
        intro w a n c la lc h hl
        have e : Y3 = Y2 ++ Img.flat ([(qn : Int)].map Int.toNat) := by rw [hY3]; simp [Img.flat]
        rw [e]
        exact rput15_is a n c Y2 la 1 lc [(qn : Int)] w h hl (by intro z hz; simp at hz; omega) (by rw [← e]; have := HYL.out; omega)
      have HD4 : Hid (∀ w a n c, Sl .u8 w a n c Y3 → Sl .i64 w qa qn qc R → Calls Tryz.prog 21 #[.slice a n c, .slice qa qn qc] w fun e w' => SlIs w' e Y4 ∧ Below w.heap.size w w') := by
        intro w a n c h hl
        rw [hY4]
        exact rput15_is a n c Y3 qa qn qc R w h hl (fun z hz => (HFR.out z hz).1) (by rw [← hY4]; have := HYL.out; omega)
      have HD5 : Hid (∀ w a n c, Sl .u8 w a n c Y4 → Calls Tryz.prog 54 #[.slice a n c, .int .u64 (C : Int)] w fun e w' => MadeB w w' e Y5) := by
        intro w a n c h
        rw [hY5]
        exact rput_is a n c Y4 C hC9' w h (by rw [← h.1]; have := HYL.out; omega)
      obtain ⟨W1, hW1⟩ : ∃ W1, W1 = wr.alloc (.cells #[.slice la ln lc, .slice qa qn qc, .int .u64 (C : Int)] 72) := ⟨_, rfl⟩
      have hszr : w.heap.size + 1 ≤ wr.heap.size := by rw [← HBX0.out.2]; exact HBW.out.size
      have HW1 : Hid (Below (w.heap.size + 1) W0 W1 ∧ W1.heap.size = wr.heap.size + 1) := by
        rw [hW1]; exact ⟨HBW.out.alloc hszr _, by simp⟩
      have HRB : Hid (∀ W, Below (wr.heap.size + 1) W1 W → W.cell? ⟨wr.heap.size, 0, none⟩ = some (.slice la ln lc) ∧ W.cell? ⟨wr.heap.size, 1, none⟩ = some (.slice qa qn qc) ∧ W.cell? ⟨wr.heap.size, 2, none⟩ = some (.int .u64 (C : Int))) := by
        intro W hW
        have e : ∀ j, W.cell? ⟨wr.heap.size, j, none⟩ = W1.cell? ⟨wr.heap.size, j, none⟩ := fun j => hW.cell (p := ⟨wr.heap.size, j, none⟩) (by show wr.heap.size < wr.heap.size + 1; omega)
        rw [e, e, e, hW1]
        simp only [World.cell?_alloc_mark]
        exact ⟨rfl, rfl, rfl⟩
      have HX1 : Hid (Sl .u8 W1.drew a' k c Y0) := by
        show Sl _ _ _ _ _ _
        rw [hW1]; exact (HX0.out.alloc _).drew
      have HL1 : Hid (∀ W, Below (wr.heap.size + 1) W1 W → Sl .i64 W la ln lc L ∧ Sl .i64 W qa qn qc R) := by
        intro W hW
        have e1 : Sl .i64 W1 la ln lc L := by rw [hW1]; exact HSL.out.alloc _
        have e2 : Sl .i64 W1 qa qn qc R := by rw [hW1]; exact HSR.out.alloc _
        rw [← HW1.out.2] at hW
        exact ⟨e1.below hW (Nat.le_refl _), e2.below hW (Nat.le_refl _)⟩
      have HB1 : Hid (Below (wr.heap.size + 1) W1 W1.drew) := ⟨rfl, rfl, rfl, Nat.le_refl _, fun _ _ => rfl⟩
      clear hY0 hY1 hY2 hY3 hY4 hY5 hY hyl hC0 hC9 HX HX0 HSL HSR hC9'
      go_wp2
      rw [← hW1]
      clear hW1
      refine wp_region_held_drew (S := (fun W => W.cell? ⟨wr.heap.size, 0, none⟩ = some (.slice la ln lc) ∧ W.cell? ⟨wr.heap.size, 1, none⟩ = some (.slice qa qn qc) ∧ W.cell? ⟨wr.heap.size, 2, none⟩ = some (.int .u64 (C : Int)))) (by kernel_rfl) (by first | (first | exact K7.out | exact K6.out | exact HRB.out _ (HB1.out.alloc (by rw [← HW1.out.2]; exact HB1.out.size) _) | exact HRB.out _ HB1.out) | ((try dsimp only); first | exact K7.out | exact K6.out | exact HRB.out _ (HB1.out.alloc (by rw [← HW1.out.2]; exact HB1.out.size) _) | exact HRB.out _ HB1.out)) (fun hHeld => ?_)
      refine wpAnyH_take (i := 0) (v := ?vc1) rfl (by kernel_rfl) (by kernel_rfl) (by kernel_rfl) (fun _ _ _ h => h) (Or.inl ⟨by rfl, ?hc1⟩) (by assumption) ?rc1
      case hc1 => intro w hSw; (try dsimp only at hSw); go_simp; try with_reducible rfl
      simp only [Act.put, List.getElem_toArray, List.getElem_cons_succ, List.getElem_cons_zero, List.setIfInBounds_toArray, List.set_cons_succ, List.set_cons_zero]
      refine wpAnyH_take (i := 1) (v := ?vc4) rfl (by kernel_rfl) (by kernel_rfl) (by kernel_rfl) (fun _ _ _ h => h) (Or.inl ⟨by rfl, ?hc4⟩) (by assumption) ?rc4
      case hc4 => intro w hSw; (try dsimp only at hSw); go_simp; try with_reducible rfl
      simp only [Act.put, List.getElem_toArray, List.getElem_cons_succ, List.getElem_cons_zero, List.setIfInBounds_toArray, List.set_cons_succ, List.set_cons_zero]
      refine wpAnyH_take (i := 2) (v := ?vc7) rfl (by kernel_rfl) (by kernel_rfl) (by kernel_rfl) (fun _ _ _ h => h) (Or.inl ⟨by rfl, ?hc7⟩) (by assumption) ?rc7
      case hc7 => intro w hSw; (try dsimp only at hSw); go_simp; try with_reducible rfl
      simp only [Act.put, List.getElem_toArray, List.getElem_cons_succ, List.getElem_cons_zero, List.setIfInBounds_toArray, List.set_cons_succ, List.set_cons_zero]
      refine wpAnyH_take (i := 3) (v := ?vc10) rfl (by kernel_rfl) (by kernel_rfl) (by kernel_rfl) (fun _ _ _ h => h) (Or.inl ⟨by rfl, ?hc10⟩) (by assumption) ?rc10
      case hc10 => intro w hSw; (try dsimp only at hSw); go_simp; try with_reducible rfl
      simp only [Act.put, List.getElem_toArray, List.getElem_cons_succ, List.getElem_cons_zero, List.setIfInBounds_toArray, List.set_cons_succ, List.set_cons_zero]
      refine wpAnyH_take (i := 6) (v := ?vc13) rfl (by kernel_rfl) (by kernel_rfl) (by kernel_rfl) (fun _ _ _ h => h) (Or.inl ⟨by rfl, ?hc13⟩) (by assumption) ?rc13
      case hc13 => intro w hSw; (try dsimp only at hSw); go_simp; try with_reducible rfl
      simp only [Act.put, List.getElem_toArray, List.getElem_cons_succ, List.getElem_cons_zero, List.setIfInBounds_toArray, List.set_cons_succ, List.set_cons_zero]
      refine wpAnyH_take (i := 7) (v := ?vc16) rfl (by kernel_rfl) (by kernel_rfl) (by kernel_rfl) (fun _ _ _ h => h) (Or.inl ⟨by rfl, ?hc16⟩) (by assumption) ?rc16
      case hc16 => intro w hSw; (try dsimp only at hSw); go_simp; try with_reducible rfl
      simp only [Act.put, List.getElem_toArray, List.getElem_cons_succ, List.getElem_cons_zero, List.setIfInBounds_toArray, List.set_cons_succ, List.set_cons_zero]
      refine wpAnyH_ready (rs := [4]) (by kernel_rfl) (by simp) ?_
      refine AllReadyH.cons rfl (fun K hK => ?_) AllReadyH.nil
      go_simp
      refine hK.out _ _ (by first | (first | exact K7.out | exact K6.out | exact HRB.out _ (HB1.out.alloc (by rw [← HW1.out.2]; exact HB1.out.size) _) | exact HRB.out _ HB1.out) | ((try dsimp only); first | exact K7.out | exact K6.out | exact HRB.out _ (HB1.out.alloc (by rw [← HW1.out.2]; exact HB1.out.size) _) | exact HRB.out _ HB1.out)) (fun hHeld => ?_)
      clear hK K
      try simp only [Act.put, List.getElem_toArray, List.getElem_cons_succ, List.getElem_cons_zero, List.setIfInBounds_toArray, List.set_cons_succ, List.set_cons_zero]
      refine wpAnyH_ready (rs := [5]) (by kernel_rfl) (by simp) ?_
      refine AllReadyH.cons rfl (fun K hK => ?_) AllReadyH.nil
      go_simp
      refine (HD1.out _ _ _ _ _ _ (HX1.out.alloc _) (Sl.newI (w := W1.drew) [(ln : Int)] (by intro z hz; simp at hz; subst hz; exact WalkArith.wf_i64 ⟨by omega, by omega⟩) (by unfold maxLen; simp) rfl rfl rfl)).mono ?_
      rintro e w6 ⟨⟨a6, n6, c6, rfl, hs6⟩, hb6⟩
      have X6 := Lib.hid hs6
      have B6 : Hid (Below (wr.heap.size + 1) W1 w6) := (HB1.out.alloc (by rw [← HW1.out.2]; exact HB1.out.size) _).trans (hb6.mono (by rw [← HW1.out.2]; simp))
      have K6 := Lib.hid (HRB.out _ B6.out)
      clear hs6 hb6
      refine hK.out _ _ (by first | (first | exact K7.out | exact K6.out | exact HRB.out _ (HB1.out.alloc (by rw [← HW1.out.2]; exact HB1.out.size) _) | exact HRB.out _ HB1.out) | ((try dsimp only); first | exact K7.out | exact K6.out | exact HRB.out _ (HB1.out.alloc (by rw [← HW1.out.2]; exact HB1.out.size) _) | exact HRB.out _ HB1.out)) (fun hHeld => ?_)
      clear hK K
      try simp only [Act.put, List.getElem_toArray, List.getElem_cons_succ, List.getElem_cons_zero, List.setIfInBounds_toArray, List.set_cons_succ, List.set_cons_zero]
      refine wpAnyH_ready (rs := [8]) (by kernel_rfl) (by simp) ?_
      refine AllReadyH.cons rfl (fun K hK => ?_) AllReadyH.nil
      go_simp
      refine (HD2.out _ _ _ _ X6.out (HL1.out _ B6.out).1).mono ?_
      rintro e w7 ⟨⟨a7, n7, c7, rfl, hs7⟩, hb7⟩
      have X7 := Lib.hid hs7
      have B7 : Hid (Below (wr.heap.size + 1) W1 w7) := B6.out.trans (hb7.mono (by rw [← HW1.out.2]; exact B6.out.size))
      have K7 := Lib.hid (HRB.out _ B7.out)
      clear hs7 hb7
      refine hK.out _ _ (by first | (first | exact K7.out | exact K6.out | exact HRB.out _ (HB1.out.alloc (by rw [← HW1.out.2]; exact HB1.out.size) _) | exact HRB.out _ HB1.out) | ((try dsimp only); first | exact K7.out | exact K6.out | exact HRB.out _ (HB1.out.alloc (by rw [← HW1.out.2]; exact HB1.out.size) _) | exact HRB.out _ HB1.out)) (fun hHeld => ?_)
      clear hK K
      try simp only [Act.put, List.getElem_toArray, List.getElem_cons_succ, List.getElem_cons_zero, List.setIfInBounds_toArray, List.set_cons_succ, List.set_cons_zero]
      refine wpAnyH_take (i := 9) (v := ?vc49) rfl (by kernel_rfl) (by kernel_rfl) (by kernel_rfl) (fun _ _ _ h => h) (Or.inl ⟨by rfl, ?hc49⟩) (by assumption) ?rc49
      case hc49 => intro w hSw; (try dsimp only at hSw); go_simp; try with_reducible rfl
      simp only [Act.put, List.getElem_toArray, List.getElem_cons_succ, List.getElem_cons_zero, List.setIfInBounds_toArray, List.set_cons_succ, List.set_cons_zero]
      refine wpAnyH_done (by kernel_rfl) ?_ _
      have B7D : Hid (Below (wr.heap.size + 1) W1 w7.drew) := ⟨B7.out.os, B7.out.tape, B7.out.output, B7.out.size, B7.out.block⟩
      have X7D : Hid (Sl .u8 w7.drew a7 n7 c7 Y2) := X7.out.drew
      clear HD1 HD2 HX1 HB1 B6 X6 K6
      go_wp2
      refine wp_region_held_drew (S := (fun W => W.cell? ⟨wr.heap.size, 0, none⟩ = some (.slice la ln lc) ∧ W.cell? ⟨wr.heap.size, 1, none⟩ = some (.slice qa qn qc) ∧ W.cell? ⟨wr.heap.size, 2, none⟩ = some (.int .u64 (C : Int)))) (by kernel_rfl) (by first | (first | exact K9.out | exact K8.out | exact HRB.out _ (B7D.out.alloc (by rw [← HW1.out.2]; exact B7D.out.size) _) | exact HRB.out _ B7D.out) | ((try dsimp only); first | exact K9.out | exact K8.out | exact HRB.out _ (B7D.out.alloc (by rw [← HW1.out.2]; exact B7D.out.size) _) | exact HRB.out _ B7D.out)) (fun hHeld => ?_)
      refine wpAnyH_take (i := 0) (v := ?vd1) rfl (by kernel_rfl) (by kernel_rfl) (by kernel_rfl) (fun _ _ _ h => h) (Or.inl ⟨by rfl, ?hd1⟩) (by assumption) ?rd1
      case hd1 => intro w hSw; (try dsimp only at hSw); go_simp; try with_reducible rfl
      simp only [Act.put, List.getElem_toArray, List.getElem_cons_succ, List.getElem_cons_zero, List.setIfInBounds_toArray, List.set_cons_succ, List.set_cons_zero]
      refine wpAnyH_take (i := 1) (v := ?vd4) rfl (by kernel_rfl) (by kernel_rfl) (by kernel_rfl) (fun _ _ _ h => h) (Or.inl ⟨by rfl, ?hd4⟩) (by assumption) ?rd4
      case hd4 => intro w hSw; (try dsimp only at hSw); go_simp; try with_reducible rfl
      simp only [Act.put, List.getElem_toArray, List.getElem_cons_succ, List.getElem_cons_zero, List.setIfInBounds_toArray, List.set_cons_succ, List.set_cons_zero]
      refine wpAnyH_take (i := 2) (v := ?vd7) rfl (by kernel_rfl) (by kernel_rfl) (by kernel_rfl) (fun _ _ _ h => h) (Or.inl ⟨by rfl, ?hd7⟩) (by assumption) ?rd7
      case hd7 => intro w hSw; (try dsimp only at hSw); go_simp; try with_reducible rfl
      simp only [Act.put, List.getElem_toArray, List.getElem_cons_succ, List.getElem_cons_zero, List.setIfInBounds_toArray, List.set_cons_succ, List.set_cons_zero]
      refine wpAnyH_take (i := 3) (v := ?vd10) rfl (by kernel_rfl) (by kernel_rfl) (by kernel_rfl) (fun _ _ _ h => h) (Or.inl ⟨by rfl, ?hd10⟩) (by assumption) ?rd10
      case hd10 => intro w hSw; (try dsimp only at hSw); go_simp; try with_reducible rfl
      simp only [Act.put, List.getElem_toArray, List.getElem_cons_succ, List.getElem_cons_zero, List.setIfInBounds_toArray, List.set_cons_succ, List.set_cons_zero]
      refine wpAnyH_take (i := 6) (v := ?vd13) rfl (by kernel_rfl) (by kernel_rfl) (by kernel_rfl) (fun _ _ _ h => h) (Or.inl ⟨by rfl, ?hd13⟩) (by assumption) ?rd13
      case hd13 => intro w hSw; (try dsimp only at hSw); go_simp; try with_reducible rfl
      simp only [Act.put, List.getElem_toArray, List.getElem_cons_succ, List.getElem_cons_zero, List.setIfInBounds_toArray, List.set_cons_succ, List.set_cons_zero]
      refine wpAnyH_take (i := 7) (v := ?vd16) rfl (by kernel_rfl) (by kernel_rfl) (by kernel_rfl) (fun _ _ _ h => h) (Or.inl ⟨by rfl, ?hd16⟩) (by assumption) ?rd16
      case hd16 => intro w hSw; (try dsimp only at hSw); go_simp; try with_reducible rfl
      simp only [Act.put, List.getElem_toArray, List.getElem_cons_succ, List.getElem_cons_zero, List.setIfInBounds_toArray, List.set_cons_succ, List.set_cons_zero]
      refine wpAnyH_ready (rs := [4]) (by kernel_rfl) (by simp) ?_
      refine AllReadyH.cons rfl (fun K hK => ?_) AllReadyH.nil
      go_simp
      refine hK.out _ _ (by first | (first | exact K9.out | exact K8.out | exact HRB.out _ (B7D.out.alloc (by rw [← HW1.out.2]; exact B7D.out.size) _) | exact HRB.out _ B7D.out) | ((try dsimp only); first | exact K9.out | exact K8.out | exact HRB.out _ (B7D.out.alloc (by rw [← HW1.out.2]; exact B7D.out.size) _) | exact HRB.out _ B7D.out)) (fun hHeld => ?_)
      clear hK K
      try simp only [Act.put, List.getElem_toArray, List.getElem_cons_succ, List.getElem_cons_zero, List.setIfInBounds_toArray, List.set_cons_succ, List.set_cons_zero]
      refine wpAnyH_ready (rs := [5]) (by kernel_rfl) (by simp) ?_
      refine AllReadyH.cons rfl (fun K hK => ?_) AllReadyH.nil
      go_simp
      refine (HD3.out _ _ _ _ _ _ (X7D.out.alloc _) (Sl.newI (w := w7.drew) [(qn : Int)] (by intro z hz; simp at hz; subst hz; exact WalkArith.wf_i64 ⟨by omega, by omega⟩) (by unfold maxLen; simp) rfl rfl rfl)).mono ?_
      rintro e w8 ⟨⟨a8, n8, c8, rfl, hs8⟩, hb8⟩
      have X8 := Lib.hid hs8
      have B8 : Hid (Below (wr.heap.size + 1) W1 w8) := (B7D.out.alloc (by rw [← HW1.out.2]; exact B7D.out.size) _).trans (hb8.mono (by have := B7D.out.size; rw [HW1.out.2] at this; have h2 : wr.heap.size + 1 ≤ w7.heap.size := this; simp; omega))
      have K8 := Lib.hid (HRB.out _ B8.out)
      clear hs8 hb8
      refine hK.out _ _ (by first | (first | exact K9.out | exact K8.out | exact HRB.out _ (B7D.out.alloc (by rw [← HW1.out.2]; exact B7D.out.size) _) | exact HRB.out _ B7D.out) | ((try dsimp only); first | exact K9.out | exact K8.out | exact HRB.out _ (B7D.out.alloc (by rw [← HW1.out.2]; exact B7D.out.size) _) | exact HRB.out _ B7D.out)) (fun hHeld => ?_)
      clear hK K
      try simp only [Act.put, List.getElem_toArray, List.getElem_cons_succ, List.getElem_cons_zero, List.setIfInBounds_toArray, List.set_cons_succ, List.set_cons_zero]
      refine wpAnyH_ready (rs := [8]) (by kernel_rfl) (by simp) ?_
      refine AllReadyH.cons rfl (fun K hK => ?_) AllReadyH.nil
      go_simp
      refine (HD4.out _ _ _ _ X8.out (HL1.out _ B8.out).2).mono ?_
      rintro e w9 ⟨⟨a9, n9, c9, rfl, hs9⟩, hb9⟩
      have X9 := Lib.hid hs9
      have B9 : Hid (Below (wr.heap.size + 1) W1 w9) := B8.out.trans (hb9.mono (by rw [← HW1.out.2]; exact B8.out.size))
      have K9 := Lib.hid (HRB.out _ B9.out)
      clear hs9 hb9
      refine hK.out _ _ (by first | (first | exact K9.out | exact K8.out | exact HRB.out _ (B7D.out.alloc (by rw [← HW1.out.2]; exact B7D.out.size) _) | exact HRB.out _ B7D.out) | ((try dsimp only); first | exact K9.out | exact K8.out | exact HRB.out _ (B7D.out.alloc (by rw [← HW1.out.2]; exact B7D.out.size) _) | exact HRB.out _ B7D.out)) (fun hHeld => ?_)
      clear hK K
      try simp only [Act.put, List.getElem_toArray, List.getElem_cons_succ, List.getElem_cons_zero, List.setIfInBounds_toArray, List.set_cons_succ, List.set_cons_zero]
      refine wpAnyH_take (i := 9) (v := ?vd49) rfl (by kernel_rfl) (by kernel_rfl) (by kernel_rfl) (fun _ _ _ h => h) (Or.inl ⟨by rfl, ?hd49⟩) (by assumption) ?rd49
      case hd49 => intro w hSw; (try dsimp only at hSw); go_simp; try with_reducible rfl
      simp only [Act.put, List.getElem_toArray, List.getElem_cons_succ, List.getElem_cons_zero, List.setIfInBounds_toArray, List.set_cons_succ, List.set_cons_zero]
      refine wpAnyH_done (by kernel_rfl) ?_ _
      obtain ⟨kk0, kk1, kk2⟩ := K9.out
      clear HD3 HD4 B8 X8 K8 B7 B7D X7 X7D K7 K9 kk0 kk1
      go_wp2_with fail
      refine (HD5.out _ _ _ _ X9.out).mono ?_
      intro e w10 h10
      obtain ⟨a10, n10, c10, rfl, -, hs10, -, hb10⟩ := h10.sl HWY4.out
      rw [← HYE.out] at hs10
      have X10 := Lib.hid hs10
      have B10 : Hid (Below (wr.heap.size + 1) W1 w10) := B9.out.trans (hb10.mono (by rw [← HW1.out.2]; exact B9.out.size))
      have BF : Hid (Below (w.heap.size + 1) W0 w10) := HW1.out.1.trans (B10.out.mono (by omega))
      clear h10 hs10 hb10 HD5 B9 X9 kk2
      go_wp2
      go_roundw
      case rel => exact ⟨i + 1, n10, c10, a10, rfl, by go_num, by omega, X10.out, BF.out⟩
      case measure => simp [intOf]; omega
    · obtain rfl : i = rn := by omega
      have htk : (ruls xs).take i = ruls xs := List.take_of_length_le (by rw [ruls_length, HLX.out]; exact Nat.le_refl _)
      have HXF : Hid (Sl .u8 wr a' k c (Z5 ++ Img.flat (Img.rulesNums (ruls xs)))) := by
        have h := HX.out
        rwa [htk] at h
      clear htk HX
      go_wp2
      go_ret
      exact ⟨⟨a', k, c, rfl, HXF.out⟩, HBX.out⟩

end Go.Proofs.YtbfjihbkkcggmaaGreat
