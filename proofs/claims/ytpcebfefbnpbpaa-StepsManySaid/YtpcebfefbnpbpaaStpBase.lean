import Derived.Test.YtpcebfefbnpbpaaStpOnes
import Derived.Test.YtpcebfefbnpbpaaPackA
import Derived.Deep.RegionHeld3
import Derived.BigQuiet
set_option linter.all false
set_option maxRecDepth 100000
set_option maxHeartbeats 12800000
namespace Go.Proofs.Ytpcebfefbnpbpaa
open Go.RowKit

theorem Pw.New.apart {W W' W2 : World} {x y : Pw} (h : x.Lies W) (h' : y.New W W') : ∀ b, x.blk = some b → y.blk ≠ some b := fun b e e' => by
  obtain ⟨cs, fr, h1⟩ := h.blk e
  have := lt_of_obj h1
  have := h'.2 b e'
  omega
theorem Pw.New.below {w0 W W' : World} {x : Pw} (h : x.New w0 W) (hb : Below W.heap.size W W') : x.New w0 W' := ⟨h.1.below hb, h.2⟩
theorem Pw.New.from {w0 w1 W : World} {x : Pw} (h : x.New w1 W) (hs : w0.heap.size ≤ w1.heap.size) : x.New w0 W := ⟨h.1, fun b e => Nat.le_trans hs (h.2 b e)⟩
theorem Pw.Lies.grown {W W' : World} {x : Pw} {row : Option Nat} (h : x.Lies W) (hg : W.grownBy W' row) (hr : ∀ r, row = some r → ∀ cs fr, W.heap[r]? ≠ some (.cells cs 3 fr)) : x.Lies W' :=
  h.block fun b e => by
    obtain ⟨cs, fr, h1⟩ := h.blk e
    exact hg.block b (lt_of_obj h1) (fun e2 => hr b e2.symm cs fr h1)
theorem unlike_no {l : List Int} (h : l.getD 0 0 = l.getD 1 0) : Stp.unlike l = false := by
  unfold Stp.unlike
  rw [decide_eq_true h]; simp
theorem unlike_yes {l : List Int} (h2 : 2 ≤ l.length) (h : l.getD 0 0 ≠ l.getD 1 0) : Stp.unlike l = true := by
  unfold Stp.unlike
  rw [decide_eq_false h, decide_eq_true (show 1 < l.length by omega)]; rfl
/-- steps in a row of their own, what each puts in another new block -/
structure BaseP (w W : World) (a : Option Addr) (n c : Nat) (xs : List Pw) : Prop where
  made : MadeP w W w.heap.size a n c xs
  new : ∀ x ∈ xs, x.New w W
  apart : xs.Pairwise fun x y => ∀ b, x.blk = some b → y.blk ≠ some b
theorem BaseP.push {w W W2 W' : World} {a a' : Option Addr} {n c N c' : Nat} {xs zs : List Pw} (h : BaseP w W a n c xs) (h2 : Below W.heap.size W W2) (hz : ∀ x ∈ zs, x.New W W2) (hp : zs.Pairwise fun x y => ∀ b, x.blk = some b → y.blk ≠ some b) (hN : xs.length + zs.length = N)
    (hown : W'.ownsRow w.heap.size 37 4 (.slice a' N c') N (pcells (xs ++ zs))) (hb : Below w.heap.size W2 W') (hg : W2.grownBy W' (Value.slice a n c).ownBlock) : BaseP w W' a' N c' (xs ++ zs) := by
  have hm := h.made.below h2
  refine ⟨hm.push (Nat.le_refl _) (fun x hx => (hz x hx).1.ok) hN hown hb hg, fun x hx => ?_, ?_⟩
  · rcases List.mem_append.1 hx with hx | hx
    · exact ⟨((h.new x hx).1.below h2).grown hg (owned_step hm.own), (h.new x hx).2⟩
    · exact ⟨(hz x hx).1.grown hg (owned_step hm.own), fun b e => Nat.le_trans h.made.bel.size ((hz x hx).2 b e)⟩
  · rw [List.pairwise_append]
    exact ⟨h.apart, hp, fun x hx y hy => Pw.New.apart (W2 := W2) (h.new x hx).1 (hz y hy)⟩
/-- such steps that a call answers -/
def BaseIs (w w' : World) (e : Ending) (l : List Stp.St) : Prop := ∃ a n c xs, e = .returned (.slice a n c) ∧ BaseP w w' a n c xs ∧ stps xs = l ∧ (a = none → c = 0)
theorem BaseP.from {w W0 W : World} {a : Option Addr} {n c : Nat} {xs : List Pw} (h : BaseP W0 W a n c xs) (hb : Below w.heap.size w W0) : BaseP w W a n c xs :=
  ⟨⟨own_mono h.made.own hb.size, fun x hx => (h.new x hx).1.ok, h.made.len, hb.trans (h.made.bel.mono hb.size)⟩, fun x hx => (h.new x hx).from hb.size, h.apart⟩
theorem BaseP.start (w W : World) (hb : Below w.heap.size w W) : BaseP w W none 0 0 [] := ⟨MadeP.start w W _ hb, by simp, List.Pairwise.nil⟩
theorem BaseP.below {w W W' : World} {a : Option Addr} {n c : Nat} {xs : List Pw} (h : BaseP w W a n c xs) (hb : Below W.heap.size W W') : BaseP w W' a n c xs := ⟨h.made.below hb, fun x hx => (h.new x hx).below hb, h.apart⟩

theorem base_none (c : Cw) (qa : Option Addr) (qc : Nat) (rest : List Int) (w : World) (hc : c.Good w) (hq : Sl .i64 w qa 0 qc rest) :
    Calls Try.prog 36 #[c.v, .slice qa 0 qc] w fun e w' => BaseIs w w' e (Stp.one c.c rest ++ Stp.two c.c rest ++ [⟨0, [], true, Stp.more c.c⟩]) := by
  obtain rfl : rest = [] := List.eq_nil_of_length_eq_zero hq.1
  have hmx : Try.prog.follows .mixedOrders = true := by kernel_rfl
  obtain ⟨cm, cl, co, ct, ra, rn, rcap, xs⟩ := c
  have HCW := Lib.hid hc
  have HQ := Lib.hid hq
  have hqc := hq.2.1
  have hqm := hq.2.2.1
  unfold maxLen at hqm
  clear hc hq
  show Calls _ _ #[.agg #[.int .u64 cm, .int .u64 cl, .int .u64 co, .int .u64 ct, .slice ra rn rcap], .slice qa 0 qc] w _
  go_enter Try.func36, Try.ntmps36
  go_wp2
  obtain ⟨W0, hW0⟩ : ∃ W0, W0 = w.alloc (.cells #[.int .u64 cm, .int .u64 cl, .int .u64 co, .int .u64 ct, .slice ra rn rcap] 25) := ⟨_, rfl⟩
  have HKP : Hid (∀ W, Below W0.heap.size W0 W → W.cell? ⟨w.heap.size, 0, none⟩ = some (.int .u64 cm) ∧ W.cell? ⟨w.heap.size, 1, none⟩ = some (.int .u64 cl) ∧ W.cell? ⟨w.heap.size, 2, none⟩ = some (.int .u64 co) ∧ W.cell? ⟨w.heap.size, 3, none⟩ = some (.int .u64 ct) ∧ W.cell? ⟨w.heap.size, 4, none⟩ = some (.slice ra rn rcap)) := Lib.hid fun W hb => by
    have h := (hb.block w.heap.size (by rw [hW0]; simp)).trans (show W0.heap[w.heap.size]? = some (.cells #[.int .u64 cm, .int .u64 cl, .int .u64 co, .int .u64 ct, .slice ra rn rcap] 25 (0, 0)) by rw [hW0]; exact heap_alloc_new w _)
    refine ⟨?_, ?_, ?_, ?_, ?_⟩ <;> (rw [cell_of_row W _ _ _ _ _ h]; rfl)
  have HZ0 : Hid (w.heap.size ≤ W0.heap.size) := Lib.hid (by rw [hW0]; simp)
  have HW : Hid (Below w.heap.size w W0) := Lib.hid (by rw [hW0]; exact (Below.refl _ w).alloc (Nat.le_refl _) _)
  have HCG : Hid (∀ W, Below W0.heap.size W0 W → (⟨cm, cl, co, ct, ra, rn, rcap, xs⟩ : Cw).Good W) := Lib.hid fun W hb => HCW.out.below (HW.out.trans (hb.mono HZ0.out)) (Nat.le_refl _)
  have HQ0 := Lib.hid (HQ.out.below HW.out (Nat.le_refl _))
  rw [← hW0]
  clear hW0
  go_quiet (fail)
  generalize hW1 : W0.drewN nq = W1
  have HBX : Hid (Below W0.heap.size W0 W1) := Lib.hid (by rw [← hW1]; exact below_drawn (Below.refl _ _) ⟨_, rfl⟩)
  have HBP : Hid (BaseP W0 W1 none 0 0 []) := BaseP.start W0 W1 HBX.out
  clear hW1
  have HST : Hid (stps [] = Stp.one (Cw.c ⟨cm, cl, co, ct, ra, rn, rcap, xs⟩) [] ++ Stp.two (Cw.c ⟨cm, cl, co, ct, ra, rn, rcap, xs⟩) []) := rfl
  obtain ⟨k0, k1, k2, k3, k4⟩ := HKP.out _ HBX.out
  go_wp2_with (first
    | (go_at_call 53; refine (more17_is ⟨cm, cl, co, ct, ra, rn, rcap, xs⟩ _ (HCG.out _ HBX.out)).mono ?_; rintro e w8 ⟨⟨e8, a8, n8, c8, p8, y8, d8⟩, rfl, hnew, hst, hbl⟩; have HX8 := Lib.hid hnew; have HT8 := Lib.hid hst; have HL8 := Lib.hid hbl; have HB8 : Hid (Below W0.heap.size W0 w8) := Lib.hid (HBX.out.trans (hbl.mono HBX.out.size)); clear hnew hst hbl; dsimp only [Pw.v])
    | (at_builtin; refine append_steps (by rfl) (.tmp 43) (.tmp 46) (by rfl) W0.heap.size _ 0 [] (by rfl) (by exact (HBP.out.below (HL8.out.alloc HL8.out.size _)).made.own) (some ⟨w8.heap.size, 0, none⟩) 1 1 [⟨e8, a8, n8, c8, p8, y8, d8⟩] (by rfl) (by exact Ps.newc [⟨e8, a8, n8, c8, p8, y8, d8⟩] (by intro x hx; rw [List.mem_singleton.1 hx]; exact HX8.out.1.1) (by unfold maxLen; simp) rfl rfl rfl) 1 (by omega) (by omega) (by have := HB8.out.size; simp; omega) ?_; intro a9 c9 w9 hown9 hb9 hgrow9 hnil9)
    | fail)
  go_ret
  refine ⟨a9, 1, c9, _, rfl, (HBP.out.push (HL8.out.alloc HL8.out.size _) (fun x hx => by rw [List.mem_singleton.1 hx]; exact HX8.out.below ((Below.refl _ w8).alloc (Nat.le_refl _) _)) (List.pairwise_singleton _ _) (by rw [HBP.out.made.len]; rfl) hown9 hb9 hgrow9).from HW.out, ?_, hnil9⟩
  rw [stps_app, HST.out]
  show _ ++ [(⟨e8, a8, n8, c8, p8, y8, d8⟩ : Pw).s] = _
  rw [HT8.out]
  rfl

theorem base_one (c : Cw) (qa : Option Addr) (qc : Nat) (rest : List Int) (w : World) (hc : c.Good w) (hq : Sl .i64 w qa 1 qc rest) :
    Calls Try.prog 36 #[c.v, .slice qa 1 qc] w fun e w' => BaseIs w w' e (Stp.one c.c rest ++ Stp.two c.c rest ++ [⟨0, [], true, Stp.more c.c⟩]) := by
  have hmx : Try.prog.follows .mixedOrders = true := by kernel_rfl
  obtain ⟨cm, cl, co, ct, ra, rn, rcap, xs⟩ := c
  have HCW := Lib.hid hc
  have HQ := Lib.hid hq
  have hqc := hq.2.1
  have hqm := hq.2.2.1
  unfold maxLen at hqm
  clear hc hq
  show Calls _ _ #[.agg #[.int .u64 cm, .int .u64 cl, .int .u64 co, .int .u64 ct, .slice ra rn rcap], .slice qa 1 qc] w _
  go_enter Try.func36, Try.ntmps36
  go_wp2
  obtain ⟨W0, hW0⟩ : ∃ W0, W0 = w.alloc (.cells #[.int .u64 cm, .int .u64 cl, .int .u64 co, .int .u64 ct, .slice ra rn rcap] 25) := ⟨_, rfl⟩
  have HKP : Hid (∀ W, Below W0.heap.size W0 W → W.cell? ⟨w.heap.size, 0, none⟩ = some (.int .u64 cm) ∧ W.cell? ⟨w.heap.size, 1, none⟩ = some (.int .u64 cl) ∧ W.cell? ⟨w.heap.size, 2, none⟩ = some (.int .u64 co) ∧ W.cell? ⟨w.heap.size, 3, none⟩ = some (.int .u64 ct) ∧ W.cell? ⟨w.heap.size, 4, none⟩ = some (.slice ra rn rcap)) := Lib.hid fun W hb => by
    have h := (hb.block w.heap.size (by rw [hW0]; simp)).trans (show W0.heap[w.heap.size]? = some (.cells #[.int .u64 cm, .int .u64 cl, .int .u64 co, .int .u64 ct, .slice ra rn rcap] 25 (0, 0)) by rw [hW0]; exact heap_alloc_new w _)
    refine ⟨?_, ?_, ?_, ?_, ?_⟩ <;> (rw [cell_of_row W _ _ _ _ _ h]; rfl)
  have HZ0 : Hid (w.heap.size ≤ W0.heap.size) := Lib.hid (by rw [hW0]; simp)
  have HW : Hid (Below w.heap.size w W0) := Lib.hid (by rw [hW0]; exact (Below.refl _ w).alloc (Nat.le_refl _) _)
  have HCG : Hid (∀ W, Below W0.heap.size W0 W → (⟨cm, cl, co, ct, ra, rn, rcap, xs⟩ : Cw).Good W) := Lib.hid fun W hb => HCW.out.below (HW.out.trans (hb.mono HZ0.out)) (Nat.le_refl _)
  have HQ0 := Lib.hid (HQ.out.below HW.out (Nat.le_refl _))
  obtain ⟨qb, qo, rfl, hqb, hqcl⟩ := HQ0.out.at (by omega)
  obtain ⟨z0, hz0⟩ : ∃ z, z = rest.getD 0 0 := ⟨_, rfl⟩
  have hq0 := hqcl 0 (by omega)
  rw [← hz0, Nat.add_zero] at hq0
  have hwf : ∀ k, k < 1 → (Lit.int .i64 (rest.getD k 0)).wf = true := fun k hk => HQ.out.2.2.2.1 _ (by
    rw [List.getD_eq_getElem?_getD, List.getElem?_eq_getElem (by rw [HQ.out.1]; exact hk), Option.getD_some]; exact List.getElem_mem _)
  have HZW : Hid ((Lit.int .i64 z0).wf = true ∧ True) := Lib.hid ⟨by rw [hz0]; exact hwf 0 (by omega), trivial⟩
  have HKQ : Hid (∀ W, Below W0.heap.size W0 W → W.cell? ⟨w.heap.size, 0, none⟩ = some (.int .u64 cm) ∧ W.cell? ⟨w.heap.size, 1, none⟩ = some (.int .u64 cl) ∧ W.cell? ⟨w.heap.size, 2, none⟩ = some (.int .u64 co) ∧ W.cell? ⟨w.heap.size, 3, none⟩ = some (.int .u64 ct) ∧ W.cell? ⟨w.heap.size, 4, none⟩ = some (.slice ra rn rcap) ∧ W.cell? ⟨qb, qo, none⟩ = some (.int .i64 z0)) := Lib.hid fun W hb => by
    obtain ⟨k0, k1, k2, k3, k4⟩ := HKP.out W hb
    exact ⟨k0, k1, k2, k3, k4, (hb.cell (p := ⟨qb, qo, none⟩) hqb).trans hq0⟩
  have HLEN : Hid (rest.length = 1) := HQ.out.1
  have HE0 := Lib.hid hz0
  have hlq : (0 : Int) < (qc : Int) := by omega
  have HBA : Hid (Below W0.heap.size W0 W0.drew) := Lib.hid (below_drawn (Below.refl _ _) ⟨1, rfl⟩)
  have HBP : Hid (BaseP W0 W0 none 0 0 []) := Lib.hid (BaseP.start W0 W0 (Below.refl _ _))
  rw [← hW0]
  clear hW0 hqcl hq0 hwf hz0
  go_wp2
  refine wp_region_held_drew (S := (fun W => W.cell? ⟨w.heap.size, 0, none⟩ = some (.int .u64 cm) ∧ W.cell? ⟨w.heap.size, 1, none⟩ = some (.int .u64 cl) ∧ W.cell? ⟨w.heap.size, 2, none⟩ = some (.int .u64 co) ∧ W.cell? ⟨w.heap.size, 3, none⟩ = some (.int .u64 ct) ∧ W.cell? ⟨w.heap.size, 4, none⟩ = some (.slice ra rn rcap) ∧ W.cell? ⟨qb, qo, none⟩ = some (.int .i64 z0))) (by kernel_rfl) (by first | (exact HKQ.out _ (by first | exact HBF.out | exact HBE.out _ | exact HBD.out | exact HBC.out | exact HBB.out | exact HBA.out)) | ((try dsimp only); exact HKQ.out _ (by first | exact HBF.out | exact HBE.out _ | exact HBD.out | exact HBC.out | exact HBB.out | exact HBA.out))) (fun hHeld => ?_)
  refine wpAnyH_take (i := 0) (v := ?vk1) rfl (by kernel_rfl) (by kernel_rfl) (by kernel_rfl) (fun _ _ _ h => h) (Or.inl ⟨by rfl, ?hk1⟩) (by assumption) ?rk1
  case hk1 => intro w hSw; (try dsimp only at hSw); go_simp; try with_reducible rfl
  simp only [Act.put, List.getElem_toArray, List.getElem_cons_succ, List.getElem_cons_zero, List.setIfInBounds_toArray, List.set_cons_succ, List.set_cons_zero]
  refine wpAnyH_take (i := 1) (v := ?vk4) rfl (by kernel_rfl) (by kernel_rfl) (by kernel_rfl) (fun _ _ _ h => h) (Or.inl ⟨by rfl, ?hk4⟩) (by assumption) ?rk4
  case hk4 => intro w hSw; (try dsimp only at hSw); go_simp; try with_reducible rfl
  simp only [Act.put, List.getElem_toArray, List.getElem_cons_succ, List.getElem_cons_zero, List.setIfInBounds_toArray, List.set_cons_succ, List.set_cons_zero]
  refine wpAnyH_take (i := 2) (v := ?vk7) rfl (by kernel_rfl) (by kernel_rfl) (by kernel_rfl) (fun _ _ _ h => h) (Or.inl ⟨by rfl, ?hk7⟩) (by assumption) ?rk7
  case hk7 => intro w hSw; (try dsimp only at hSw); go_simp; try with_reducible rfl
  simp only [Act.put, List.getElem_toArray, List.getElem_cons_succ, List.getElem_cons_zero, List.setIfInBounds_toArray, List.set_cons_succ, List.set_cons_zero]
  refine wpAnyH_take (i := 3) (v := ?vk10) rfl (by kernel_rfl) (by kernel_rfl) (by kernel_rfl) (fun _ _ _ h => h) (Or.inl ⟨by rfl, ?hk10⟩) (by assumption) ?rk10
  case hk10 => intro w hSw; (try dsimp only at hSw); go_simp; try with_reducible rfl
  simp only [Act.put, List.getElem_toArray, List.getElem_cons_succ, List.getElem_cons_zero, List.setIfInBounds_toArray, List.set_cons_succ, List.set_cons_zero]
  refine wpAnyH_take (i := 5) (v := ?vk13) rfl (by kernel_rfl) (by kernel_rfl) (by kernel_rfl) (fun _ _ _ h => h) (Or.inl ⟨by rfl, ?hk13⟩) (by assumption) ?rk13
  case hk13 => intro w hSw; (try dsimp only at hSw); go_simp; try with_reducible rfl
  simp only [Act.put, List.getElem_toArray, List.getElem_cons_succ, List.getElem_cons_zero, List.setIfInBounds_toArray, List.set_cons_succ, List.set_cons_zero]
  refine wpAnyH_take (i := 7) (v := ?vk16) rfl (by kernel_rfl) (by kernel_rfl) (by kernel_rfl) (fun _ _ _ h => h) (Or.inl ⟨by rfl, ?hk16⟩) (by assumption) ?rk16
  case hk16 => intro w hSw; (try dsimp only at hSw); go_simp; try with_reducible rfl
  simp only [Act.put, List.getElem_toArray, List.getElem_cons_succ, List.getElem_cons_zero, List.setIfInBounds_toArray, List.set_cons_succ, List.set_cons_zero]
  refine wpAnyH_ready (rs := [4]) (by kernel_rfl) (by simp) ?_
  refine AllReadyH.cons rfl (fun K hK => ?_) AllReadyH.nil
  go_simp
  refine (same_one_is z0 _ HZW.out.1).mono ?_
  rintro e w1 ⟨⟨e0, a0, n0, c0, p0, y0, d0⟩, rfl, hnew, hst, hbl⟩
  have HX0 := Lib.hid hnew
  have HT0 := Lib.hid hst
  have HL0 := Lib.hid hbl
  have HBB : Hid (Below W0.heap.size W0 w1) := Lib.hid (HBA.out.trans (hbl.mono HBA.out.size))
  clear hnew hst hbl
  dsimp only [Pw.v]
  refine hK.out _ _ (by first | (exact HKQ.out _ (by first | exact HBF.out | exact HBE.out _ | exact HBD.out | exact HBC.out | exact HBB.out | exact HBA.out)) | ((try dsimp only); exact HKQ.out _ (by first | exact HBF.out | exact HBE.out _ | exact HBD.out | exact HBC.out | exact HBB.out | exact HBA.out))) (fun hHeld => ?_)
  clear hK K
  try simp only [Act.put, List.getElem_toArray, List.getElem_cons_succ, List.getElem_cons_zero, List.setIfInBounds_toArray, List.set_cons_succ, List.set_cons_zero]
  refine wpAnyH_ready (rs := [6]) (by kernel_rfl) (by simp) ?_
  refine AllReadyH.cons rfl (fun K hK => ?_) AllReadyH.nil
  go_simp
  refine (other17_is ⟨cm, cl, co, ct, ra, rn, rcap, xs⟩ _ (HCG.out _ HBB.out)).mono ?_
  rintro e w2 ⟨⟨e1, a1, n1, c1, p1, y1, d1⟩, rfl, hnew, hst, hbl⟩
  have HX1 := Lib.hid hnew
  have HT1 := Lib.hid hst
  have HL1 := Lib.hid hbl
  have HBC : Hid (Below W0.heap.size W0 w2) := Lib.hid (HBB.out.trans (hbl.mono HBB.out.size))
  clear hnew hst hbl
  dsimp only [Pw.v]
  refine hK.out _ _ (by first | (exact HKQ.out _ (by first | exact HBF.out | exact HBE.out _ | exact HBD.out | exact HBC.out | exact HBB.out | exact HBA.out)) | ((try dsimp only); exact HKQ.out _ (by first | exact HBF.out | exact HBE.out _ | exact HBD.out | exact HBC.out | exact HBB.out | exact HBA.out))) (fun hHeld => ?_)
  clear hK K
  try simp only [Act.put, List.getElem_toArray, List.getElem_cons_succ, List.getElem_cons_zero, List.setIfInBounds_toArray, List.set_cons_succ, List.set_cons_zero]
  refine wpAnyH_ready (rs := [8]) (by kernel_rfl) (by simp) ?_
  refine AllReadyH.cons rfl (fun K hK => ?_) AllReadyH.nil
  go_simp
  refine (less17_is ⟨cm, cl, co, ct, ra, rn, rcap, xs⟩ _ (HCG.out _ HBC.out)).mono ?_
  rintro e w3 ⟨⟨e2, a2, n2, c2, p2, y2, d2⟩, rfl, hnew, hst, hbl⟩
  have HX2 := Lib.hid hnew
  have HT2 := Lib.hid hst
  have HL2 := Lib.hid hbl
  have HBD : Hid (Below W0.heap.size W0 w3) := Lib.hid (HBC.out.trans (hbl.mono HBC.out.size))
  clear hnew hst hbl
  dsimp only [Pw.v]
  have HLV : Hid (Below W0.heap.size W0 w3) := HBD
  refine hK.out _ _ (by first | (exact HKQ.out _ (by first | exact HBF.out | exact HBE.out _ | exact HBD.out | exact HBC.out | exact HBB.out | exact HBA.out)) | ((try dsimp only); exact HKQ.out _ (by first | exact HBF.out | exact HBE.out _ | exact HBD.out | exact HBC.out | exact HBB.out | exact HBA.out))) (fun hHeld => ?_)
  clear hK K
  try simp only [Act.put, List.getElem_toArray, List.getElem_cons_succ, List.getElem_cons_zero, List.setIfInBounds_toArray, List.set_cons_succ, List.set_cons_zero]
  refine wpAnyH_ready (rs := [9]) (by kernel_rfl) (by simp) ?_
  refine AllReadyH.cons rfl (fun K hK => ?_) AllReadyH.nil
  go_simp
  have HBE : Hid (∀ o, Below W0.heap.size W0 (w3.alloc o)) := Lib.hid fun o => HBD.out.alloc HBD.out.size _
  have HLIT : Hid (∀ x ∈ ([⟨e0, a0, n0, c0, p0, y0, d0⟩, ⟨e1, a1, n1, c1, p1, y1, d1⟩, ⟨e2, a2, n2, c2, p2, y2, d2⟩] : List Pw), x.New W0 w3) := Lib.hid (by
    intro x hx
    simp only [List.mem_cons, List.not_mem_nil, or_false] at hx
    rcases hx with rfl | rfl | rfl
    · exact ((HX0.out.below HL1.out).below HL2.out).from (Nat.le_refl _)
    · exact (HX1.out.below HL2.out).from HBB.out.size
    · exact HX2.out.from HBC.out.size)
  refine hK.out _ _ (by first | (exact HKQ.out _ (by first | exact HBF.out | exact HBE.out _ | exact HBD.out | exact HBC.out | exact HBB.out | exact HBA.out)) | ((try dsimp only); exact HKQ.out _ (by first | exact HBF.out | exact HBE.out _ | exact HBD.out | exact HBC.out | exact HBB.out | exact HBA.out))) (fun hHeld => ?_)
  clear hK K
  try simp only [Act.put, List.getElem_toArray, List.getElem_cons_succ, List.getElem_cons_zero, List.setIfInBounds_toArray, List.set_cons_succ, List.set_cons_zero]
  refine wpAnyH_ready (rs := [10]) (by kernel_rfl) (by simp) ?_
  refine AllReadyH.cons rfl (fun K hK => ?_) AllReadyH.nil
  refine step_append_steps (by rfl) (.tmp 9) (.tmp 18) (by rfl) W0.heap.size _ 0 [] (by rfl) (by exact (HBP.out.below (HLV.out.alloc HLV.out.size _)).made.own) (some ⟨w3.heap.size, 0, none⟩) 3 3 ([⟨e0, a0, n0, c0, p0, y0, d0⟩, ⟨e1, a1, n1, c1, p1, y1, d1⟩, ⟨e2, a2, n2, c2, p2, y2, d2⟩] : List Pw) (by rfl) (by exact Ps.newc ([⟨e0, a0, n0, c0, p0, y0, d0⟩, ⟨e1, a1, n1, c1, p1, y1, d1⟩, ⟨e2, a2, n2, c2, p2, y2, d2⟩] : List Pw) (fun x hx => (HLIT.out x hx).1.1) (by unfold maxLen; simp) rfl rfl rfl) 3 (by omega) (by omega) (HBE.out _).size (Below.refl _ _) ?_
  intro a5 c5 w5 hown5 hb5 hgrow5 hnil5
  have HBF : Hid (Below W0.heap.size W0 w5) := Lib.hid ((HBE.out _).trans hb5)
  have HBQ : Hid (BaseP W0 w5 a5 3 c5 ([] ++ ([⟨e0, a0, n0, c0, p0, y0, d0⟩, ⟨e1, a1, n1, c1, p1, y1, d1⟩, ⟨e2, a2, n2, c2, p2, y2, d2⟩] : List Pw))) := Lib.hid (HBP.out.push (HLV.out.alloc HLV.out.size _) (fun x hx => (HLIT.out x hx).below ((Below.refl _ w3).alloc (Nat.le_refl _) _)) (List.pairwise_cons.2 ⟨fun y hy => by simp only [List.mem_cons, List.not_mem_nil, or_false] at hy; rcases hy with rfl | rfl; exact Pw.New.apart (W2 := w2) HX0.out.1 HX1.out; exact Pw.New.apart (W2 := w3) (HX0.out.below HL1.out).1 HX2.out, List.pairwise_cons.2 ⟨fun y hy => by rw [List.mem_singleton.1 hy]; exact Pw.New.apart (W2 := w3) HX1.out.1 HX2.out, List.pairwise_singleton _ _⟩⟩) (by rw [HBP.out.made.len]; rfl) hown5 hb5 hgrow5)
  clear hown5 hb5 hgrow5 hnil5
  refine hK.out _ _ (by first | (exact HKQ.out _ (by first | exact HBF.out | exact HBE.out _ | exact HBD.out | exact HBC.out | exact HBB.out | exact HBA.out)) | ((try dsimp only); exact HKQ.out _ (by first | exact HBF.out | exact HBE.out _ | exact HBD.out | exact HBC.out | exact HBB.out | exact HBA.out))) (fun hHeld => ?_)
  clear hK K
  try simp only [Act.put, List.getElem_toArray, List.getElem_cons_succ, List.getElem_cons_zero, List.setIfInBounds_toArray, List.set_cons_succ, List.set_cons_zero]
  refine wpAnyH_take (i := 11) (v := ?vk86) rfl (by kernel_rfl) (by kernel_rfl) (by kernel_rfl) (fun _ _ _ h => h) (Or.inl ⟨by rfl, ?hk86⟩) (by assumption) ?rk86
  case hk86 => intro w hSw; (try dsimp only at hSw); go_simp; try with_reducible rfl
  simp only [Act.put, List.getElem_toArray, List.getElem_cons_succ, List.getElem_cons_zero, List.setIfInBounds_toArray, List.set_cons_succ, List.set_cons_zero]
  refine wpAnyH_done (by kernel_rfl) ?_ _
  have HST3 : Hid (stps ([] ++ ([⟨e0, a0, n0, c0, p0, y0, d0⟩, ⟨e1, a1, n1, c1, p1, y1, d1⟩, ⟨e2, a2, n2, c2, p2, y2, d2⟩] : List Pw)) = [⟨1, [z0], false, 0⟩, ⟨1, [], true, co⟩, ⟨1, [], false, cl⟩]) := Lib.hid (by
    show [(Pw.s _), (Pw.s _), (Pw.s _)] = _
    rw [HT0.out, HT1.out, HT2.out])
  generalize ([] ++ ([⟨e0, a0, n0, c0, p0, y0, d0⟩, ⟨e1, a1, n1, c1, p1, y1, d1⟩, ⟨e2, a2, n2, c2, p2, y2, d2⟩] : List Pw) : List Pw) = outs3 at HBQ HST3
  clear HX0 HX1 HX2 HT0 HT1 HT2 HL0 HL1 HL2 HBB HBC HBD HBE HLIT HLV HBP hHeld
  go_wp2
  go_quiet (fail)
  generalize hW1 : w5.drewN nq = W1
  have HBX : Hid (Below W0.heap.size W0 W1) := Lib.hid (by rw [← hW1]; exact below_drawn HBF.out ⟨_, rfl⟩)
  have HBP : Hid (BaseP W0 W1 a5 3 c5 outs3) := Lib.hid (by rw [← hW1]; exact HBQ.out.below (below_drawn (Below.refl _ _) ⟨_, rfl⟩))
  clear hW1 HBQ HBF
  have HST : Hid (stps outs3 = Stp.one (Cw.c ⟨cm, cl, co, ct, ra, rn, rcap, xs⟩) rest ++ Stp.two (Cw.c ⟨cm, cl, co, ct, ra, rn, rcap, xs⟩) rest) := Lib.hid (by
    rw [HST3.out, Stp.one_is _ (by rw [HLEN.out]; omega), Stp.two_is, if_neg (by simp [Stp.unlike, HLEN.out]), List.append_nil, ← HE0.out]; rfl)
  obtain ⟨k0, k1, k2, k3, k4⟩ := HKP.out _ HBX.out
  go_wp2_with (first
    | (go_at_call 53; refine (more17_is ⟨cm, cl, co, ct, ra, rn, rcap, xs⟩ _ (HCG.out _ HBX.out)).mono ?_; rintro e w8 ⟨⟨e8, a8, n8, c8, p8, y8, d8⟩, rfl, hnew, hst, hbl⟩; have HX8 := Lib.hid hnew; have HT8 := Lib.hid hst; have HL8 := Lib.hid hbl; have HB8 : Hid (Below W0.heap.size W0 w8) := Lib.hid (HBX.out.trans (hbl.mono HBX.out.size)); clear hnew hst hbl; dsimp only [Pw.v])
    | (at_builtin; refine append_steps (by rfl) (.tmp 43) (.tmp 46) (by rfl) W0.heap.size _ 3 outs3 (by rfl) (by exact (HBP.out.below (HL8.out.alloc HL8.out.size _)).made.own) (some ⟨w8.heap.size, 0, none⟩) 1 1 [⟨e8, a8, n8, c8, p8, y8, d8⟩] (by rfl) (by exact Ps.newc [⟨e8, a8, n8, c8, p8, y8, d8⟩] (by intro x hx; rw [List.mem_singleton.1 hx]; exact HX8.out.1.1) (by unfold maxLen; simp) rfl rfl rfl) 4 (by omega) (by omega) (by have := HB8.out.size; simp; omega) ?_; intro a9 c9 w9 hown9 hb9 hgrow9 hnil9)
    | fail)
  go_ret
  refine ⟨a9, 4, c9, _, rfl, (HBP.out.push (HL8.out.alloc HL8.out.size _) (fun x hx => by rw [List.mem_singleton.1 hx]; exact HX8.out.below ((Below.refl _ w8).alloc (Nat.le_refl _) _)) (List.pairwise_singleton _ _) (by rw [HBP.out.made.len]; rfl) hown9 hb9 hgrow9).from HW.out, ?_, hnil9⟩
  rw [stps_app, HST.out]
  show _ ++ [(⟨e8, a8, n8, c8, p8, y8, d8⟩ : Pw).s] = _
  rw [HT8.out]
  rw [List.append_assoc]; rfl

theorem base_same (c : Cw) (qa : Option Addr) (qn qc : Nat) (rest : List Int) (w : World) (hc : c.Good w) (hq : Sl .i64 w qa qn qc rest) (h2 : 2 ≤ qn) (he : rest.getD 0 0 = rest.getD 1 0) :
    Calls Try.prog 36 #[c.v, .slice qa qn qc] w fun e w' => BaseIs w w' e (Stp.one c.c rest ++ Stp.two c.c rest ++ [⟨0, [], true, Stp.more c.c⟩]) := by
  have hmx : Try.prog.follows .mixedOrders = true := by kernel_rfl
  obtain ⟨cm, cl, co, ct, ra, rn, rcap, xs⟩ := c
  have HCW := Lib.hid hc
  have HQ := Lib.hid hq
  have hqc := hq.2.1
  have hqm := hq.2.2.1
  unfold maxLen at hqm
  clear hc hq
  show Calls _ _ #[.agg #[.int .u64 cm, .int .u64 cl, .int .u64 co, .int .u64 ct, .slice ra rn rcap], .slice qa qn qc] w _
  go_enter Try.func36, Try.ntmps36
  go_wp2
  obtain ⟨W0, hW0⟩ : ∃ W0, W0 = w.alloc (.cells #[.int .u64 cm, .int .u64 cl, .int .u64 co, .int .u64 ct, .slice ra rn rcap] 25) := ⟨_, rfl⟩
  have HKP : Hid (∀ W, Below W0.heap.size W0 W → W.cell? ⟨w.heap.size, 0, none⟩ = some (.int .u64 cm) ∧ W.cell? ⟨w.heap.size, 1, none⟩ = some (.int .u64 cl) ∧ W.cell? ⟨w.heap.size, 2, none⟩ = some (.int .u64 co) ∧ W.cell? ⟨w.heap.size, 3, none⟩ = some (.int .u64 ct) ∧ W.cell? ⟨w.heap.size, 4, none⟩ = some (.slice ra rn rcap)) := Lib.hid fun W hb => by
    have h := (hb.block w.heap.size (by rw [hW0]; simp)).trans (show W0.heap[w.heap.size]? = some (.cells #[.int .u64 cm, .int .u64 cl, .int .u64 co, .int .u64 ct, .slice ra rn rcap] 25 (0, 0)) by rw [hW0]; exact heap_alloc_new w _)
    refine ⟨?_, ?_, ?_, ?_, ?_⟩ <;> (rw [cell_of_row W _ _ _ _ _ h]; rfl)
  have HZ0 : Hid (w.heap.size ≤ W0.heap.size) := Lib.hid (by rw [hW0]; simp)
  have HW : Hid (Below w.heap.size w W0) := Lib.hid (by rw [hW0]; exact (Below.refl _ w).alloc (Nat.le_refl _) _)
  have HCG : Hid (∀ W, Below W0.heap.size W0 W → (⟨cm, cl, co, ct, ra, rn, rcap, xs⟩ : Cw).Good W) := Lib.hid fun W hb => HCW.out.below (HW.out.trans (hb.mono HZ0.out)) (Nat.le_refl _)
  have HQ0 := Lib.hid (HQ.out.below HW.out (Nat.le_refl _))
  obtain ⟨qb, qo, rfl, hqb, hqcl⟩ := HQ0.out.at (by omega)
  obtain ⟨z0, hz0⟩ : ∃ z, z = rest.getD 0 0 := ⟨_, rfl⟩
  have hq0 := hqcl 0 (by omega)
  rw [← hz0, Nat.add_zero] at hq0
  obtain ⟨z1, hz1⟩ : ∃ z, z = rest.getD 1 0 := ⟨_, rfl⟩
  have hq1 := hqcl 1 (by omega)
  rw [← hz1] at hq1
  have hwf : ∀ k, k < qn → (Lit.int .i64 (rest.getD k 0)).wf = true := fun k hk => HQ.out.2.2.2.1 _ (by
    rw [List.getD_eq_getElem?_getD, List.getElem?_eq_getElem (by rw [HQ.out.1]; exact hk), Option.getD_some]; exact List.getElem_mem _)
  have HZW : Hid ((Lit.int .i64 z0).wf = true ∧ (Lit.int .i64 z1).wf = true) := Lib.hid ⟨by rw [hz0]; exact hwf 0 (by omega), by rw [hz1]; exact hwf 1 (by omega)⟩
  have HKQ : Hid (∀ W, Below W0.heap.size W0 W → W.cell? ⟨w.heap.size, 0, none⟩ = some (.int .u64 cm) ∧ W.cell? ⟨w.heap.size, 1, none⟩ = some (.int .u64 cl) ∧ W.cell? ⟨w.heap.size, 2, none⟩ = some (.int .u64 co) ∧ W.cell? ⟨w.heap.size, 3, none⟩ = some (.int .u64 ct) ∧ W.cell? ⟨w.heap.size, 4, none⟩ = some (.slice ra rn rcap) ∧ W.cell? ⟨qb, qo, none⟩ = some (.int .i64 z0) ∧ W.cell? ⟨qb, qo + 1, none⟩ = some (.int .i64 z1)) := Lib.hid fun W hb => by
    obtain ⟨k0, k1, k2, k3, k4⟩ := HKP.out W hb
    exact ⟨k0, k1, k2, k3, k4, (hb.cell (p := ⟨qb, qo, none⟩) hqb).trans hq0, (hb.cell (p := ⟨qb, qo + 1, none⟩) hqb).trans hq1⟩
  have HLEN : Hid (rest.length = qn) := HQ.out.1
  have HE0 := Lib.hid hz0
  have HE1 := Lib.hid hz1
  have hlq : (0 : Int) < (qc : Int) := by omega
  have hlt : (0 : Int) < (qn : Int) := by omega
  have hlt1 : (1 : Int) < (qn : Int) := by omega
  have hlt2 : decide ((1 : Int) < (qn : Int)) = true := decide_eq_true hlt1
  have HBA : Hid (Below W0.heap.size W0 W0.drew) := Lib.hid (below_drawn (Below.refl _ _) ⟨1, rfl⟩)
  have HBP : Hid (BaseP W0 W0 none 0 0 []) := Lib.hid (BaseP.start W0 W0 (Below.refl _ _))
  rw [← hW0]
  clear hW0 hqcl hq0 hwf hz0 hq1 hz1
  go_wp2
  refine wp_region_held_drew (S := (fun W => W.cell? ⟨w.heap.size, 0, none⟩ = some (.int .u64 cm) ∧ W.cell? ⟨w.heap.size, 1, none⟩ = some (.int .u64 cl) ∧ W.cell? ⟨w.heap.size, 2, none⟩ = some (.int .u64 co) ∧ W.cell? ⟨w.heap.size, 3, none⟩ = some (.int .u64 ct) ∧ W.cell? ⟨w.heap.size, 4, none⟩ = some (.slice ra rn rcap) ∧ W.cell? ⟨qb, qo, none⟩ = some (.int .i64 z0) ∧ W.cell? ⟨qb, qo + 1, none⟩ = some (.int .i64 z1))) (by kernel_rfl) (by first | (exact HKQ.out _ (by first | exact HBF.out | exact HBE.out _ | exact HBD.out | exact HBC.out | exact HBB.out | exact HBA.out)) | ((try dsimp only); exact HKQ.out _ (by first | exact HBF.out | exact HBE.out _ | exact HBD.out | exact HBC.out | exact HBB.out | exact HBA.out))) (fun hHeld => ?_)
  refine wpAnyH_take (i := 0) (v := ?vk1) rfl (by kernel_rfl) (by kernel_rfl) (by kernel_rfl) (fun _ _ _ h => h) (Or.inl ⟨by rfl, ?hk1⟩) (by assumption) ?rk1
  case hk1 => intro w hSw; (try dsimp only at hSw); go_simp; try with_reducible rfl
  simp only [Act.put, List.getElem_toArray, List.getElem_cons_succ, List.getElem_cons_zero, List.setIfInBounds_toArray, List.set_cons_succ, List.set_cons_zero]
  refine wpAnyH_take (i := 1) (v := ?vk4) rfl (by kernel_rfl) (by kernel_rfl) (by kernel_rfl) (fun _ _ _ h => h) (Or.inl ⟨by rfl, ?hk4⟩) (by assumption) ?rk4
  case hk4 => intro w hSw; (try dsimp only at hSw); go_simp; try with_reducible rfl
  simp only [Act.put, List.getElem_toArray, List.getElem_cons_succ, List.getElem_cons_zero, List.setIfInBounds_toArray, List.set_cons_succ, List.set_cons_zero]
  refine wpAnyH_take (i := 2) (v := ?vk7) rfl (by kernel_rfl) (by kernel_rfl) (by kernel_rfl) (fun _ _ _ h => h) (Or.inl ⟨by rfl, ?hk7⟩) (by assumption) ?rk7
  case hk7 => intro w hSw; (try dsimp only at hSw); go_simp; try with_reducible rfl
  simp only [Act.put, List.getElem_toArray, List.getElem_cons_succ, List.getElem_cons_zero, List.setIfInBounds_toArray, List.set_cons_succ, List.set_cons_zero]
  refine wpAnyH_take (i := 3) (v := ?vk10) rfl (by kernel_rfl) (by kernel_rfl) (by kernel_rfl) (fun _ _ _ h => h) (Or.inl ⟨by rfl, ?hk10⟩) (by assumption) ?rk10
  case hk10 => intro w hSw; (try dsimp only at hSw); go_simp; try with_reducible rfl
  simp only [Act.put, List.getElem_toArray, List.getElem_cons_succ, List.getElem_cons_zero, List.setIfInBounds_toArray, List.set_cons_succ, List.set_cons_zero]
  refine wpAnyH_take (i := 5) (v := ?vk13) rfl (by kernel_rfl) (by kernel_rfl) (by kernel_rfl) (fun _ _ _ h => h) (Or.inl ⟨by rfl, ?hk13⟩) (by assumption) ?rk13
  case hk13 => intro w hSw; (try dsimp only at hSw); go_simp; try with_reducible rfl
  simp only [Act.put, List.getElem_toArray, List.getElem_cons_succ, List.getElem_cons_zero, List.setIfInBounds_toArray, List.set_cons_succ, List.set_cons_zero]
  refine wpAnyH_take (i := 7) (v := ?vk16) rfl (by kernel_rfl) (by kernel_rfl) (by kernel_rfl) (fun _ _ _ h => h) (Or.inl ⟨by rfl, ?hk16⟩) (by assumption) ?rk16
  case hk16 => intro w hSw; (try dsimp only at hSw); go_simp; try with_reducible rfl
  simp only [Act.put, List.getElem_toArray, List.getElem_cons_succ, List.getElem_cons_zero, List.setIfInBounds_toArray, List.set_cons_succ, List.set_cons_zero]
  refine wpAnyH_ready (rs := [4]) (by kernel_rfl) (by simp) ?_
  refine AllReadyH.cons rfl (fun K hK => ?_) AllReadyH.nil
  go_simp
  refine (same_one_is z0 _ HZW.out.1).mono ?_
  rintro e w1 ⟨⟨e0, a0, n0, c0, p0, y0, d0⟩, rfl, hnew, hst, hbl⟩
  have HX0 := Lib.hid hnew
  have HT0 := Lib.hid hst
  have HL0 := Lib.hid hbl
  have HBB : Hid (Below W0.heap.size W0 w1) := Lib.hid (HBA.out.trans (hbl.mono HBA.out.size))
  clear hnew hst hbl
  dsimp only [Pw.v]
  refine hK.out _ _ (by first | (exact HKQ.out _ (by first | exact HBF.out | exact HBE.out _ | exact HBD.out | exact HBC.out | exact HBB.out | exact HBA.out)) | ((try dsimp only); exact HKQ.out _ (by first | exact HBF.out | exact HBE.out _ | exact HBD.out | exact HBC.out | exact HBB.out | exact HBA.out))) (fun hHeld => ?_)
  clear hK K
  try simp only [Act.put, List.getElem_toArray, List.getElem_cons_succ, List.getElem_cons_zero, List.setIfInBounds_toArray, List.set_cons_succ, List.set_cons_zero]
  refine wpAnyH_ready (rs := [6]) (by kernel_rfl) (by simp) ?_
  refine AllReadyH.cons rfl (fun K hK => ?_) AllReadyH.nil
  go_simp
  refine (other17_is ⟨cm, cl, co, ct, ra, rn, rcap, xs⟩ _ (HCG.out _ HBB.out)).mono ?_
  rintro e w2 ⟨⟨e1, a1, n1, c1, p1, y1, d1⟩, rfl, hnew, hst, hbl⟩
  have HX1 := Lib.hid hnew
  have HT1 := Lib.hid hst
  have HL1 := Lib.hid hbl
  have HBC : Hid (Below W0.heap.size W0 w2) := Lib.hid (HBB.out.trans (hbl.mono HBB.out.size))
  clear hnew hst hbl
  dsimp only [Pw.v]
  refine hK.out _ _ (by first | (exact HKQ.out _ (by first | exact HBF.out | exact HBE.out _ | exact HBD.out | exact HBC.out | exact HBB.out | exact HBA.out)) | ((try dsimp only); exact HKQ.out _ (by first | exact HBF.out | exact HBE.out _ | exact HBD.out | exact HBC.out | exact HBB.out | exact HBA.out))) (fun hHeld => ?_)
  clear hK K
  try simp only [Act.put, List.getElem_toArray, List.getElem_cons_succ, List.getElem_cons_zero, List.setIfInBounds_toArray, List.set_cons_succ, List.set_cons_zero]
  refine wpAnyH_ready (rs := [8]) (by kernel_rfl) (by simp) ?_
  refine AllReadyH.cons rfl (fun K hK => ?_) AllReadyH.nil
  go_simp
  refine (less17_is ⟨cm, cl, co, ct, ra, rn, rcap, xs⟩ _ (HCG.out _ HBC.out)).mono ?_
  rintro e w3 ⟨⟨e2, a2, n2, c2, p2, y2, d2⟩, rfl, hnew, hst, hbl⟩
  have HX2 := Lib.hid hnew
  have HT2 := Lib.hid hst
  have HL2 := Lib.hid hbl
  have HBD : Hid (Below W0.heap.size W0 w3) := Lib.hid (HBC.out.trans (hbl.mono HBC.out.size))
  clear hnew hst hbl
  dsimp only [Pw.v]
  have HLV : Hid (Below W0.heap.size W0 w3) := HBD
  refine hK.out _ _ (by first | (exact HKQ.out _ (by first | exact HBF.out | exact HBE.out _ | exact HBD.out | exact HBC.out | exact HBB.out | exact HBA.out)) | ((try dsimp only); exact HKQ.out _ (by first | exact HBF.out | exact HBE.out _ | exact HBD.out | exact HBC.out | exact HBB.out | exact HBA.out))) (fun hHeld => ?_)
  clear hK K
  try simp only [Act.put, List.getElem_toArray, List.getElem_cons_succ, List.getElem_cons_zero, List.setIfInBounds_toArray, List.set_cons_succ, List.set_cons_zero]
  refine wpAnyH_ready (rs := [9]) (by kernel_rfl) (by simp) ?_
  refine AllReadyH.cons rfl (fun K hK => ?_) AllReadyH.nil
  go_simp
  have HBE : Hid (∀ o, Below W0.heap.size W0 (w3.alloc o)) := Lib.hid fun o => HBD.out.alloc HBD.out.size _
  have HLIT : Hid (∀ x ∈ ([⟨e0, a0, n0, c0, p0, y0, d0⟩, ⟨e1, a1, n1, c1, p1, y1, d1⟩, ⟨e2, a2, n2, c2, p2, y2, d2⟩] : List Pw), x.New W0 w3) := Lib.hid (by
    intro x hx
    simp only [List.mem_cons, List.not_mem_nil, or_false] at hx
    rcases hx with rfl | rfl | rfl
    · exact ((HX0.out.below HL1.out).below HL2.out).from (Nat.le_refl _)
    · exact (HX1.out.below HL2.out).from HBB.out.size
    · exact HX2.out.from HBC.out.size)
  refine hK.out _ _ (by first | (exact HKQ.out _ (by first | exact HBF.out | exact HBE.out _ | exact HBD.out | exact HBC.out | exact HBB.out | exact HBA.out)) | ((try dsimp only); exact HKQ.out _ (by first | exact HBF.out | exact HBE.out _ | exact HBD.out | exact HBC.out | exact HBB.out | exact HBA.out))) (fun hHeld => ?_)
  clear hK K
  try simp only [Act.put, List.getElem_toArray, List.getElem_cons_succ, List.getElem_cons_zero, List.setIfInBounds_toArray, List.set_cons_succ, List.set_cons_zero]
  refine wpAnyH_ready (rs := [10]) (by kernel_rfl) (by simp) ?_
  refine AllReadyH.cons rfl (fun K hK => ?_) AllReadyH.nil
  refine step_append_steps (by rfl) (.tmp 9) (.tmp 18) (by rfl) W0.heap.size _ 0 [] (by rfl) (by exact (HBP.out.below (HLV.out.alloc HLV.out.size _)).made.own) (some ⟨w3.heap.size, 0, none⟩) 3 3 ([⟨e0, a0, n0, c0, p0, y0, d0⟩, ⟨e1, a1, n1, c1, p1, y1, d1⟩, ⟨e2, a2, n2, c2, p2, y2, d2⟩] : List Pw) (by rfl) (by exact Ps.newc ([⟨e0, a0, n0, c0, p0, y0, d0⟩, ⟨e1, a1, n1, c1, p1, y1, d1⟩, ⟨e2, a2, n2, c2, p2, y2, d2⟩] : List Pw) (fun x hx => (HLIT.out x hx).1.1) (by unfold maxLen; simp) rfl rfl rfl) 3 (by omega) (by omega) (HBE.out _).size (Below.refl _ _) ?_
  intro a5 c5 w5 hown5 hb5 hgrow5 hnil5
  have HBF : Hid (Below W0.heap.size W0 w5) := Lib.hid ((HBE.out _).trans hb5)
  have HBQ : Hid (BaseP W0 w5 a5 3 c5 ([] ++ ([⟨e0, a0, n0, c0, p0, y0, d0⟩, ⟨e1, a1, n1, c1, p1, y1, d1⟩, ⟨e2, a2, n2, c2, p2, y2, d2⟩] : List Pw))) := Lib.hid (HBP.out.push (HLV.out.alloc HLV.out.size _) (fun x hx => (HLIT.out x hx).below ((Below.refl _ w3).alloc (Nat.le_refl _) _)) (List.pairwise_cons.2 ⟨fun y hy => by simp only [List.mem_cons, List.not_mem_nil, or_false] at hy; rcases hy with rfl | rfl; exact Pw.New.apart (W2 := w2) HX0.out.1 HX1.out; exact Pw.New.apart (W2 := w3) (HX0.out.below HL1.out).1 HX2.out, List.pairwise_cons.2 ⟨fun y hy => by rw [List.mem_singleton.1 hy]; exact Pw.New.apart (W2 := w3) HX1.out.1 HX2.out, List.pairwise_singleton _ _⟩⟩) (by rw [HBP.out.made.len]; rfl) hown5 hb5 hgrow5)
  clear hown5 hb5 hgrow5 hnil5
  refine hK.out _ _ (by first | (exact HKQ.out _ (by first | exact HBF.out | exact HBE.out _ | exact HBD.out | exact HBC.out | exact HBB.out | exact HBA.out)) | ((try dsimp only); exact HKQ.out _ (by first | exact HBF.out | exact HBE.out _ | exact HBD.out | exact HBC.out | exact HBB.out | exact HBA.out))) (fun hHeld => ?_)
  clear hK K
  try simp only [Act.put, List.getElem_toArray, List.getElem_cons_succ, List.getElem_cons_zero, List.setIfInBounds_toArray, List.set_cons_succ, List.set_cons_zero]
  refine wpAnyH_take (i := 11) (v := ?vk86) rfl (by kernel_rfl) (by kernel_rfl) (by kernel_rfl) (fun _ _ _ h => h) (Or.inl ⟨by rfl, ?hk86⟩) (by assumption) ?rk86
  case hk86 => intro w hSw; (try dsimp only at hSw); go_simp; try with_reducible rfl
  simp only [Act.put, List.getElem_toArray, List.getElem_cons_succ, List.getElem_cons_zero, List.setIfInBounds_toArray, List.set_cons_succ, List.set_cons_zero]
  refine wpAnyH_done (by kernel_rfl) ?_ _
  have HST3 : Hid (stps ([] ++ ([⟨e0, a0, n0, c0, p0, y0, d0⟩, ⟨e1, a1, n1, c1, p1, y1, d1⟩, ⟨e2, a2, n2, c2, p2, y2, d2⟩] : List Pw)) = [⟨1, [z0], false, 0⟩, ⟨1, [], true, co⟩, ⟨1, [], false, cl⟩]) := Lib.hid (by
    show [(Pw.s _), (Pw.s _), (Pw.s _)] = _
    rw [HT0.out, HT1.out, HT2.out])
  generalize ([] ++ ([⟨e0, a0, n0, c0, p0, y0, d0⟩, ⟨e1, a1, n1, c1, p1, y1, d1⟩, ⟨e2, a2, n2, c2, p2, y2, d2⟩] : List Pw) : List Pw) = outs3 at HBQ HST3
  clear HX0 HX1 HX2 HT0 HT1 HT2 HL0 HL1 HL2 HBB HBC HBD HBE HLIT HLV HBP hHeld
  have HEQ : Hid (z0 = z1) := Lib.hid (by rw [HE0.out, HE1.out]; exact he)
  have HEE := Lib.hid he
  clear he
  obtain ⟨k0, k1, k2, k3, k4, k5, k6⟩ := HKQ.out _ HBF.out
  have hzz : (z0 == z1) = true := by rw [HEQ.out]; simp
  have hzn : (z0 != z1) = false := by rw [HEQ.out]; simp
  have hzd : decide (z0 = z1) = true := decide_eq_true HEQ.out
  go_wp2
  go_quiet (fail)
  generalize hW1 : w5.drewN nq = W1
  have HBX : Hid (Below W0.heap.size W0 W1) := Lib.hid (by rw [← hW1]; exact below_drawn HBF.out ⟨_, rfl⟩)
  have HBP : Hid (BaseP W0 W1 a5 3 c5 outs3) := Lib.hid (by rw [← hW1]; exact HBQ.out.below (below_drawn (Below.refl _ _) ⟨_, rfl⟩))
  clear hW1 HBQ HBF
  clear k0 k1 k2 k3 k4 k5 k6
  have HST : Hid (stps outs3 = Stp.one (Cw.c ⟨cm, cl, co, ct, ra, rn, rcap, xs⟩) rest ++ Stp.two (Cw.c ⟨cm, cl, co, ct, ra, rn, rcap, xs⟩) rest) := Lib.hid (by
    rw [HST3.out, Stp.one_is _ (by rw [HLEN.out]; omega), Stp.two_is, if_neg (by rw [unlike_no HEE.out]; decide), List.append_nil, ← HE0.out]; rfl)
  obtain ⟨k0, k1, k2, k3, k4⟩ := HKP.out _ HBX.out
  go_wp2_with (first
    | (go_at_call 53; refine (more17_is ⟨cm, cl, co, ct, ra, rn, rcap, xs⟩ _ (HCG.out _ HBX.out)).mono ?_; rintro e w8 ⟨⟨e8, a8, n8, c8, p8, y8, d8⟩, rfl, hnew, hst, hbl⟩; have HX8 := Lib.hid hnew; have HT8 := Lib.hid hst; have HL8 := Lib.hid hbl; have HB8 : Hid (Below W0.heap.size W0 w8) := Lib.hid (HBX.out.trans (hbl.mono HBX.out.size)); clear hnew hst hbl; dsimp only [Pw.v])
    | (at_builtin; refine append_steps (by rfl) (.tmp 43) (.tmp 46) (by rfl) W0.heap.size _ 3 outs3 (by rfl) (by exact (HBP.out.below (HL8.out.alloc HL8.out.size _)).made.own) (some ⟨w8.heap.size, 0, none⟩) 1 1 [⟨e8, a8, n8, c8, p8, y8, d8⟩] (by rfl) (by exact Ps.newc [⟨e8, a8, n8, c8, p8, y8, d8⟩] (by intro x hx; rw [List.mem_singleton.1 hx]; exact HX8.out.1.1) (by unfold maxLen; simp) rfl rfl rfl) 4 (by omega) (by omega) (by have := HB8.out.size; simp; omega) ?_; intro a9 c9 w9 hown9 hb9 hgrow9 hnil9)
    | fail)
  go_ret
  refine ⟨a9, 4, c9, _, rfl, (HBP.out.push (HL8.out.alloc HL8.out.size _) (fun x hx => by rw [List.mem_singleton.1 hx]; exact HX8.out.below ((Below.refl _ w8).alloc (Nat.le_refl _) _)) (List.pairwise_singleton _ _) (by rw [HBP.out.made.len]; rfl) hown9 hb9 hgrow9).from HW.out, ?_, hnil9⟩
  rw [stps_app, HST.out]
  show _ ++ [(⟨e8, a8, n8, c8, p8, y8, d8⟩ : Pw).s] = _
  rw [HT8.out]
  rw [List.append_assoc]; rfl

theorem base_turn (c : Cw) (qa : Option Addr) (qn qc : Nat) (rest : List Int) (w : World) (hc : c.Good w) (hq : Sl .i64 w qa qn qc rest) (h2 : 2 ≤ qn) (he : rest.getD 0 0 ≠ rest.getD 1 0) :
    Calls Try.prog 36 #[c.v, .slice qa qn qc] w fun e w' => BaseIs w w' e (Stp.one c.c rest ++ Stp.two c.c rest ++ [⟨0, [], true, Stp.more c.c⟩]) := by
  have hmx : Try.prog.follows .mixedOrders = true := by kernel_rfl
  obtain ⟨cm, cl, co, ct, ra, rn, rcap, xs⟩ := c
  have HCW := Lib.hid hc
  have HQ := Lib.hid hq
  have hqc := hq.2.1
  have hqm := hq.2.2.1
  unfold maxLen at hqm
  clear hc hq
  show Calls _ _ #[.agg #[.int .u64 cm, .int .u64 cl, .int .u64 co, .int .u64 ct, .slice ra rn rcap], .slice qa qn qc] w _
  go_enter Try.func36, Try.ntmps36
  go_wp2
  obtain ⟨W0, hW0⟩ : ∃ W0, W0 = w.alloc (.cells #[.int .u64 cm, .int .u64 cl, .int .u64 co, .int .u64 ct, .slice ra rn rcap] 25) := ⟨_, rfl⟩
  have HKP : Hid (∀ W, Below W0.heap.size W0 W → W.cell? ⟨w.heap.size, 0, none⟩ = some (.int .u64 cm) ∧ W.cell? ⟨w.heap.size, 1, none⟩ = some (.int .u64 cl) ∧ W.cell? ⟨w.heap.size, 2, none⟩ = some (.int .u64 co) ∧ W.cell? ⟨w.heap.size, 3, none⟩ = some (.int .u64 ct) ∧ W.cell? ⟨w.heap.size, 4, none⟩ = some (.slice ra rn rcap)) := Lib.hid fun W hb => by
    have h := (hb.block w.heap.size (by rw [hW0]; simp)).trans (show W0.heap[w.heap.size]? = some (.cells #[.int .u64 cm, .int .u64 cl, .int .u64 co, .int .u64 ct, .slice ra rn rcap] 25 (0, 0)) by rw [hW0]; exact heap_alloc_new w _)
    refine ⟨?_, ?_, ?_, ?_, ?_⟩ <;> (rw [cell_of_row W _ _ _ _ _ h]; rfl)
  have HZ0 : Hid (w.heap.size ≤ W0.heap.size) := Lib.hid (by rw [hW0]; simp)
  have HW : Hid (Below w.heap.size w W0) := Lib.hid (by rw [hW0]; exact (Below.refl _ w).alloc (Nat.le_refl _) _)
  have HCG : Hid (∀ W, Below W0.heap.size W0 W → (⟨cm, cl, co, ct, ra, rn, rcap, xs⟩ : Cw).Good W) := Lib.hid fun W hb => HCW.out.below (HW.out.trans (hb.mono HZ0.out)) (Nat.le_refl _)
  have HQ0 := Lib.hid (HQ.out.below HW.out (Nat.le_refl _))
  obtain ⟨qb, qo, rfl, hqb, hqcl⟩ := HQ0.out.at (by omega)
  obtain ⟨z0, hz0⟩ : ∃ z, z = rest.getD 0 0 := ⟨_, rfl⟩
  have hq0 := hqcl 0 (by omega)
  rw [← hz0, Nat.add_zero] at hq0
  obtain ⟨z1, hz1⟩ : ∃ z, z = rest.getD 1 0 := ⟨_, rfl⟩
  have hq1 := hqcl 1 (by omega)
  rw [← hz1] at hq1
  have hwf : ∀ k, k < qn → (Lit.int .i64 (rest.getD k 0)).wf = true := fun k hk => HQ.out.2.2.2.1 _ (by
    rw [List.getD_eq_getElem?_getD, List.getElem?_eq_getElem (by rw [HQ.out.1]; exact hk), Option.getD_some]; exact List.getElem_mem _)
  have HZW : Hid ((Lit.int .i64 z0).wf = true ∧ (Lit.int .i64 z1).wf = true) := Lib.hid ⟨by rw [hz0]; exact hwf 0 (by omega), by rw [hz1]; exact hwf 1 (by omega)⟩
  have HKQ : Hid (∀ W, Below W0.heap.size W0 W → W.cell? ⟨w.heap.size, 0, none⟩ = some (.int .u64 cm) ∧ W.cell? ⟨w.heap.size, 1, none⟩ = some (.int .u64 cl) ∧ W.cell? ⟨w.heap.size, 2, none⟩ = some (.int .u64 co) ∧ W.cell? ⟨w.heap.size, 3, none⟩ = some (.int .u64 ct) ∧ W.cell? ⟨w.heap.size, 4, none⟩ = some (.slice ra rn rcap) ∧ W.cell? ⟨qb, qo, none⟩ = some (.int .i64 z0) ∧ W.cell? ⟨qb, qo + 1, none⟩ = some (.int .i64 z1)) := Lib.hid fun W hb => by
    obtain ⟨k0, k1, k2, k3, k4⟩ := HKP.out W hb
    exact ⟨k0, k1, k2, k3, k4, (hb.cell (p := ⟨qb, qo, none⟩) hqb).trans hq0, (hb.cell (p := ⟨qb, qo + 1, none⟩) hqb).trans hq1⟩
  have HLEN : Hid (rest.length = qn) := HQ.out.1
  have HE0 := Lib.hid hz0
  have HE1 := Lib.hid hz1
  have hlq : (0 : Int) < (qc : Int) := by omega
  have hlt : (0 : Int) < (qn : Int) := by omega
  have hlt1 : (1 : Int) < (qn : Int) := by omega
  have hlt2 : decide ((1 : Int) < (qn : Int)) = true := decide_eq_true hlt1
  have HBA : Hid (Below W0.heap.size W0 W0.drew) := Lib.hid (below_drawn (Below.refl _ _) ⟨1, rfl⟩)
  have HBP : Hid (BaseP W0 W0 none 0 0 []) := Lib.hid (BaseP.start W0 W0 (Below.refl _ _))
  rw [← hW0]
  clear hW0 hqcl hq0 hwf hz0 hq1 hz1
  go_wp2
  refine wp_region_held_drew (S := (fun W => W.cell? ⟨w.heap.size, 0, none⟩ = some (.int .u64 cm) ∧ W.cell? ⟨w.heap.size, 1, none⟩ = some (.int .u64 cl) ∧ W.cell? ⟨w.heap.size, 2, none⟩ = some (.int .u64 co) ∧ W.cell? ⟨w.heap.size, 3, none⟩ = some (.int .u64 ct) ∧ W.cell? ⟨w.heap.size, 4, none⟩ = some (.slice ra rn rcap) ∧ W.cell? ⟨qb, qo, none⟩ = some (.int .i64 z0) ∧ W.cell? ⟨qb, qo + 1, none⟩ = some (.int .i64 z1))) (by kernel_rfl) (by first | (exact HKQ.out _ (by first | exact HBF.out | exact HBE.out _ | exact HBD.out | exact HBC.out | exact HBB.out | exact HBA.out)) | ((try dsimp only); exact HKQ.out _ (by first | exact HBF.out | exact HBE.out _ | exact HBD.out | exact HBC.out | exact HBB.out | exact HBA.out))) (fun hHeld => ?_)
  refine wpAnyH_take (i := 0) (v := ?vk1) rfl (by kernel_rfl) (by kernel_rfl) (by kernel_rfl) (fun _ _ _ h => h) (Or.inl ⟨by rfl, ?hk1⟩) (by assumption) ?rk1
  case hk1 => intro w hSw; (try dsimp only at hSw); go_simp; try with_reducible rfl
  simp only [Act.put, List.getElem_toArray, List.getElem_cons_succ, List.getElem_cons_zero, List.setIfInBounds_toArray, List.set_cons_succ, List.set_cons_zero]
  refine wpAnyH_take (i := 1) (v := ?vk4) rfl (by kernel_rfl) (by kernel_rfl) (by kernel_rfl) (fun _ _ _ h => h) (Or.inl ⟨by rfl, ?hk4⟩) (by assumption) ?rk4
  case hk4 => intro w hSw; (try dsimp only at hSw); go_simp; try with_reducible rfl
  simp only [Act.put, List.getElem_toArray, List.getElem_cons_succ, List.getElem_cons_zero, List.setIfInBounds_toArray, List.set_cons_succ, List.set_cons_zero]
  refine wpAnyH_take (i := 2) (v := ?vk7) rfl (by kernel_rfl) (by kernel_rfl) (by kernel_rfl) (fun _ _ _ h => h) (Or.inl ⟨by rfl, ?hk7⟩) (by assumption) ?rk7
  case hk7 => intro w hSw; (try dsimp only at hSw); go_simp; try with_reducible rfl
  simp only [Act.put, List.getElem_toArray, List.getElem_cons_succ, List.getElem_cons_zero, List.setIfInBounds_toArray, List.set_cons_succ, List.set_cons_zero]
  refine wpAnyH_take (i := 3) (v := ?vk10) rfl (by kernel_rfl) (by kernel_rfl) (by kernel_rfl) (fun _ _ _ h => h) (Or.inl ⟨by rfl, ?hk10⟩) (by assumption) ?rk10
  case hk10 => intro w hSw; (try dsimp only at hSw); go_simp; try with_reducible rfl
  simp only [Act.put, List.getElem_toArray, List.getElem_cons_succ, List.getElem_cons_zero, List.setIfInBounds_toArray, List.set_cons_succ, List.set_cons_zero]
  refine wpAnyH_take (i := 5) (v := ?vk13) rfl (by kernel_rfl) (by kernel_rfl) (by kernel_rfl) (fun _ _ _ h => h) (Or.inl ⟨by rfl, ?hk13⟩) (by assumption) ?rk13
  case hk13 => intro w hSw; (try dsimp only at hSw); go_simp; try with_reducible rfl
  simp only [Act.put, List.getElem_toArray, List.getElem_cons_succ, List.getElem_cons_zero, List.setIfInBounds_toArray, List.set_cons_succ, List.set_cons_zero]
  refine wpAnyH_take (i := 7) (v := ?vk16) rfl (by kernel_rfl) (by kernel_rfl) (by kernel_rfl) (fun _ _ _ h => h) (Or.inl ⟨by rfl, ?hk16⟩) (by assumption) ?rk16
  case hk16 => intro w hSw; (try dsimp only at hSw); go_simp; try with_reducible rfl
  simp only [Act.put, List.getElem_toArray, List.getElem_cons_succ, List.getElem_cons_zero, List.setIfInBounds_toArray, List.set_cons_succ, List.set_cons_zero]
  refine wpAnyH_ready (rs := [4]) (by kernel_rfl) (by simp) ?_
  refine AllReadyH.cons rfl (fun K hK => ?_) AllReadyH.nil
  go_simp
  refine (same_one_is z0 _ HZW.out.1).mono ?_
  rintro e w1 ⟨⟨e0, a0, n0, c0, p0, y0, d0⟩, rfl, hnew, hst, hbl⟩
  have HX0 := Lib.hid hnew
  have HT0 := Lib.hid hst
  have HL0 := Lib.hid hbl
  have HBB : Hid (Below W0.heap.size W0 w1) := Lib.hid (HBA.out.trans (hbl.mono HBA.out.size))
  clear hnew hst hbl
  dsimp only [Pw.v]
  refine hK.out _ _ (by first | (exact HKQ.out _ (by first | exact HBF.out | exact HBE.out _ | exact HBD.out | exact HBC.out | exact HBB.out | exact HBA.out)) | ((try dsimp only); exact HKQ.out _ (by first | exact HBF.out | exact HBE.out _ | exact HBD.out | exact HBC.out | exact HBB.out | exact HBA.out))) (fun hHeld => ?_)
  clear hK K
  try simp only [Act.put, List.getElem_toArray, List.getElem_cons_succ, List.getElem_cons_zero, List.setIfInBounds_toArray, List.set_cons_succ, List.set_cons_zero]
  refine wpAnyH_ready (rs := [6]) (by kernel_rfl) (by simp) ?_
  refine AllReadyH.cons rfl (fun K hK => ?_) AllReadyH.nil
  go_simp
  refine (other17_is ⟨cm, cl, co, ct, ra, rn, rcap, xs⟩ _ (HCG.out _ HBB.out)).mono ?_
  rintro e w2 ⟨⟨e1, a1, n1, c1, p1, y1, d1⟩, rfl, hnew, hst, hbl⟩
  have HX1 := Lib.hid hnew
  have HT1 := Lib.hid hst
  have HL1 := Lib.hid hbl
  have HBC : Hid (Below W0.heap.size W0 w2) := Lib.hid (HBB.out.trans (hbl.mono HBB.out.size))
  clear hnew hst hbl
  dsimp only [Pw.v]
  refine hK.out _ _ (by first | (exact HKQ.out _ (by first | exact HBF.out | exact HBE.out _ | exact HBD.out | exact HBC.out | exact HBB.out | exact HBA.out)) | ((try dsimp only); exact HKQ.out _ (by first | exact HBF.out | exact HBE.out _ | exact HBD.out | exact HBC.out | exact HBB.out | exact HBA.out))) (fun hHeld => ?_)
  clear hK K
  try simp only [Act.put, List.getElem_toArray, List.getElem_cons_succ, List.getElem_cons_zero, List.setIfInBounds_toArray, List.set_cons_succ, List.set_cons_zero]
  refine wpAnyH_ready (rs := [8]) (by kernel_rfl) (by simp) ?_
  refine AllReadyH.cons rfl (fun K hK => ?_) AllReadyH.nil
  go_simp
  refine (less17_is ⟨cm, cl, co, ct, ra, rn, rcap, xs⟩ _ (HCG.out _ HBC.out)).mono ?_
  rintro e w3 ⟨⟨e2, a2, n2, c2, p2, y2, d2⟩, rfl, hnew, hst, hbl⟩
  have HX2 := Lib.hid hnew
  have HT2 := Lib.hid hst
  have HL2 := Lib.hid hbl
  have HBD : Hid (Below W0.heap.size W0 w3) := Lib.hid (HBC.out.trans (hbl.mono HBC.out.size))
  clear hnew hst hbl
  dsimp only [Pw.v]
  have HLV : Hid (Below W0.heap.size W0 w3) := HBD
  refine hK.out _ _ (by first | (exact HKQ.out _ (by first | exact HBF.out | exact HBE.out _ | exact HBD.out | exact HBC.out | exact HBB.out | exact HBA.out)) | ((try dsimp only); exact HKQ.out _ (by first | exact HBF.out | exact HBE.out _ | exact HBD.out | exact HBC.out | exact HBB.out | exact HBA.out))) (fun hHeld => ?_)
  clear hK K
  try simp only [Act.put, List.getElem_toArray, List.getElem_cons_succ, List.getElem_cons_zero, List.setIfInBounds_toArray, List.set_cons_succ, List.set_cons_zero]
  refine wpAnyH_ready (rs := [9]) (by kernel_rfl) (by simp) ?_
  refine AllReadyH.cons rfl (fun K hK => ?_) AllReadyH.nil
  go_simp
  have HBE : Hid (∀ o, Below W0.heap.size W0 (w3.alloc o)) := Lib.hid fun o => HBD.out.alloc HBD.out.size _
  have HLIT : Hid (∀ x ∈ ([⟨e0, a0, n0, c0, p0, y0, d0⟩, ⟨e1, a1, n1, c1, p1, y1, d1⟩, ⟨e2, a2, n2, c2, p2, y2, d2⟩] : List Pw), x.New W0 w3) := Lib.hid (by
    intro x hx
    simp only [List.mem_cons, List.not_mem_nil, or_false] at hx
    rcases hx with rfl | rfl | rfl
    · exact ((HX0.out.below HL1.out).below HL2.out).from (Nat.le_refl _)
    · exact (HX1.out.below HL2.out).from HBB.out.size
    · exact HX2.out.from HBC.out.size)
  refine hK.out _ _ (by first | (exact HKQ.out _ (by first | exact HBF.out | exact HBE.out _ | exact HBD.out | exact HBC.out | exact HBB.out | exact HBA.out)) | ((try dsimp only); exact HKQ.out _ (by first | exact HBF.out | exact HBE.out _ | exact HBD.out | exact HBC.out | exact HBB.out | exact HBA.out))) (fun hHeld => ?_)
  clear hK K
  try simp only [Act.put, List.getElem_toArray, List.getElem_cons_succ, List.getElem_cons_zero, List.setIfInBounds_toArray, List.set_cons_succ, List.set_cons_zero]
  refine wpAnyH_ready (rs := [10]) (by kernel_rfl) (by simp) ?_
  refine AllReadyH.cons rfl (fun K hK => ?_) AllReadyH.nil
  refine step_append_steps (by rfl) (.tmp 9) (.tmp 18) (by rfl) W0.heap.size _ 0 [] (by rfl) (by exact (HBP.out.below (HLV.out.alloc HLV.out.size _)).made.own) (some ⟨w3.heap.size, 0, none⟩) 3 3 ([⟨e0, a0, n0, c0, p0, y0, d0⟩, ⟨e1, a1, n1, c1, p1, y1, d1⟩, ⟨e2, a2, n2, c2, p2, y2, d2⟩] : List Pw) (by rfl) (by exact Ps.newc ([⟨e0, a0, n0, c0, p0, y0, d0⟩, ⟨e1, a1, n1, c1, p1, y1, d1⟩, ⟨e2, a2, n2, c2, p2, y2, d2⟩] : List Pw) (fun x hx => (HLIT.out x hx).1.1) (by unfold maxLen; simp) rfl rfl rfl) 3 (by omega) (by omega) (HBE.out _).size (Below.refl _ _) ?_
  intro a5 c5 w5 hown5 hb5 hgrow5 hnil5
  have HBF : Hid (Below W0.heap.size W0 w5) := Lib.hid ((HBE.out _).trans hb5)
  have HBQ : Hid (BaseP W0 w5 a5 3 c5 ([] ++ ([⟨e0, a0, n0, c0, p0, y0, d0⟩, ⟨e1, a1, n1, c1, p1, y1, d1⟩, ⟨e2, a2, n2, c2, p2, y2, d2⟩] : List Pw))) := Lib.hid (HBP.out.push (HLV.out.alloc HLV.out.size _) (fun x hx => (HLIT.out x hx).below ((Below.refl _ w3).alloc (Nat.le_refl _) _)) (List.pairwise_cons.2 ⟨fun y hy => by simp only [List.mem_cons, List.not_mem_nil, or_false] at hy; rcases hy with rfl | rfl; exact Pw.New.apart (W2 := w2) HX0.out.1 HX1.out; exact Pw.New.apart (W2 := w3) (HX0.out.below HL1.out).1 HX2.out, List.pairwise_cons.2 ⟨fun y hy => by rw [List.mem_singleton.1 hy]; exact Pw.New.apart (W2 := w3) HX1.out.1 HX2.out, List.pairwise_singleton _ _⟩⟩) (by rw [HBP.out.made.len]; rfl) hown5 hb5 hgrow5)
  clear hown5 hb5 hgrow5 hnil5
  refine hK.out _ _ (by first | (exact HKQ.out _ (by first | exact HBF.out | exact HBE.out _ | exact HBD.out | exact HBC.out | exact HBB.out | exact HBA.out)) | ((try dsimp only); exact HKQ.out _ (by first | exact HBF.out | exact HBE.out _ | exact HBD.out | exact HBC.out | exact HBB.out | exact HBA.out))) (fun hHeld => ?_)
  clear hK K
  try simp only [Act.put, List.getElem_toArray, List.getElem_cons_succ, List.getElem_cons_zero, List.setIfInBounds_toArray, List.set_cons_succ, List.set_cons_zero]
  refine wpAnyH_take (i := 11) (v := ?vk86) rfl (by kernel_rfl) (by kernel_rfl) (by kernel_rfl) (fun _ _ _ h => h) (Or.inl ⟨by rfl, ?hk86⟩) (by assumption) ?rk86
  case hk86 => intro w hSw; (try dsimp only at hSw); go_simp; try with_reducible rfl
  simp only [Act.put, List.getElem_toArray, List.getElem_cons_succ, List.getElem_cons_zero, List.setIfInBounds_toArray, List.set_cons_succ, List.set_cons_zero]
  refine wpAnyH_done (by kernel_rfl) ?_ _
  have HST3 : Hid (stps ([] ++ ([⟨e0, a0, n0, c0, p0, y0, d0⟩, ⟨e1, a1, n1, c1, p1, y1, d1⟩, ⟨e2, a2, n2, c2, p2, y2, d2⟩] : List Pw)) = [⟨1, [z0], false, 0⟩, ⟨1, [], true, co⟩, ⟨1, [], false, cl⟩]) := Lib.hid (by
    show [(Pw.s _), (Pw.s _), (Pw.s _)] = _
    rw [HT0.out, HT1.out, HT2.out])
  generalize ([] ++ ([⟨e0, a0, n0, c0, p0, y0, d0⟩, ⟨e1, a1, n1, c1, p1, y1, d1⟩, ⟨e2, a2, n2, c2, p2, y2, d2⟩] : List Pw) : List Pw) = outs3 at HBQ HST3
  clear HX0 HX1 HX2 HT0 HT1 HT2 HL0 HL1 HL2 HBB HBC HBD HBE HLIT HLV HBP hHeld
  have HNE : Hid (z0 ≠ z1) := Lib.hid (by rw [HE0.out, HE1.out]; exact he)
  have HEE := Lib.hid he
  clear he
  obtain ⟨k0, k1, k2, k3, k4, k5, k6⟩ := HKQ.out _ HBF.out
  have hzz : (z0 == z1) = false := by simpa using HNE.out
  have hzn : (z0 != z1) = true := by simpa using HNE.out
  have hzd : decide (z0 = z1) = false := decide_eq_false HNE.out
  clear HBA
  go_wp2
  go_quiet (fail)
  generalize hV0 : w5.drewN nq = V0
  have HBV : Hid (Below W0.heap.size W0 V0) := Lib.hid (by rw [← hV0]; exact below_drawn HBF.out ⟨_, rfl⟩)
  have HBP : Hid (BaseP W0 V0 a5 3 c5 outs3) := Lib.hid (by rw [← hV0]; exact HBQ.out.below (below_drawn (Below.refl _ _) ⟨_, rfl⟩))
  have HVD : Hid (Below V0.heap.size V0 V0.drew) := Lib.hid (below_drawn (Below.refl _ _) ⟨1, rfl⟩)
  have HBA : Hid (Below W0.heap.size W0 V0.drew) := Lib.hid (below_drawn HBV.out ⟨1, rfl⟩)
  clear hV0 HBQ HBF k0 k1 k2 k3 k4 k5 k6
  go_wp2
  refine wp_region_held_drew (S := (fun W => W.cell? ⟨w.heap.size, 0, none⟩ = some (.int .u64 cm) ∧ W.cell? ⟨w.heap.size, 1, none⟩ = some (.int .u64 cl) ∧ W.cell? ⟨w.heap.size, 2, none⟩ = some (.int .u64 co) ∧ W.cell? ⟨w.heap.size, 3, none⟩ = some (.int .u64 ct) ∧ W.cell? ⟨w.heap.size, 4, none⟩ = some (.slice ra rn rcap) ∧ W.cell? ⟨qb, qo, none⟩ = some (.int .i64 z0) ∧ W.cell? ⟨qb, qo + 1, none⟩ = some (.int .i64 z1))) (by kernel_rfl) (by first | (exact HKQ.out _ (by first | exact HBF.out | exact HBE.out _ | exact HBD.out | exact HBC.out | exact HBB.out | exact HBA.out)) | ((try dsimp only); exact HKQ.out _ (by first | exact HBF.out | exact HBE.out _ | exact HBD.out | exact HBC.out | exact HBB.out | exact HBA.out))) (fun hHeld => ?_)
  refine wpAnyH_take (i := 0) (v := ?vl1) rfl (by kernel_rfl) (by kernel_rfl) (by kernel_rfl) (fun _ _ _ h => h) (Or.inl ⟨by rfl, ?hl1⟩) (by assumption) ?rl1
  case hl1 => intro w hSw; (try dsimp only at hSw); go_simp; try with_reducible rfl
  simp only [Act.put, List.getElem_toArray, List.getElem_cons_succ, List.getElem_cons_zero, List.setIfInBounds_toArray, List.set_cons_succ, List.set_cons_zero]
  refine wpAnyH_take (i := 1) (v := ?vl4) rfl (by kernel_rfl) (by kernel_rfl) (by kernel_rfl) (fun _ _ _ h => h) (Or.inl ⟨by rfl, ?hl4⟩) (by assumption) ?rl4
  case hl4 => intro w hSw; (try dsimp only at hSw); go_simp; try with_reducible rfl
  simp only [Act.put, List.getElem_toArray, List.getElem_cons_succ, List.getElem_cons_zero, List.setIfInBounds_toArray, List.set_cons_succ, List.set_cons_zero]
  refine wpAnyH_take (i := 2) (v := ?vl7) rfl (by kernel_rfl) (by kernel_rfl) (by kernel_rfl) (fun _ _ _ h => h) (Or.inl ⟨by rfl, ?hl7⟩) (by assumption) ?rl7
  case hl7 => intro w hSw; (try dsimp only at hSw); go_simp; try with_reducible rfl
  simp only [Act.put, List.getElem_toArray, List.getElem_cons_succ, List.getElem_cons_zero, List.setIfInBounds_toArray, List.set_cons_succ, List.set_cons_zero]
  refine wpAnyH_take (i := 3) (v := ?vl10) rfl (by kernel_rfl) (by kernel_rfl) (by kernel_rfl) (fun _ _ _ h => h) (Or.inl ⟨by rfl, ?hl10⟩) (by assumption) ?rl10
  case hl10 => intro w hSw; (try dsimp only at hSw); go_simp; try with_reducible rfl
  simp only [Act.put, List.getElem_toArray, List.getElem_cons_succ, List.getElem_cons_zero, List.setIfInBounds_toArray, List.set_cons_succ, List.set_cons_zero]
  refine wpAnyH_take (i := 4) (v := ?vl13) rfl (by kernel_rfl) (by kernel_rfl) (by kernel_rfl) (fun _ _ _ h => h) (Or.inl ⟨by rfl, ?hl13⟩) (by assumption) ?rl13
  case hl13 => intro w hSw; (try dsimp only at hSw); go_simp; try with_reducible rfl
  simp only [Act.put, List.getElem_toArray, List.getElem_cons_succ, List.getElem_cons_zero, List.setIfInBounds_toArray, List.set_cons_succ, List.set_cons_zero]
  refine wpAnyH_take (i := 5) (v := ?vl16) rfl (by kernel_rfl) (by kernel_rfl) (by kernel_rfl) (fun _ _ _ h => h) (Or.inl ⟨by rfl, ?hl16⟩) (by assumption) ?rl16
  case hl16 => intro w hSw; (try dsimp only at hSw); go_simp; try with_reducible rfl
  simp only [Act.put, List.getElem_toArray, List.getElem_cons_succ, List.getElem_cons_zero, List.setIfInBounds_toArray, List.set_cons_succ, List.set_cons_zero]
  refine wpAnyH_take (i := 6) (v := ?vl19) rfl (by kernel_rfl) (by kernel_rfl) (by kernel_rfl) (fun _ _ _ h => h) (Or.inl ⟨by rfl, ?hl19⟩) (by assumption) ?rl19
  case hl19 => intro w hSw; (try dsimp only at hSw); go_simp; try with_reducible rfl
  simp only [Act.put, List.getElem_toArray, List.getElem_cons_succ, List.getElem_cons_zero, List.setIfInBounds_toArray, List.set_cons_succ, List.set_cons_zero]
  refine wpAnyH_take (i := 7) (v := ?vl22) rfl (by kernel_rfl) (by kernel_rfl) (by kernel_rfl) (fun _ _ _ h => h) (Or.inl ⟨by rfl, ?hl22⟩) (by assumption) ?rl22
  case hl22 => intro w hSw; (try dsimp only at hSw); go_simp; try with_reducible rfl
  simp only [Act.put, List.getElem_toArray, List.getElem_cons_succ, List.getElem_cons_zero, List.setIfInBounds_toArray, List.set_cons_succ, List.set_cons_zero]
  refine wpAnyH_ready (rs := [8]) (by kernel_rfl) (by simp) ?_
  refine AllReadyH.cons rfl (fun K hK => ?_) AllReadyH.nil
  go_simp
  refine (turned_one_is ⟨cm, cl, co, ct, ra, rn, rcap, xs⟩ z0 z1 _ (HCG.out _ HBA.out) HZW.out.1 HZW.out.2).mono ?_
  rintro e w1 ⟨⟨e6, a6, n6, c6, p6, y6, d6⟩, rfl, hnew, hst, hbl⟩
  have HX6 := Lib.hid hnew
  have HT6 := Lib.hid hst
  have HL6 := Lib.hid hbl
  have HBD : Hid (Below W0.heap.size W0 w1) := Lib.hid (HBA.out.trans (hbl.mono HBA.out.size))
  clear hnew hst hbl
  dsimp only [Pw.v]
  have HLV : Hid (Below V0.heap.size V0 w1) := Lib.hid (HVD.out.trans (HL6.out.mono HVD.out.size))
  refine hK.out _ _ (by first | (exact HKQ.out _ (by first | exact HBF.out | exact HBE.out _ | exact HBD.out | exact HBC.out | exact HBB.out | exact HBA.out)) | ((try dsimp only); exact HKQ.out _ (by first | exact HBF.out | exact HBE.out _ | exact HBD.out | exact HBC.out | exact HBB.out | exact HBA.out))) (fun hHeld => ?_)
  clear hK K
  try simp only [Act.put, List.getElem_toArray, List.getElem_cons_succ, List.getElem_cons_zero, List.setIfInBounds_toArray, List.set_cons_succ, List.set_cons_zero]
  refine wpAnyH_ready (rs := [9]) (by kernel_rfl) (by simp) ?_
  refine AllReadyH.cons rfl (fun K hK => ?_) AllReadyH.nil
  go_simp
  have HBE : Hid (∀ o, Below W0.heap.size W0 (w1.alloc o)) := Lib.hid fun o => HBD.out.alloc HBD.out.size _
  have HLIT : Hid (∀ x ∈ ([⟨e6, a6, n6, c6, p6, y6, d6⟩] : List Pw), x.New V0 w1) := Lib.hid (by
    intro x hx
    simp only [List.mem_cons, List.not_mem_nil, or_false] at hx
    rw [hx]
    exact HX6.out.from HVD.out.size)
  refine hK.out _ _ (by first | (exact HKQ.out _ (by first | exact HBF.out | exact HBE.out _ | exact HBD.out | exact HBC.out | exact HBB.out | exact HBA.out)) | ((try dsimp only); exact HKQ.out _ (by first | exact HBF.out | exact HBE.out _ | exact HBD.out | exact HBC.out | exact HBB.out | exact HBA.out))) (fun hHeld => ?_)
  clear hK K
  try simp only [Act.put, List.getElem_toArray, List.getElem_cons_succ, List.getElem_cons_zero, List.setIfInBounds_toArray, List.set_cons_succ, List.set_cons_zero]
  refine wpAnyH_ready (rs := [10]) (by kernel_rfl) (by simp) ?_
  refine AllReadyH.cons rfl (fun K hK => ?_) AllReadyH.nil
  refine step_append_steps (by rfl) (.tmp 32) (.tmp 41) (by rfl) W0.heap.size _ 3 outs3 (by rfl) (by exact (HBP.out.below (HLV.out.alloc HLV.out.size _)).made.own) (some ⟨w1.heap.size, 0, none⟩) 1 1 ([⟨e6, a6, n6, c6, p6, y6, d6⟩] : List Pw) (by rfl) (by exact Ps.newc ([⟨e6, a6, n6, c6, p6, y6, d6⟩] : List Pw) (fun x hx => (HLIT.out x hx).1.1) (by unfold maxLen; simp) rfl rfl rfl) 4 (by omega) (by omega) (HBE.out _).size (Below.refl _ _) ?_
  intro a5 c5 w5 hown5 hb5 hgrow5 hnil5
  have HBF : Hid (Below W0.heap.size W0 w5) := Lib.hid ((HBE.out _).trans hb5)
  have HBQ : Hid (BaseP W0 w5 a5 4 c5 (outs3 ++ ([⟨e6, a6, n6, c6, p6, y6, d6⟩] : List Pw))) := Lib.hid (HBP.out.push (HLV.out.alloc HLV.out.size _) (fun x hx => (HLIT.out x hx).below ((Below.refl _ w1).alloc (Nat.le_refl _) _)) (List.pairwise_singleton _ _) (by rw [HBP.out.made.len]; rfl) hown5 hb5 hgrow5)
  clear hown5 hb5 hgrow5 hnil5
  refine hK.out _ _ (by first | (exact HKQ.out _ (by first | exact HBF.out | exact HBE.out _ | exact HBD.out | exact HBC.out | exact HBB.out | exact HBA.out)) | ((try dsimp only); exact HKQ.out _ (by first | exact HBF.out | exact HBE.out _ | exact HBD.out | exact HBC.out | exact HBB.out | exact HBA.out))) (fun hHeld => ?_)
  clear hK K
  try simp only [Act.put, List.getElem_toArray, List.getElem_cons_succ, List.getElem_cons_zero, List.setIfInBounds_toArray, List.set_cons_succ, List.set_cons_zero]
  refine wpAnyH_take (i := 11) (v := ?vl62) rfl (by kernel_rfl) (by kernel_rfl) (by kernel_rfl) (fun _ _ _ h => h) (Or.inl ⟨by rfl, ?hl62⟩) (by assumption) ?rl62
  case hl62 => intro w hSw; (try dsimp only at hSw); go_simp; try with_reducible rfl
  simp only [Act.put, List.getElem_toArray, List.getElem_cons_succ, List.getElem_cons_zero, List.setIfInBounds_toArray, List.set_cons_succ, List.set_cons_zero]
  refine wpAnyH_done (by kernel_rfl) ?_ _
  have HBX : Hid (Below W0.heap.size W0 w5) := HBF
  have HST : Hid (stps (outs3 ++ ([⟨e6, a6, n6, c6, p6, y6, d6⟩] : List Pw)) = Stp.one (Cw.c ⟨cm, cl, co, ct, ra, rn, rcap, xs⟩) rest ++ Stp.two (Cw.c ⟨cm, cl, co, ct, ra, rn, rcap, xs⟩) rest) := Lib.hid (by
    rw [stps_app, HST3.out, Stp.one_is _ (by rw [HLEN.out]; omega), Stp.two_is, if_pos (unlike_yes (by rw [HLEN.out]; exact h2) HEE.out), ← HE0.out, ← HE1.out]
    show _ ++ [Pw.s _] = _
    rw [HT6.out]; rfl)
  generalize hG : outs3 ++ ([⟨e6, a6, n6, c6, p6, y6, d6⟩] : List Pw) = outs4 at HBQ HST
  clear HBP HLIT HLV HX6 HT6 HL6 hHeld hG
  have HBP := HBQ
  clear HBQ
  obtain ⟨k0, k1, k2, k3, k4⟩ := HKP.out _ HBX.out
  go_wp2_with (first
    | (go_at_call 53; refine (more17_is ⟨cm, cl, co, ct, ra, rn, rcap, xs⟩ _ (HCG.out _ HBX.out)).mono ?_; rintro e w8 ⟨⟨e8, a8, n8, c8, p8, y8, d8⟩, rfl, hnew, hst, hbl⟩; have HX8 := Lib.hid hnew; have HT8 := Lib.hid hst; have HL8 := Lib.hid hbl; have HB8 : Hid (Below W0.heap.size W0 w8) := Lib.hid (HBX.out.trans (hbl.mono HBX.out.size)); clear hnew hst hbl; dsimp only [Pw.v])
    | (at_builtin; refine append_steps (by rfl) (.tmp 43) (.tmp 46) (by rfl) W0.heap.size _ 4 outs4 (by rfl) (by exact (HBP.out.below (HL8.out.alloc HL8.out.size _)).made.own) (some ⟨w8.heap.size, 0, none⟩) 1 1 [⟨e8, a8, n8, c8, p8, y8, d8⟩] (by rfl) (by exact Ps.newc [⟨e8, a8, n8, c8, p8, y8, d8⟩] (by intro x hx; rw [List.mem_singleton.1 hx]; exact HX8.out.1.1) (by unfold maxLen; simp) rfl rfl rfl) 5 (by omega) (by omega) (by have := HB8.out.size; simp; omega) ?_; intro a9 c9 w9 hown9 hb9 hgrow9 hnil9)
    | fail)
  go_ret
  refine ⟨a9, 5, c9, _, rfl, (HBP.out.push (HL8.out.alloc HL8.out.size _) (fun x hx => by rw [List.mem_singleton.1 hx]; exact HX8.out.below ((Below.refl _ w8).alloc (Nat.le_refl _) _)) (List.pairwise_singleton _ _) (by rw [HBP.out.made.len]; rfl) hown9 hb9 hgrow9).from HW.out, ?_, hnil9⟩
  rw [stps_app, HST.out]
  show _ ++ [(⟨e8, a8, n8, c8, p8, y8, d8⟩ : Pw).s] = _
  rw [HT8.out]
  rw [List.append_assoc]; rfl

theorem base_is (c : Cw) (qa : Option Addr) (qn qc : Nat) (rest : List Int) (w : World) (hc : c.Good w) (hq : Sl .i64 w qa qn qc rest) :
    Calls Try.prog 36 #[c.v, .slice qa qn qc] w fun e w' => BaseIs w w' e (Stp.one c.c rest ++ Stp.two c.c rest ++ [⟨0, [], true, Stp.more c.c⟩]) := by
  by_cases h0 : qn = 0
  · subst h0; exact base_none c qa qc rest w hc hq
  · by_cases h1 : qn = 1
    · subst h1; exact base_one c qa qc rest w hc hq
    · by_cases he : rest.getD 0 0 = rest.getD 1 0
      · exact base_same c qa qn qc rest w hc hq (by omega) he
      · exact base_turn c qa qn qc rest w hc hq (by omega) he
end Go.Proofs.Ytpcebfefbnpbpaa
