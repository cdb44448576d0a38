/- The document's Read of layer 7. Written by wip/gen/spec_read.py. -/
import Derived.Test.YtdeicfdbjmpliaaSpecRefR
import Derived.Test.YtdeicfdbjmpliaaPackF
namespace Go.Proofs.Ytdeicfdbjmpliaa
open Go.RowKit

set_option maxRecDepth 100000 in
theorem fieldsA_short : ∀ (b cur : List Int), ∀ x ∈ Line.fieldsA cur b, x.length ≤ cur.length + b.length
  | [], cur, x, hx => by
    unfold Line.fieldsA at hx
    split at hx
    · simp at hx
    · simp only [List.mem_singleton] at hx; subst hx; simp
  | c :: cs, cur, x, hx => by
    unfold Line.fieldsA at hx
    simp only [List.length_cons]
    split at hx
    · split at hx
      · have := fieldsA_short cs [] x hx; simp at this; omega
      · rcases List.mem_cons.1 hx with rfl | hx
        · omega
        · have := fieldsA_short cs [] x hx; simp at this; omega
    · have := fieldsA_short cs (cur ++ [c]) x hx
      simp at this; omega
set_option maxRecDepth 100000 in
theorem fields_short {b : List Int} : ∀ x ∈ Line.fields b, x.length ≤ b.length := fun x hx => by
  have := fieldsA_short b [] x hx
  simpa using this

set_option maxHeartbeats 6400000 in
set_option maxRecDepth 100000 in
theorem rread7_is (a : Option Addr) (n cap : Nat) (zs : List Int) (s : Spec.Sp) (w : World) (hs : Sl .u8 w a n cap zs) (hn : n ≤ 1000) (hr : Spec.read zs = s) :
    Calls Try.prog 11 #[.slice a n cap] w fun e w' => SpecIs w w' e s := by
  obtain ⟨b, hbr⟩ : ∃ b, Line.bare zs = b := ⟨_, rfl⟩
  unfold Spec.read at hr
  rw [hbr] at hr
  have hzl := hs.1
  have HS := Lib.hid hs
  have HA := Lib.hid hbr
  have HI : Hid ((Try.prog.info? 32).map (·.size) = some 2) := info_spec
  have HB : ∀ o, Hid (Below w.heap.size w (w.alloc o) ∧ w.heap.size + 1 ≤ (w.alloc o).heap.size) := fun o => ⟨(Below.refl _ w).alloc (Nat.le_refl _) o, by simp⟩
  have HNW : Hid (∀ o, (w.alloc o).heap[w.heap.size]? = some o) := fun o => heap_alloc_new w o
  have HSHZ : Hid (∀ x ∈ Line.fields zs, x.length ≤ 1000) := fun x hx => by have := fields_short x hx; omega
  have HNE : Hid (b = false → 0 < (Line.fields zs).length) := fun h => by
    subst h
    unfold Line.bare at hbr
    cases hf : Line.fields zs with
    | nil => rw [hf] at hbr; cases hbr
    | cons f fs => simp
  clear hs hbr hzl
  go_enter Try.func11, Try.ntmps11
  go_wp2_with fail
  refine (rbare_is a n cap zs b _ (HS.out.alloc _) (by omega) HA.out).mono ?_
  rintro e w1 ⟨rfl, hb⟩
  have HBw1 : Hid (Below w.heap.size w w1 ∧ w.heap.size + 1 ≤ w1.heap.size) := ⟨(HB _).out.1.trans (hb.mono (HB _).out.1.size), Nat.le_trans (HB _).out.2 hb.size⟩
  have H0w1 : Hid (w1.heap[w.heap.size]? = some (.cells #[.slice none 0 0, .slice none 0 0] 32 (0, 0))) := (hb.block _ (lt_one' _ _)).trans (HNW.out _)
  clear hb
  cases b
  · have HR0 : Hid (Spec.byWord (Line.fields zs) = s) := by show _ = _; rw [← hr]; rfl
    have HNF := Lib.hid (HNE.out rfl)
    clear hr HNE
    go_wp2_with fail
    refine (rfields_any a n cap zs w1 (HS.out.below HBw1.out.1 (Nat.le_refl _)) (by omega)).mono ?_
    rintro e w2 ⟨a5, m5, c5, ys, rfl, hys, hyf, hyn, hb⟩
    have HBw2 : Hid (Below w.heap.size w w2 ∧ w.heap.size + 1 ≤ w2.heap.size) := ⟨HBw1.out.1.trans (hb.mono HBw1.out.1.size), Nat.le_trans HBw1.out.2 hb.size⟩
    have H0w2 : Hid (w2.heap[w.heap.size]? = some (.cells #[.slice none 0 0, .slice none 0 0] 32 (0, 0))) := (hb.block _ (by have := HBw1.out.2; omega)).trans H0w1.out
    have HYS := Lib.hid hys
    have HR : Hid (Spec.byWord (bnums ys) = s) := by show _ = _; rw [hyf]; exact HR0.out
    have HLN : Hid ((bnums ys).length = m5) := by show _ = _; rw [bnums_length, hys.1]
    have HSH : Hid (∀ y ∈ ys, y.n ≤ 1000) := fun y hy => by
      have h1 := HSHZ.out y.zs (by rw [← hyf]; exact List.mem_map_of_mem hy)
      rw [(hys.2.2.2.1 y hy).1] at h1
      exact h1
    have hm0 : 0 < m5 := by have := HNF.out; rw [← hyf, HLN.out] at this; exact this
    obtain ⟨b1, o1, a0, n0, c0, z0, rfl, hb1, _, hx0, hs0, hz0⟩ := hys.one 0 hm0
    change w2.cell? ⟨b1, o1, none⟩ = some (.slice a0 n0 c0) at hx0
    have hwf := hs0.2.2.2.1
    have hstr := hs0.str
    have HZ0 : Hid ((bnums ys).getD 0 [] = z0) := hz0
    have hm0i : (0 : Int) < (m5 : Int) := by omega
    clear hys hyf hyn hb hb1 hs0 hz0
    by_cases hBASE : z0 = Spec.wBASE
    · subst hBASE
      have eBASE : ((strOfNums Spec.wBASE).toList == [66, 65, 83, 69]) = true := word_is (g := Spec.wBASE) Spec.wBASE _ (by decide) (by decide) rfl (by decide)
      have eREP : ((strOfNums Spec.wBASE).toList == [82, 69, 80]) = false := word_is (g := Spec.wREP) Spec.wBASE _ (by decide) (by decide) rfl (by decide)
      have eKEY : ((strOfNums Spec.wBASE).toList == [75, 69, 89]) = false := word_is (g := Spec.wKEY) Spec.wBASE _ (by decide) (by decide) rfl (by decide)
      have eMAP : ((strOfNums Spec.wBASE).toList == [77, 65, 80]) = false := word_is (g := Spec.wMAP) Spec.wBASE _ (by decide) (by decide) rfl (by decide)
      have hsw : s = if m5 = 5 then Spec.base (bnums ys) else Spec.Sp.no 71 := by
        rw [← HR.out]; unfold Spec.byWord; rw [HZ0.out, if_pos rfl, HLN.out]
      clear hwf
      by_cases hm : m5 = 5
      · subst hm
        have HRR : Hid (Spec.base (bnums ys) = s) := by show _ = _; rw [hsw]; rfl
        clear hsw
        go_wp2_with fail
        refine (rbase_is _ c5 ys s w2 HYS.out HRR.out).mono ?_
        rintro e w3 ⟨ba, bn, bc, ra, rn, rc, xs, rfl, hbs, hbc, hrs, hru, hrc, hb⟩
        have HBw3 : Hid (Below w.heap.size w w3 ∧ w.heap.size + 1 ≤ w3.heap.size) := ⟨HBw2.out.1.trans (hb.mono HBw2.out.1.size), Nat.le_trans HBw2.out.2 hb.size⟩
        have H0w3 : Hid (w3.heap[w.heap.size]? = some (.cells #[.slice none 0 0, .slice none 0 0] 32 (0, 0))) := (hb.block _ (by have := HBw2.out.2; omega)).trans H0w2.out
        have HBS := Lib.hid hbs
        have HRS := Lib.hid hrs
        have HBC := Lib.hid hbc
        have HRC := Lib.hid hrc
        have HRU := Lib.hid hru
        clear hbs hrs hbc hrc hru hb
        go_wp2_with (refine wpList_store_g (by rfl) 32 (.tmp 2) (.tmp 38) (by rfl) w.heap.size #[.slice ba bn bc, .slice ra rn rc] (by rfl) (by rfl) 32 #[.slice none 0 0, .slice none 0 0] H0w3.out HI.out rfl (spec_cells _ _ _ _ _ _) ?_
                     intro w5 hw5 hgr5 hsz5
                     have HW5 := Lib.hid hw5
                     have HG5 := Lib.hid hgr5
                     have HB5 : Hid (Below w.heap.size w w5) := (HBw3.out.1).grown hgr5 (HBw3.out.1).size (fun k hk => by cases hk; exact Nat.le_refl _)
                     clear hw5 hgr5 hsz5)
        have hbase : Sl .u64 w5 ba bn bc s.base := HBS.out.grown HG5.out (slf_spec H0w3.out HBS.out)
        have hgood : Rs w5 ra rn rc xs := rs_kept HRS.out HG5.out H0w3.out
        refine bodyPost_ret (results_cell_row_tmp rfl _ _ w.heap.size 32 #[.slice ba bn bc, .slice ra rn rc] (0, 0) _ (by rfl) HW5.out Try.underlying32 (by rfl) HI.out) rfl ?_
        exact ⟨ba, bn, bc, ra, rn, rc, xs, rfl, hbase, HBC.out, hgood, HRU.out, HRC.out, HB5.out⟩
      · have hmi : ¬ (m5 : Int) = 5 := by omega
        have hmb : ((m5 : Int) == 5) = false := by simpa using hmi
        obtain rfl : s = Spec.Sp.no 71 := by rw [hsw, if_neg hm]
        clear hsw hm
        go_wp2_with (refine wpList_store_g (by rfl) 32 (.tmp 2) (.tmp 33) (by rfl) w.heap.size #[.slice none 0 0, .slice none 0 0] (by rfl) (by rfl) 32 #[.slice none 0 0, .slice none 0 0] H0w2.out HI.out rfl (spec_cells _ _ _ _ _ _) ?_
                     intro w5 hw5 hgr5 hsz5
                     have HW5 := Lib.hid hw5
                     have HG5 := Lib.hid hgr5
                     have HB5 : Hid (Below w.heap.size w w5) := (HBw2.out.1).grown hgr5 (HBw2.out.1).size (fun k hk => by cases hk; exact Nat.le_refl _)
                     clear hw5 hgr5 hsz5)
        refine bodyPost_ret (results_cell_row_tmp rfl _ _ w.heap.size 32 #[.slice none 0 0, .slice none 0 0] (0, 0) _ (by rfl) HW5.out Try.underlying32 (by rfl) HI.out) rfl ?_
        exact ⟨none, 0, 0, none, 0, 0, [], rfl, Sl.nil, fun _ => rfl, Rs.nil, rfl, fun _ => rfl, HB5.out⟩
    by_cases hREP : z0 = Spec.wREP
    · subst hREP
      have eBASE : ((strOfNums Spec.wREP).toList == [66, 65, 83, 69]) = false := word_is (g := Spec.wBASE) Spec.wREP _ (by decide) (by decide) rfl (by decide)
      have eREP : ((strOfNums Spec.wREP).toList == [82, 69, 80]) = true := word_is (g := Spec.wREP) Spec.wREP _ (by decide) (by decide) rfl (by decide)
      have eKEY : ((strOfNums Spec.wREP).toList == [75, 69, 89]) = false := word_is (g := Spec.wKEY) Spec.wREP _ (by decide) (by decide) rfl (by decide)
      have eMAP : ((strOfNums Spec.wREP).toList == [77, 65, 80]) = false := word_is (g := Spec.wMAP) Spec.wREP _ (by decide) (by decide) rfl (by decide)
      have hsw : s = if m5 = 4 then Spec.rep (bnums ys) else Spec.Sp.no 71 := by
        rw [← HR.out]; unfold Spec.byWord; rw [HZ0.out, if_neg (show ¬ Spec.wREP = Spec.wBASE by decide), if_pos rfl, HLN.out]
      clear hwf
      by_cases hm : m5 = 4
      · subst hm
        have HRR : Hid (Spec.rep (bnums ys) = s) := by show _ = _; rw [hsw]; rfl
        clear hsw
        go_wp2_with fail
        refine (rrep_is _ c5 ys s w2 HYS.out HSH.out HRR.out).mono ?_
        rintro e w3 ⟨ba, bn, bc, ra, rn, rc, xs, rfl, hbs, hbc, hrs, hru, hrc, hb⟩
        have HBw3 : Hid (Below w.heap.size w w3 ∧ w.heap.size + 1 ≤ w3.heap.size) := ⟨HBw2.out.1.trans (hb.mono HBw2.out.1.size), Nat.le_trans HBw2.out.2 hb.size⟩
        have H0w3 : Hid (w3.heap[w.heap.size]? = some (.cells #[.slice none 0 0, .slice none 0 0] 32 (0, 0))) := (hb.block _ (by have := HBw2.out.2; omega)).trans H0w2.out
        have HBS := Lib.hid hbs
        have HRS := Lib.hid hrs
        have HBC := Lib.hid hbc
        have HRC := Lib.hid hrc
        have HRU := Lib.hid hru
        clear hbs hrs hbc hrc hru hb
        go_wp2_with (refine wpList_store_g (by rfl) 32 (.tmp 2) (.tmp 43) (by rfl) w.heap.size #[.slice ba bn bc, .slice ra rn rc] (by rfl) (by rfl) 32 #[.slice none 0 0, .slice none 0 0] H0w3.out HI.out rfl (spec_cells _ _ _ _ _ _) ?_
                     intro w5 hw5 hgr5 hsz5
                     have HW5 := Lib.hid hw5
                     have HG5 := Lib.hid hgr5
                     have HB5 : Hid (Below w.heap.size w w5) := (HBw3.out.1).grown hgr5 (HBw3.out.1).size (fun k hk => by cases hk; exact Nat.le_refl _)
                     clear hw5 hgr5 hsz5)
        have hbase : Sl .u64 w5 ba bn bc s.base := HBS.out.grown HG5.out (slf_spec H0w3.out HBS.out)
        have hgood : Rs w5 ra rn rc xs := rs_kept HRS.out HG5.out H0w3.out
        refine bodyPost_ret (results_cell_row_tmp rfl _ _ w.heap.size 32 #[.slice ba bn bc, .slice ra rn rc] (0, 0) _ (by rfl) HW5.out Try.underlying32 (by rfl) HI.out) rfl ?_
        exact ⟨ba, bn, bc, ra, rn, rc, xs, rfl, hbase, HBC.out, hgood, HRU.out, HRC.out, HB5.out⟩
      · have hmi : ¬ (m5 : Int) = 4 := by omega
        have hmb : ((m5 : Int) == 4) = false := by simpa using hmi
        obtain rfl : s = Spec.Sp.no 71 := by rw [hsw, if_neg hm]
        clear hsw hm
        go_wp2_with (refine wpList_store_g (by rfl) 32 (.tmp 2) (.tmp 33) (by rfl) w.heap.size #[.slice none 0 0, .slice none 0 0] (by rfl) (by rfl) 32 #[.slice none 0 0, .slice none 0 0] H0w2.out HI.out rfl (spec_cells _ _ _ _ _ _) ?_
                     intro w5 hw5 hgr5 hsz5
                     have HW5 := Lib.hid hw5
                     have HG5 := Lib.hid hgr5
                     have HB5 : Hid (Below w.heap.size w w5) := (HBw2.out.1).grown hgr5 (HBw2.out.1).size (fun k hk => by cases hk; exact Nat.le_refl _)
                     clear hw5 hgr5 hsz5)
        refine bodyPost_ret (results_cell_row_tmp rfl _ _ w.heap.size 32 #[.slice none 0 0, .slice none 0 0] (0, 0) _ (by rfl) HW5.out Try.underlying32 (by rfl) HI.out) rfl ?_
        exact ⟨none, 0, 0, none, 0, 0, [], rfl, Sl.nil, fun _ => rfl, Rs.nil, rfl, fun _ => rfl, HB5.out⟩
    by_cases hKEY : z0 = Spec.wKEY
    · subst hKEY
      have eBASE : ((strOfNums Spec.wKEY).toList == [66, 65, 83, 69]) = false := word_is (g := Spec.wBASE) Spec.wKEY _ (by decide) (by decide) rfl (by decide)
      have eREP : ((strOfNums Spec.wKEY).toList == [82, 69, 80]) = false := word_is (g := Spec.wREP) Spec.wKEY _ (by decide) (by decide) rfl (by decide)
      have eKEY : ((strOfNums Spec.wKEY).toList == [75, 69, 89]) = true := word_is (g := Spec.wKEY) Spec.wKEY _ (by decide) (by decide) rfl (by decide)
      have eMAP : ((strOfNums Spec.wKEY).toList == [77, 65, 80]) = false := word_is (g := Spec.wMAP) Spec.wKEY _ (by decide) (by decide) rfl (by decide)
      have hsw : s = if m5 = 3 then Spec.key (bnums ys) else Spec.Sp.no 71 := by
        rw [← HR.out]; unfold Spec.byWord; rw [HZ0.out, if_neg (show ¬ Spec.wKEY = Spec.wBASE by decide), if_neg (show ¬ Spec.wKEY = Spec.wREP by decide), if_pos rfl, HLN.out]
      clear hwf
      by_cases hm : m5 = 3
      · subst hm
        have HRR : Hid (Spec.key (bnums ys) = s) := by show _ = _; rw [hsw]; rfl
        clear hsw
        go_wp2_with fail
        refine (rkey_is _ c5 ys s w2 HYS.out HSH.out HRR.out).mono ?_
        rintro e w3 ⟨ba, bn, bc, ra, rn, rc, xs, rfl, hbs, hbc, hrs, hru, hrc, hb⟩
        have HBw3 : Hid (Below w.heap.size w w3 ∧ w.heap.size + 1 ≤ w3.heap.size) := ⟨HBw2.out.1.trans (hb.mono HBw2.out.1.size), Nat.le_trans HBw2.out.2 hb.size⟩
        have H0w3 : Hid (w3.heap[w.heap.size]? = some (.cells #[.slice none 0 0, .slice none 0 0] 32 (0, 0))) := (hb.block _ (by have := HBw2.out.2; omega)).trans H0w2.out
        have HBS := Lib.hid hbs
        have HRS := Lib.hid hrs
        have HBC := Lib.hid hbc
        have HRC := Lib.hid hrc
        have HRU := Lib.hid hru
        clear hbs hrs hbc hrc hru hb
        go_wp2_with (refine wpList_store_g (by rfl) 32 (.tmp 2) (.tmp 43) (by rfl) w.heap.size #[.slice ba bn bc, .slice ra rn rc] (by rfl) (by rfl) 32 #[.slice none 0 0, .slice none 0 0] H0w3.out HI.out rfl (spec_cells _ _ _ _ _ _) ?_
                     intro w5 hw5 hgr5 hsz5
                     have HW5 := Lib.hid hw5
                     have HG5 := Lib.hid hgr5
                     have HB5 : Hid (Below w.heap.size w w5) := (HBw3.out.1).grown hgr5 (HBw3.out.1).size (fun k hk => by cases hk; exact Nat.le_refl _)
                     clear hw5 hgr5 hsz5)
        have hbase : Sl .u64 w5 ba bn bc s.base := HBS.out.grown HG5.out (slf_spec H0w3.out HBS.out)
        have hgood : Rs w5 ra rn rc xs := rs_kept HRS.out HG5.out H0w3.out
        refine bodyPost_ret (results_cell_row_tmp rfl _ _ w.heap.size 32 #[.slice ba bn bc, .slice ra rn rc] (0, 0) _ (by rfl) HW5.out Try.underlying32 (by rfl) HI.out) rfl ?_
        exact ⟨ba, bn, bc, ra, rn, rc, xs, rfl, hbase, HBC.out, hgood, HRU.out, HRC.out, HB5.out⟩
      · have hmi : ¬ (m5 : Int) = 3 := by omega
        have hmb : ((m5 : Int) == 3) = false := by simpa using hmi
        obtain rfl : s = Spec.Sp.no 71 := by rw [hsw, if_neg hm]
        clear hsw hm
        go_wp2_with (refine wpList_store_g (by rfl) 32 (.tmp 2) (.tmp 33) (by rfl) w.heap.size #[.slice none 0 0, .slice none 0 0] (by rfl) (by rfl) 32 #[.slice none 0 0, .slice none 0 0] H0w2.out HI.out rfl (spec_cells _ _ _ _ _ _) ?_
                     intro w5 hw5 hgr5 hsz5
                     have HW5 := Lib.hid hw5
                     have HG5 := Lib.hid hgr5
                     have HB5 : Hid (Below w.heap.size w w5) := (HBw2.out.1).grown hgr5 (HBw2.out.1).size (fun k hk => by cases hk; exact Nat.le_refl _)
                     clear hw5 hgr5 hsz5)
        refine bodyPost_ret (results_cell_row_tmp rfl _ _ w.heap.size 32 #[.slice none 0 0, .slice none 0 0] (0, 0) _ (by rfl) HW5.out Try.underlying32 (by rfl) HI.out) rfl ?_
        exact ⟨none, 0, 0, none, 0, 0, [], rfl, Sl.nil, fun _ => rfl, Rs.nil, rfl, fun _ => rfl, HB5.out⟩
    by_cases hMAP : z0 = Spec.wMAP
    · subst hMAP
      have eBASE : ((strOfNums Spec.wMAP).toList == [66, 65, 83, 69]) = false := word_is (g := Spec.wBASE) Spec.wMAP _ (by decide) (by decide) rfl (by decide)
      have eREP : ((strOfNums Spec.wMAP).toList == [82, 69, 80]) = false := word_is (g := Spec.wREP) Spec.wMAP _ (by decide) (by decide) rfl (by decide)
      have eKEY : ((strOfNums Spec.wMAP).toList == [75, 69, 89]) = false := word_is (g := Spec.wKEY) Spec.wMAP _ (by decide) (by decide) rfl (by decide)
      have eMAP : ((strOfNums Spec.wMAP).toList == [77, 65, 80]) = true := word_is (g := Spec.wMAP) Spec.wMAP _ (by decide) (by decide) rfl (by decide)
      have hsw : s = if m5 = 3 then Spec.map (bnums ys) else Spec.Sp.no 71 := by
        rw [← HR.out]; unfold Spec.byWord; rw [HZ0.out, if_neg (show ¬ Spec.wMAP = Spec.wBASE by decide), if_neg (show ¬ Spec.wMAP = Spec.wREP by decide), if_neg (show ¬ Spec.wMAP = Spec.wKEY by decide), if_pos rfl, HLN.out]
      clear hwf
      by_cases hm : m5 = 3
      · subst hm
        have HRR : Hid (Spec.map (bnums ys) = s) := by show _ = _; rw [hsw]; rfl
        clear hsw
        go_wp2_with fail
        refine (rmap_is _ c5 ys s w2 HYS.out HSH.out HRR.out).mono ?_
        rintro e w3 ⟨ba, bn, bc, ra, rn, rc, xs, rfl, hbs, hbc, hrs, hru, hrc, hb⟩
        have HBw3 : Hid (Below w.heap.size w w3 ∧ w.heap.size + 1 ≤ w3.heap.size) := ⟨HBw2.out.1.trans (hb.mono HBw2.out.1.size), Nat.le_trans HBw2.out.2 hb.size⟩
        have H0w3 : Hid (w3.heap[w.heap.size]? = some (.cells #[.slice none 0 0, .slice none 0 0] 32 (0, 0))) := (hb.block _ (by have := HBw2.out.2; omega)).trans H0w2.out
        have HBS := Lib.hid hbs
        have HRS := Lib.hid hrs
        have HBC := Lib.hid hbc
        have HRC := Lib.hid hrc
        have HRU := Lib.hid hru
        clear hbs hrs hbc hrc hru hb
        go_wp2_with (refine wpList_store_g (by rfl) 32 (.tmp 2) (.tmp 43) (by rfl) w.heap.size #[.slice ba bn bc, .slice ra rn rc] (by rfl) (by rfl) 32 #[.slice none 0 0, .slice none 0 0] H0w3.out HI.out rfl (spec_cells _ _ _ _ _ _) ?_
                     intro w5 hw5 hgr5 hsz5
                     have HW5 := Lib.hid hw5
                     have HG5 := Lib.hid hgr5
                     have HB5 : Hid (Below w.heap.size w w5) := (HBw3.out.1).grown hgr5 (HBw3.out.1).size (fun k hk => by cases hk; exact Nat.le_refl _)
                     clear hw5 hgr5 hsz5)
        have hbase : Sl .u64 w5 ba bn bc s.base := HBS.out.grown HG5.out (slf_spec H0w3.out HBS.out)
        have hgood : Rs w5 ra rn rc xs := rs_kept HRS.out HG5.out H0w3.out
        refine bodyPost_ret (results_cell_row_tmp rfl _ _ w.heap.size 32 #[.slice ba bn bc, .slice ra rn rc] (0, 0) _ (by rfl) HW5.out Try.underlying32 (by rfl) HI.out) rfl ?_
        exact ⟨ba, bn, bc, ra, rn, rc, xs, rfl, hbase, HBC.out, hgood, HRU.out, HRC.out, HB5.out⟩
      · have hmi : ¬ (m5 : Int) = 3 := by omega
        have hmb : ((m5 : Int) == 3) = false := by simpa using hmi
        obtain rfl : s = Spec.Sp.no 71 := by rw [hsw, if_neg hm]
        clear hsw hm
        go_wp2_with (refine wpList_store_g (by rfl) 32 (.tmp 2) (.tmp 33) (by rfl) w.heap.size #[.slice none 0 0, .slice none 0 0] (by rfl) (by rfl) 32 #[.slice none 0 0, .slice none 0 0] H0w2.out HI.out rfl (spec_cells _ _ _ _ _ _) ?_
                     intro w5 hw5 hgr5 hsz5
                     have HW5 := Lib.hid hw5
                     have HG5 := Lib.hid hgr5
                     have HB5 : Hid (Below w.heap.size w w5) := (HBw2.out.1).grown hgr5 (HBw2.out.1).size (fun k hk => by cases hk; exact Nat.le_refl _)
                     clear hw5 hgr5 hsz5)
        refine bodyPost_ret (results_cell_row_tmp rfl _ _ w.heap.size 32 #[.slice none 0 0, .slice none 0 0] (0, 0) _ (by rfl) HW5.out Try.underlying32 (by rfl) HI.out) rfl ?_
        exact ⟨none, 0, 0, none, 0, 0, [], rfl, Sl.nil, fun _ => rfl, Rs.nil, rfl, fun _ => rfl, HB5.out⟩
    have eBASE : ((strOfNums z0).toList == [66, 65, 83, 69]) = false := word_is (g := Spec.wBASE) z0 false hwf (by decide) rfl (decide_eq_false hBASE)
    have eREP : ((strOfNums z0).toList == [82, 69, 80]) = false := word_is (g := Spec.wREP) z0 false hwf (by decide) rfl (decide_eq_false hREP)
    have eKEY : ((strOfNums z0).toList == [75, 69, 89]) = false := word_is (g := Spec.wKEY) z0 false hwf (by decide) rfl (decide_eq_false hKEY)
    have eMAP : ((strOfNums z0).toList == [77, 65, 80]) = false := word_is (g := Spec.wMAP) z0 false hwf (by decide) rfl (decide_eq_false hMAP)
    obtain rfl : s = Spec.Sp.no 70 := by
      rw [← HR.out]; unfold Spec.byWord; rw [HZ0.out, if_neg hBASE, if_neg hREP, if_neg hKEY, if_neg hMAP]
    clear hwf hBASE hREP hKEY hMAP
    go_wp2_with (refine wpList_store_g (by rfl) 32 (.tmp 2) (.tmp 28) (by rfl) w.heap.size #[.slice none 0 0, .slice none 0 0] (by rfl) (by rfl) 32 #[.slice none 0 0, .slice none 0 0] H0w2.out HI.out rfl (spec_cells _ _ _ _ _ _) ?_
                 intro w5 hw5 hgr5 hsz5
                 have HW5 := Lib.hid hw5
                 have HG5 := Lib.hid hgr5
                 have HB5 : Hid (Below w.heap.size w w5) := (HBw2.out.1).grown hgr5 (HBw2.out.1).size (fun k hk => by cases hk; exact Nat.le_refl _)
                 clear hw5 hgr5 hsz5)
    refine bodyPost_ret (results_cell_row_tmp rfl _ _ w.heap.size 32 #[.slice none 0 0, .slice none 0 0] (0, 0) _ (by rfl) HW5.out Try.underlying32 (by rfl) HI.out) rfl ?_
    exact ⟨none, 0, 0, none, 0, 0, [], rfl, Sl.nil, fun _ => rfl, Rs.nil, rfl, fun _ => rfl, HB5.out⟩
  · obtain rfl : s = Spec.Sp.no 0 := by rw [← hr]; rfl
    go_wp2_with (refine wpList_store_g (by rfl) 32 (.tmp 2) (.tmp 9) (by rfl) w.heap.size #[.slice none 0 0, .slice none 0 0] (by rfl) (by rfl) 32 #[.slice none 0 0, .slice none 0 0] H0w1.out HI.out rfl (spec_cells _ _ _ _ _ _) ?_
                 intro w5 hw5 hgr5 hsz5
                 have HW5 := Lib.hid hw5
                 have HG5 := Lib.hid hgr5
                 have HB5 : Hid (Below w.heap.size w w5) := (HBw1.out.1).grown hgr5 (HBw1.out.1).size (fun k hk => by cases hk; exact Nat.le_refl _)
                 clear hw5 hgr5 hsz5)
    refine bodyPost_ret (results_cell_row_tmp rfl _ _ w.heap.size 32 #[.slice none 0 0, .slice none 0 0] (0, 0) _ (by rfl) HW5.out Try.underlying32 (by rfl) HI.out) rfl ?_
    exact ⟨none, 0, 0, none, 0, 0, [], rfl, Sl.nil, fun _ => rfl, Rs.nil, rfl, fun _ => rfl, HB5.out⟩

end Go.Proofs.Ytdeicfdbjmpliaa
