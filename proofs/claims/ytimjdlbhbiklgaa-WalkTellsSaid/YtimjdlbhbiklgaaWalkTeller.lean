/- Used by the law. -/
import Derived.Test.YtimjdlbhbiklgaaPackQ
import Derived.Test.YtimjdlbhbiklgaaWalkBehind
import Derived.Test.YtimjdlbhbiklgaaTrieMk
namespace Go.Proofs.Ytimjdlbhbiklgaa
open Go.RowKit Tri Wlk

def live (l : List St) (s : Int) (a : Int × Int) : Bool := decide (s < a.1) && decide (dp (wds l a.2.toNat) ≠ -1)
theorem goes_end {l : List St} {i : Nat} {s : Int} {arcs : List (Int × Int)} (ha : (l.getD i St.no).arcs = arcs) (h : (arcs.filter (live l s)).length ≤ 300) : goes l i s = arcs.filter (live l s) := by
  unfold goes
  rw [ha]
  exact List.take_of_length_le h
theorem goes_stop {l : List St} {i : Nat} {s : Int} {arcs : List (Int × Int)} {j : Nat} (ha : (l.getD i St.no).arcs = arcs) (h : ((arcs.take j).filter (live l s)).length = 300) : goes l i s = (arcs.take j).filter (live l s) := by
  have e : goes l i s = (arcs.filter (live l s)).take 300 := by unfold goes; rw [ha]; rfl
  have e2 : arcs.filter (live l s) = (arcs.take j).filter (live l s) ++ (arcs.drop j).filter (live l s) := by rw [← List.filter_append, List.take_append_drop]
  rw [e, e2, List.take_append_of_le_length (by omega), List.take_of_length_le (by omega)]

set_option maxRecDepth 100000 in
set_option maxHeartbeats 3200000 in
theorem after_is {l : List St} (hc : check l = true) (i : Nat) (hi : i < l.length) (s : Int) (xs : List Sw) (hxs : sts xs = l) (sa da wa : Option Addr) (sn sc dn dc wn wc yl : Nat) (ds : List Int) (w : World) (hx : Ss w sa sn sc xs) (hd : Sl .i64 w da dn dc ds) (hdn : dn = l.length)
    (hds : ∀ j, j < l.length → ds.getD j 0 = dp (wds l j)) :
    Calls Try.prog 59 #[.agg #[.slice sa sn sc, .slice da dn dc, .slice wa wn wc, .func (.yield yl) #[] #[]], .int .i64 (i : Int), .int .i64 s] w fun e w' => ∃ a' c', e = .returned (.slice a' (goes l i s).length c') ∧
      w'.ownsRow w.heap.size 59 2 (.slice a' (goes l i s).length c') (goes l i s).length (acells (goes l i s)) ∧ Below w.heap.size w w' := by
  have hin : i < sn := by rw [← hx.1, ← sts_length, hxs]; exact hi
  obtain ⟨b1, o1, fi, aa, an, ac, arcs, rfl, _, hx1, hx2, hars, hz1⟩ := hx.one i hin
  have harcs : (l.getD i St.no).arcs = arcs := by rw [← hxs, sts_at, hz1]; rfl
  have hac := hars.2.1
  have hacm := hars.2.2.1
  have hsc := hx.2.1
  have hscm := hx.2.2.1
  have hdc := hd.2.1
  have hdcm := hd.2.2.1
  unfold maxLen at hacm hscm hdcm
  have HAR := Lib.hid hars
  have HAL : Hid (arcs.length = an) := Lib.hid hars.1
  have HD := Lib.hid hd
  have HARC : Hid (∀ k, k < an → ∀ s t, arcs.getD k (0, 0) = (s, t) → ∃ (u : Nat), t = (u : Int) ∧ u < dn ∧ ds.getD u 0 = dp (wds l u)) := Lib.hid fun k hk s t hst => by
    have hm : (s, t) ∈ (l.getD i St.no).arcs := by
      rw [harcs, ← hst, List.getD_eq_getElem?_getD, List.getElem?_eq_getElem (by rw [hars.1]; exact hk), Option.getD_some]; exact List.getElem_mem _
    obtain ⟨_, h2, h3⟩ := (check_arcs hc hi).1 _ hm
    simp only at h2 h3
    obtain ⟨u, rfl⟩ : ∃ u : Nat, t = (u : Int) := ⟨t.toNat, by omega⟩
    exact ⟨u, rfl, by omega, hds u (by omega)⟩
  have HW1 : Hid (∀ n, n = (arcs.filter (live l s)).length → n ≤ 300 → goes l i s = arcs.filter (live l s) ∧ (goes l i s).length = n) := Lib.hid fun n hn hn3 => by
    have := goes_end (s := s) harcs (by omega)
    exact ⟨this, by rw [this]; omega⟩
  have HW2 : Hid (∀ j, ((arcs.take j).filter (live l s)).length = 300 → goes l i s = (arcs.take j).filter (live l s) ∧ (goes l i s).length = 300) := Lib.hid fun j hj => by
    have := goes_stop (s := s) harcs hj
    exact ⟨this, by rw [this]; exact hj⟩
  have HB0 : ∀ o, Hid (Below w.heap.size w (w.alloc o)) := fun o => Lib.hid ((Below.refl _ w).alloc (Nat.le_refl _) o)
  have hii : (i : Int) < (sn : Int) := by omega
  have hi0 : (0 : Int) ≤ (i : Int) := by omega
  clear hx hd hds hars harcs hz1 hxs hdn hi hc
  go_enter Try.func59, Try.ntmps59
  go_wp2
  clear hx1 hx2

  go_loopw [7, 17] (fun ov ix wr => ∃ (j : Nat) (o' : Option Addr) (on oc : Nat), j ≤ an ∧ ix = .int .i64 (j : Int) ∧ ov = .slice o' on oc ∧ on ≤ 300 ∧ Hid (((arcs.take j).filter (live l s)).length = on) ∧
    Hid (wr.ownsRow (w.heap.size + 1) 59 2 (.slice o' on oc) on (acells ((arcs.take j).filter (live l s)))) ∧ Hid (wr.heap[w.heap.size]? = some (.cells #[.slice (some ⟨b1, o1, none⟩) sn sc, .slice da dn dc, .slice wa wn wc, .func (.yield yl) #[] #[]] 88 (0, 0))) ∧ Hid (Below w.heap.size w wr)) (fun _ ix _ => an - (intOf ix).toNat)
  case atStart => exact ⟨0, none, 0, 0, Nat.zero_le _, rfl, rfl, by omega, rfl, by rw [List.take_zero]; exact World.ownsRow_nil _ _ _ _, heap_alloc_new w _, (HB0 _).out⟩
  case round =>
    obtain ⟨j, o', on, oc, hj, rfl, rfl, hon, HON, HO, HBX, HW⟩ := hrel
    have HOL : ∀ W : World, W.ownsRow (w.heap.size + 1) 59 2 (.slice o' on oc) on (acells ((arcs.take j).filter (live l s))) → W.ownsRow w.heap.size 59 2 (.slice o' on oc) on (acells ((arcs.take j).filter (live l s))) := fun W h => own_mono h (by omega)
    by_cases hlt : j < an
    · obtain ⟨b2, o2, s2, t2, rfl, hb2, hy1, hy2, _, _, hz2⟩ := (HAR.out.below HW.out (Nat.le_refl _)).one j hlt
      obtain ⟨u, rfl, hu, hdu⟩ := HARC.out j hlt _ _ hz2
      have hlti : (j : Int) < (an : Int) := by omega
      by_cases h300 : on = 300
      · have h3 : ((on : Int) == 300) = true := by simp [h300]
        obtain ⟨g1, g2⟩ := HW2.out j (by rw [HON.out, h300])
        have HRE := Lib.hid (And.intro g1 (g2.trans h300.symm))
        have HWA : ∀ o, Hid (Below w.heap.size w (wr.alloc o)) := fun o => HW.out.alloc HW.out.size o
        have HOA : ∀ o, Hid ((wr.alloc o).ownsRow (w.heap.size + 1) 59 2 (.slice o' on oc) on (acells ((arcs.take j).filter (live l s)))) := fun o => HO.out.alloc _
        clear hz2 hb2 hdu g1 g2
        subst h300
        go_wp2
        go_ret
        exact ⟨o', oc, by rw [HRE.out.2]; rfl, by rw [HRE.out.2, HRE.out.1]; exact HOL _ (HOA _).out, (HWA _).out⟩
      · have h3 : ((on : Int) == 300) = false := by simp; omega
        have hon' : on < 300 := by omega
        have HWA : ∀ o, Hid (Below w.heap.size w (wr.alloc o)) := fun o => HW.out.alloc HW.out.size o
        have HOA : ∀ o, Hid ((wr.alloc o).ownsRow (w.heap.size + 1) 59 2 (.slice o' on oc) on (acells ((arcs.take j).filter (live l s)))) := fun o => HO.out.alloc _
        have HBA : ∀ o, Hid ((wr.alloc o).heap[w.heap.size]? = some (.cells #[.slice (some ⟨b1, o1, none⟩) sn sc, .slice da dn dc, .slice wa wn wc, .func (.yield yl) #[] #[]] 88 (0, 0))) := fun o => by
          have := (Array.getElem?_eq_some_iff.1 HBX.out).1
          show _ = _
          rw [Below.heap_alloc _ _ _ this]; exact HBX.out
        have hlz := (Array.getElem?_eq_some_iff.1 HBX.out).1
        have HTK := Lib.hid (arcs_step (l := arcs) (j := j) (by rw [HAL.out]; exact hlt) hz2)
        have HNX0 : Hid (live l s (s2, (u : Int)) = false → (arcs.take (j + 1)).filter (live l s) = (arcs.take j).filter (live l s)) := Lib.hid fun h => by rw [HTK.out, List.filter_append, List.filter_cons_of_neg (by rw [h]; simp)]; simp
        have HNX1 : Hid (live l s (s2, (u : Int)) = true → (arcs.take (j + 1)).filter (live l s) = (arcs.take j).filter (live l s) ++ [(s2, (u : Int))]) := Lib.hid fun h => by rw [HTK.out, List.filter_append, List.filter_cons_of_pos h]; simp
        have HLV : Hid (live l s (s2, (u : Int)) = (decide (s < s2) && decide (dp (wds l u) ≠ -1))) := rfl
        obtain ⟨db, dof, rfl, hdb, hdc0⟩ := (HD.out.below HW.out (Nat.le_refl _)).at (by omega)
        have hcell := hdc0 u hu
        rw [hdu] at hcell
        obtain ⟨v, hv⟩ : ∃ v, v = dp (wds l u) := ⟨_, rfl⟩
        rw [← hv] at hcell HLV
        have c1 : wr.cell? ⟨w.heap.size, 1, none⟩ = some (.slice (some ⟨db, dof, none⟩) dn dc) := by rw [cell_of_obj HBX.out]; rfl
        clear hz2 hb2 hdu hdc0 hv
        by_cases hs : s < s2
        · have hsd : decide (s < s2) = true := decide_eq_true hs
          have hsd2 : decide (s2 > s) = true := decide_eq_true hs
          by_cases hv1 : v = -1
          · have hvb : (v == -1) = true := by simp [hv1]
            have hvn : (v != -1) = false := by simp [hv1]
            have HL0 : Hid ((arcs.take (j + 1)).filter (live l s) = (arcs.take j).filter (live l s)) := Lib.hid (HNX0.out (by rw [HLV.out, hsd, hv1]; rfl))
            clear HNX0 HNX1 HLV
            subst hv1
            go_wp2
            go_roundw
            case rel => exact ⟨j + 1, o', on, oc, by omega, by go_num, rfl, hon, by show _ = _; rw [HL0.out]; exact HON.out, by show World.ownsRow _ _ _ _ _ _ _; rw [HL0.out]; exact (HOA _).out, (HBA _).out, (HWA _).out⟩
            case measure => simp [intOf]; omega
          · have hvb : (v == -1) = false := by simpa using hv1
            have hvn : (v != -1) = true := by simp [bne, hvb]
            have HL2 : ∀ o : Obj, Hid (((wr.alloc o).alloc (.cells #[.int .i64 s2, .int .i64 (u : Int)] 59)).cell? ⟨wr.heap.size + 1, 0, none⟩ = some (.int .i64 s2) ∧ ((wr.alloc o).alloc (.cells #[.int .i64 s2, .int .i64 (u : Int)] 59)).cell? ⟨wr.heap.size + 1, 1, none⟩ = some (.int .i64 (u : Int))) := fun o => by
              have := lit2 (wr.alloc o) (.int .i64 s2) (.int .i64 (u : Int)) 59 (0, 0)
              rw [World.size_alloc] at this; exact this
            have HL0 : Hid ((arcs.take (j + 1)).filter (live l s) = (arcs.take j).filter (live l s) ++ [(s2, (u : Int))]) := Lib.hid (HNX1.out (by rw [HLV.out, hsd, decide_eq_true hv1]; rfl))
            clear HNX0 HNX1 HLV
            go_wp2_with (at_builtin; refine append_arc (by rfl) (.tmp 37) (.tmp 39) (by rfl) (w.heap.size + 1) _ on ((arcs.take j).filter (live l s)) (by rfl) ((HOA _).out.alloc _) (wr.heap.size + 1) (s2, (u : Int)) (by rfl) (HL2 _).out.1 (HL2 _).out.2 (on + 1) rfl (by omega) (by simp; omega) ?_; intro a' c' w6 hown hb hgr hnil; have HO6 := Lib.hid hown; have HB6 := Lib.hid hb; clear hown hb hgr hnil)
            have hbx6 : w6.heap[w.heap.size]? = some (.cells #[.slice (some ⟨b1, o1, none⟩) sn sc, .slice (some ⟨db, dof, none⟩) dn dc, .slice wa wn wc, .func (.yield yl) #[] #[]] 88 (0, 0)) := by
              rw [HB6.out.block w.heap.size (by omega), Below.heap_alloc _ _ _ (by simp; omega)]; exact (HBA _).out
            have hb6 : Below w.heap.size w w6 := ((HWA _).out.alloc (by have := HW.out.size; simp; omega) _).trans (HB6.out.mono (by omega))
            refine ⟨⟨j + 1, a', on + 1, c', by omega, by go_num, rfl, by omega, ?_, ?_, hbx6, hb6⟩, by simp [intOf]; omega⟩
            · show _ = _; rw [HL0.out, List.length_append, HON.out]; rfl
            · show World.ownsRow _ _ _ _ _ _ _; rw [HL0.out]; exact HO6.out
        · have hsd : decide (s < s2) = false := decide_eq_false hs
          have hsd2 : decide (s2 > s) = false := decide_eq_false hs
          have HL0 : Hid ((arcs.take (j + 1)).filter (live l s) = (arcs.take j).filter (live l s)) := Lib.hid (HNX0.out (by rw [HLV.out, hsd]; rfl))
          clear HNX0 HNX1 HLV
          go_wp2
          go_roundw
          case rel => exact ⟨j + 1, o', on, oc, by omega, by go_num, rfl, hon, by show _ = _; rw [HL0.out]; exact HON.out, by show World.ownsRow _ _ _ _ _ _ _; rw [HL0.out]; exact (HOA _).out, (HBA _).out, (HWA _).out⟩
          case measure => simp [intOf]; omega
    · have hjn : j = an := by omega
      obtain ⟨g1, g2⟩ := HW1.out on (by rw [← HON.out, hjn, ← HAL.out, List.take_length]) hon
      have HRE : Hid (goes l i s = (arcs.take j).filter (live l s) ∧ (goes l i s).length = on) := Lib.hid ⟨by rw [g1, hjn, ← HAL.out, List.take_length], g2⟩
      clear g1 g2 hjn
      go_wp2
      go_ret
      exact ⟨o', oc, by rw [HRE.out.2]; rfl, by rw [HRE.out.2, HRE.out.1]; exact HOL _ HO.out, HW.out⟩

end Go.Proofs.Ytimjdlbhbiklgaa
