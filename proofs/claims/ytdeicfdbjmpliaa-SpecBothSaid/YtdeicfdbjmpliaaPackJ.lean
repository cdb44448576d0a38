import Derived.Test.YtdeicfdbjmpliaaSpecRefS
import Derived.Test.YtdeicfdbjmpliaaSpecRefK
import Derived.Test.YtdeicfdbjmpliaaSpecRefF
import Derived.Test.YtdeicfdbjmpliaaPackF
/- The document's rules of layer 7: what REP, KEY and MAP tell. Written by wip/gen/spec_rules.py. -/
namespace Go.Proofs.Ytdeicfdbjmpliaa
open Go.RowKit

set_option maxRecDepth 100000 in
theorem take_rul {xs : List Rw} {j : Nat} {x : Rw} (hj : j < xs.length) (hx : xs.getD j Rw.no = x) : (ruls xs).take (j + 1) = (ruls xs).take j ++ [x.r] := by
  have hj' : j < (ruls xs).length := by rw [ruls_length]; exact hj
  rw [List.take_succ_eq_append_getElem hj']
  congr 2
  have := ruls_at xs j
  rw [hx, List.getD_eq_getElem?_getD, List.getElem?_eq_getElem hj', Option.getD_some] at this
  exact this
set_option maxRecDepth 100000 in
/-- in a block of two slices lie no numbers, and no rules -/
theorem slf_spec {q : IntKind} {w : World} {k : Nat} {ty : TypeId} {fr : Nat × Nat} {a : Option Addr} {n c : Nat} {zs : List Int} (h0 : w.heap[k]? = some (.cells #[.slice none 0 0, .slice none 0 0] ty fr)) (h : Sl q w a n c zs) : Slf (some k) a n := by
  rcases Nat.eq_zero_or_pos n with hz | hp
  · exact .inl hz
  · obtain ⟨b, off, ha, _, hc⟩ := h.at hp
    refine .inr ⟨b, off, ha, fun e => ?_⟩
    cases e
    have h1 := hc 0 hp
    simp only [World.cell?, h0] at h1
    match off, h1 with
    | 0, h1 => simp at h1
    | 1, h1 => simp at h1
    | off + 2, h1 => simp at h1
set_option maxRecDepth 100000 in
theorem rs_kept {w w' : World} {a : Option Addr} {n c k : Nat} {ty : TypeId} {fr : Nat × Nat} {xs : List Rw} (h : Rs w a n c xs) (hg : w.grownBy w' (some k)) (h0 : w.heap[k]? = some (.cells #[.slice none 0 0, .slice none 0 0] ty fr)) : Rs w' a n c xs := by
  obtain ⟨h1, h2, h3, h4, h5⟩ := h
  refine ⟨h1, h2, h3, fun x hm => (h4 x hm).grown hg ⟨slf_spec h0 (h4 x hm).1, slf_spec h0 (h4 x hm).2.1⟩, ?_⟩
  rcases h5 with h5 | ⟨b, off, ha, hc⟩
  · exact .inl h5
  · rcases Nat.eq_zero_or_pos n with hz | hp
    · exact .inl hz
    · refine .inr ⟨b, off, ha, fun i hi => (hc i hi).grown' hg (fun e => ?_)⟩
      cases e
      have h1 := (hc 0 hp).2.2
      simp only [World.cell?, h0] at h1
      match off, h1 with
      | 0, h1 => simp at h1
      | off + 1, h1 => simp at h1
set_option maxRecDepth 100000 in
theorem word_is {g : List Int} {lit : List UInt8} (f : List Int) (r : Bool) (hf : ∀ z ∈ f, (Lit.int .u8 z).wf = true) (hg : ∀ z ∈ g, (Lit.int .u8 z).wf = true) (hl : (strOfNums g).data.toList = lit) (hr : decide (f = g) = r) : ((strOfNums f).toList == lit) = r := by
  rw [str_is hf hg (by rw [ByteArray.toList_eq]; exact hl), hr]

set_option maxRecDepth 100000 in
theorem lt_one' (w : World) (A : Obj) : w.heap.size < (w.alloc A).heap.size := by unfold World.alloc; simp

set_option maxHeartbeats 6400000 in
set_option maxRecDepth 100000 in
theorem rrep_is (a : Option Addr) (cap : Nat) (ys : List Bd) (s : Spec.Sp) (w : World) (hs : Bs w a 4 cap ys) (hsh : ∀ y ∈ ys, y.n ≤ 1000) (hr : Spec.rep (bnums ys) = s) :
    Calls Try.prog 32 #[.slice a 4 cap, .string (strOfNums Spec.wREP)] w fun e w' => SpecIs w w' e s := by
  have hnc := hs.2.1
  have hcm := hs.2.2.1
  unfold maxLen at hcm
  have hl := hs.1
  obtain ⟨b1, o1, rfl, hb1, hc⟩ := hs.at (by omega)
  have hgood := hs.good
  have hbn := bnums_at ys
  have hmem : ∀ i, i < 4 → (ys.getD i Bd.no).n ≤ 1000 := fun i hi => by
    rw [List.getD_eq_getElem?_getD, List.getElem?_eq_getElem (by omega), Option.getD_some]
    exact hsh _ (List.getElem_mem _)
  have hx1 := hc 1 (by omega)
  have hg1 := hgood 1
  have hn1 := hmem 1 (by omega)
  have hz1 := hbn 1
  generalize ys.getD 1 Bd.no = y1 at hx1 hg1 hn1 hz1
  obtain ⟨a1, n1, c1, z1⟩ := y1
  change n1 ≤ 1000 at hn1
  change w.cell? ⟨b1, o1 + 1, none⟩ = some (.slice a1 n1 c1) at hx1
  change (bnums ys).getD 1 [] = z1 at hz1
  have HZ1 := Lib.hid hz1
  have HG1 : Hid (Sl .u8 w a1 n1 c1 z1) := hg1
  clear hg1 hz1
  have hx2 := hc 2 (by omega)
  have hg2 := hgood 2
  have hn2 := hmem 2 (by omega)
  have hz2 := hbn 2
  generalize ys.getD 2 Bd.no = y2 at hx2 hg2 hn2 hz2
  obtain ⟨a2, n2, c2, z2⟩ := y2
  change n2 ≤ 1000 at hn2
  change w.cell? ⟨b1, o1 + 2, none⟩ = some (.slice a2 n2 c2) at hx2
  change (bnums ys).getD 2 [] = z2 at hz2
  have HZ2 := Lib.hid hz2
  have HG2 : Hid (Sl .u8 w a2 n2 c2 z2) := hg2
  clear hg2 hz2
  have hx3 := hc 3 (by omega)
  have hg3 := hgood 3
  have hn3 := hmem 3 (by omega)
  have hz3 := hbn 3
  generalize ys.getD 3 Bd.no = y3 at hx3 hg3 hn3 hz3
  obtain ⟨a3, n3, c3, z3⟩ := y3
  change n3 ≤ 1000 at hn3
  change w.cell? ⟨b1, o1 + 3, none⟩ = some (.slice a3 n3 c3) at hx3
  change (bnums ys).getD 3 [] = z3 at hz3
  have HZ3 := Lib.hid hz3
  have HG3 : Hid (Sl .u8 w a3 n3 c3 z3) := hg3
  clear hg3 hz3
  have eREP : ((strOfNums Spec.wREP).toList == [82, 69, 80]) = true := word_is (g := Spec.wREP) Spec.wREP _ (by decide) (by decide) rfl (by decide)
  have eKEY : ((strOfNums Spec.wREP).toList == [75, 69, 89]) = false := word_is (g := Spec.wKEY) Spec.wREP _ (by decide) (by decide) rfl (by decide)
  have eMAP : ((strOfNums Spec.wREP).toList == [77, 65, 80]) = false := word_is (g := Spec.wMAP) Spec.wREP _ (by decide) (by decide) rfl (by decide)
  have HI : Hid ((Try.prog.info? 32).map (·.size) = some 2) := info_spec
  have HB : ∀ o, Hid (Below w.heap.size w (w.alloc o) ∧ w.heap.size + 1 ≤ (w.alloc o).heap.size) := fun o => ⟨(Below.refl _ w).alloc (Nat.le_refl _) o, by simp⟩
  have HNW : Hid (∀ o, (w.alloc o).heap[w.heap.size]? = some o) := fun o => heap_alloc_new w o
  have HCL : Hid (∀ (i : Nat) (W : World), i < 4 → Below w.heap.size w W → W.cell? ⟨b1, o1 + i, none⟩ = w.cell? ⟨b1, o1 + i, none⟩) := fun i W hi hB => hB.cell (p := ⟨b1, o1 + i, none⟩) hb1
  obtain ⟨l1, er1, hri⟩ := readIs_ex z1
  have HRI := Lib.hid hri
  have HR := Lib.hid hr
  have HLL : Hid (l1.length ≤ 1000) := by
    show _ ≤ _
    rcases hri with ⟨h, _⟩ | ⟨_, h, _⟩
    · have h1 := Utf.put_length_ge l1
      rw [h.2, HG1.out.1] at h1
      omega
    · rw [h]; simp
  clear hs hsh hr hl hc hgood hbn hmem hri
  go_enter Try.func32, Try.ntmps32
  go_wp2_with fail
  refine (rread_gen a1 n1 c1 z1 l1 er1 _ HRI.out (HG1.out.alloc _) (by omega)).mono ?_
  rintro e w1 ⟨a', c', rfl, hs1, hb⟩
  have HS1 := Lib.hid hs1
  have HBw1 : Hid (Below w.heap.size w w1 ∧ w.heap.size + 1 ≤ w1.heap.size) := ⟨(HB _).out.1.trans (hb.mono (HB _).out.1.size), Nat.le_trans (HB _).out.2 hb.size⟩
  have H0w1 : Hid (w1.heap[w.heap.size]? = some (.cells #[.slice none 0 0, .slice none 0 0] 32 (0, 0))) := (hb.block _ (lt_one' _ _)).trans (HNW.out _)
  clear hs1 hb
  have hx1w1 : w1.cell? ⟨b1, o1 + 1, none⟩ = some (.slice a1 n1 c1) := (HCL.out 1 w1 (by omega) HBw1.out.1).trans hx1
  have hx2w1 : w1.cell? ⟨b1, o1 + 2, none⟩ = some (.slice a2 n2 c2) := (HCL.out 2 w1 (by omega) HBw1.out.1).trans hx2
  have hx3w1 : w1.cell? ⟨b1, o1 + 3, none⟩ = some (.slice a3 n3 c3) := (HCL.out 3 w1 (by omega) HBw1.out.1).trans hx3
  go_wp2_with fail
  refine (rside_is a1 n1 c1 z1 _ w1 (HG1.out.below HBw1.out.1 (Nat.le_refl _)) (by omega) rfl).mono ?_
  rintro e w2 ⟨a4, m4, c4, l4, er4, rfl, hs4, hk4, hb⟩
  have HBw2 : Hid (Below w.heap.size w w2 ∧ w.heap.size + 1 ≤ w2.heap.size) := ⟨HBw1.out.1.trans (hb.mono HBw1.out.1.size), Nat.le_trans HBw1.out.2 hb.size⟩
  have H0w2 : Hid (w2.heap[w.heap.size]? = some (.cells #[.slice none 0 0, .slice none 0 0] 32 (0, 0))) := (hb.block _ (by have := HBw1.out.2; omega)).trans H0w1.out
  have HS4 := Lib.hid hs4
  have HK4 := Lib.hid hk4
  clear hs4 hk4 hb hx1w1 hx2w1 hx3w1
  have hx1w2 : w2.cell? ⟨b1, o1 + 1, none⟩ = some (.slice a1 n1 c1) := (HCL.out 1 w2 (by omega) HBw2.out.1).trans hx1
  have hx2w2 : w2.cell? ⟨b1, o1 + 2, none⟩ = some (.slice a2 n2 c2) := (HCL.out 2 w2 (by omega) HBw2.out.1).trans hx2
  have hx3w2 : w2.cell? ⟨b1, o1 + 3, none⟩ = some (.slice a3 n3 c3) := (HCL.out 3 w2 (by omega) HBw2.out.1).trans hx3
  go_wp2_with fail
  refine (rside_is a2 n2 c2 z2 _ w2 (HG2.out.below HBw2.out.1 (Nat.le_refl _)) (by omega) rfl).mono ?_
  rintro e w3 ⟨a5, m5, c5, l5, er5, rfl, hs5, hk5, hb⟩
  have HBw3 : Hid (Below w.heap.size w w3 ∧ w.heap.size + 1 ≤ w3.heap.size) := ⟨HBw2.out.1.trans (hb.mono HBw2.out.1.size), Nat.le_trans HBw2.out.2 hb.size⟩
  have H0w3 : Hid (w3.heap[w.heap.size]? = some (.cells #[.slice none 0 0, .slice none 0 0] 32 (0, 0))) := (hb.block _ (by have := HBw2.out.2; omega)).trans H0w2.out
  have HS5 := Lib.hid hs5
  have HK5 := Lib.hid hk5
  have HS43 : Hid (Sl .i64 w3 a4 m4 c4 l4) := HS4.out.below hb (Nat.le_refl _)
  clear hs5 hk5 hb hx1w2 hx2w2 hx3w2
  have hx1w3 : w3.cell? ⟨b1, o1 + 1, none⟩ = some (.slice a1 n1 c1) := (HCL.out 1 w3 (by omega) HBw3.out.1).trans hx1
  have hx2w3 : w3.cell? ⟨b1, o1 + 2, none⟩ = some (.slice a2 n2 c2) := (HCL.out 2 w3 (by omega) HBw3.out.1).trans hx2
  have hx3w3 : w3.cell? ⟨b1, o1 + 3, none⟩ = some (.slice a3 n3 c3) := (HCL.out 3 w3 (by omega) HBw3.out.1).trans hx3
  have hsw : Spec.rep (bnums ys) = (match Spec.side z1, Spec.side z2 with
      | some a, some b => Spec.last z3 fun c => Spec.told true [⟨a, b, c⟩]
      | _, _ => Spec.Sp.no 10) := by
    unfold Spec.rep; rw [HZ1.out, HZ2.out, HZ3.out]; cases Spec.side z1 <;> cases Spec.side z2 <;> rfl
  rw [HR.out] at hsw
  have HSW := Lib.hid hsw
  clear hsw
  have hk : (er4 = 10 ∧ s = Spec.Sp.no 10) ∨ (er4 = 0 ∧ er5 = 10 ∧ s = Spec.Sp.no 10) ∨ (er4 = 0 ∧ er5 = 0 ∧ Hid (s = Spec.last z3 fun c => Spec.told true [⟨l4, l5, c⟩])) := by
    rcases HK4.out with ⟨h4, e4⟩ | ⟨h4, _, e4⟩
    · rcases HK5.out with ⟨h5, e5⟩ | ⟨h5, _, e5⟩
      · exact .inr (.inr ⟨e4, e5, by show _ = _; rw [HSW.out, h4, h5]⟩)
      · exact .inr (.inl ⟨e4, e5, by rw [HSW.out, h4, h5]⟩)
    · exact .inl ⟨e4, by rw [HSW.out, h4]⟩
  clear HK4 HK5
  rcases hk with ⟨rfl, rfl⟩ | ⟨rfl, rfl, rfl⟩ | ⟨rfl, rfl, HSL⟩
  · go_wp2_with (refine wpList_store_g (by rfl) 32 (.tmp 4) (.tmp 45) (by rfl) w.heap.size #[.slice none 0 0, .slice none 0 0] (by rfl) (by rfl) 32 #[.slice none 0 0, .slice none 0 0] H0w3.out HI.out rfl (spec_cells _ _ _ _ _ _) ?_
                 intro w5 hw5 hgr5 hsz5
                 have HW5 := Lib.hid hw5
                 have HG5 := Lib.hid hgr5
                 have HB5 : Hid (Below w.heap.size w w5) := (HBw3.out.1).grown hgr5 (HBw3.out.1).size (fun k hk => by cases hk; exact Nat.le_refl _)
                 clear hw5 hgr5 hsz5)
    refine bodyPost_ret (results_cell_row_tmp rfl _ _ w.heap.size 32 #[.slice none 0 0, .slice none 0 0] (0, 0) _ (by rfl) HW5.out Try.underlying32 (by rfl) HI.out) rfl ?_
    exact ⟨none, 0, 0, none, 0, 0, [], rfl, Sl.nil, fun _ => rfl, Rs.nil, rfl, fun _ => rfl, HB5.out⟩
  · go_wp2_with (refine wpList_store_g (by rfl) 32 (.tmp 4) (.tmp 45) (by rfl) w.heap.size #[.slice none 0 0, .slice none 0 0] (by rfl) (by rfl) 32 #[.slice none 0 0, .slice none 0 0] H0w3.out HI.out rfl (spec_cells _ _ _ _ _ _) ?_
                 intro w5 hw5 hgr5 hsz5
                 have HW5 := Lib.hid hw5
                 have HG5 := Lib.hid hgr5
                 have HB5 : Hid (Below w.heap.size w w5) := (HBw3.out.1).grown hgr5 (HBw3.out.1).size (fun k hk => by cases hk; exact Nat.le_refl _)
                 clear hw5 hgr5 hsz5)
    refine bodyPost_ret (results_cell_row_tmp rfl _ _ w.heap.size 32 #[.slice none 0 0, .slice none 0 0] (0, 0) _ (by rfl) HW5.out Try.underlying32 (by rfl) HI.out) rfl ?_
    exact ⟨none, 0, 0, none, 0, 0, [], rfl, Sl.nil, fun _ => rfl, Rs.nil, rfl, fun _ => rfl, HB5.out⟩
  · go_wp2_with fail
    refine (rread_any a3 n3 c3 z3 w3 (HG3.out.below HBw3.out.1 (Nat.le_refl _))).mono ?_
    rintro e w4 ⟨ht, hb⟩
    have HBw4 : Hid (Below w.heap.size w w4 ∧ w.heap.size + 1 ≤ w4.heap.size) := ⟨HBw3.out.1.trans (hb.mono HBw3.out.1.size), Nat.le_trans HBw3.out.2 hb.size⟩
    have H0w4 : Hid (w4.heap[w.heap.size]? = some (.cells #[.slice none 0 0, .slice none 0 0] 32 (0, 0))) := (hb.block _ (by have := HBw3.out.2; omega)).trans H0w3.out
    have HS44 : Hid (Sl .i64 w4 a4 m4 c4 l4) := HS43.out.below hb (Nat.le_refl _)
    have HS54 : Hid (Sl .i64 w4 a5 m5 c5 l5) := HS5.out.below hb (Nat.le_refl _)
    clear hb hx1w3 hx2w3 hx3w3
    rcases ht with ⟨d, hd, rfl⟩ | ⟨hd, rfl⟩
    · have hdw : d < 18446744073709551615 := by have := (Num.read_some hd).2; omega
      obtain ⟨rs, hrs⟩ : ∃ rs : List Rul, rs = [⟨l4, l5, (d : Int)⟩] := ⟨_, rfl⟩
      have HT : Hid (Spec.told true rs = s) := by
        show _ = _
        rw [HSL.out]; unfold Spec.last; rw [hd, hrs]
      have HXX : Hid ((⟨a4, m4, c4, l4, a5, m5, c5, l5, (d : Int)⟩ : Rw).Good w4) := ⟨HS44.out, HS54.out, by show (0 : Int) ≤ d; omega, by show (d : Int) < _; omega⟩
      obtain ⟨xs, hxs⟩ : ∃ xs : List Rw, xs = [⟨a4, m4, c4, l4, a5, m5, c5, l5, (d : Int)⟩] := ⟨_, rfl⟩
      have HRU : Hid (ruls xs = rs) := by show _ = _; rw [hxs, hrs]; rfl
      have HXS := Lib.hid hxs
      have HRSS := Lib.hid hrs
      clear hd hrs hxs
      go_wp2
      generalize hV : World.alloc w4 _ = V
      have HRS4 : Hid (Rs V (some ⟨w4.heap.size, 0, none⟩) 1 1 xs) := by rw [HXS.out, ← hV]; exact Rs.single (HXX.out.alloc _) (RwAt.new w4 ⟨a4, m4, c4, l4, a5, m5, c5, l5, (d : Int)⟩ _)
      have HBV : Hid (Below w.heap.size w V ∧ w.heap.size + 1 ≤ V.heap.size) := by rw [← hV]; exact ⟨HBw4.out.1.alloc HBw4.out.1.size _, Nat.le_trans HBw4.out.2 (by simp)⟩
      have H0V : Hid (V.heap[w.heap.size]? = some (.cells #[.slice none 0 0, .slice none 0 0] 32 (0, 0))) := by rw [← hV, heap_alloc_old _ _ (show w.heap.size < w4.heap.size by have := HBw4.out.2; omega)]; exact H0w4.out
      clear hV
      generalize hra4 : (some ⟨w4.heap.size, 0, none⟩ : Option Addr) = ra at *
      have HRS : Hid (Rs V ra 1 1 xs) := HRS4.out
      have HCN : Hid (ra = none → 1 = 0) := fun h => by rw [h] at hra4; cases hra4
      clear hra4
      go_loopw [13, 14] (fun bx ix wr => ∃ (i : Nat) (b : Bool), i ≤ 1 ∧ ix = .int .i64 (i : Int) ∧ bx = .bool b ∧ Hid (b = (true && (rs.take i).all Spec.fit)) ∧ Hid (Below V.heap.size V wr)) (fun _ ix _ => 1 - (intOf ix).toNat)
      case atStart => exact ⟨0, true, Nat.zero_le _, rfl, rfl, by show _ = _; simp, Below.refl _ _⟩
      case round =>
        obtain ⟨i, b, hi, rfl, rfl, HBI, HBW⟩ := hrel
        have HBT : Hid (Below w.heap.size w wr) := HBV.out.1.trans (HBW.out.mono HBV.out.1.size)
        have H0W : Hid (wr.heap[w.heap.size]? = some (.cells #[.slice none 0 0, .slice none 0 0] 32 (0, 0))) := (HBW.out.block _ (by have := HBV.out.2; omega)).trans H0V.out
        by_cases hlt : i < 1
        · have hlti : (i : Int) < 1 := by omega
          obtain ⟨b1, o1, la, ln, lc, LL, ra1, rn1, rc1, RR, C1, hra, hbb, hx1, hx2, hx3, hsl, hsr, hC0, hC1, hz1⟩ := (HRS.out.below HBW.out (Nat.le_refl _)).one i hlt
          subst hra
          have HGX : Hid ((⟨la, ln, lc, LL, ra1, rn1, rc1, RR, C1⟩ : Rw).Good wr) := ⟨hsl, hsr, hC0, hC1⟩
          obtain ⟨fb, hfb⟩ : ∃ q, Spec.fit ⟨LL, RR, C1⟩ = q := ⟨_, rfl⟩
          have HFB := Lib.hid hfb
          have HTK : Hid (rs.take (i + 1) = rs.take i ++ [⟨LL, RR, C1⟩]) := by
            show _ = _
            rw [← HRU.out]
            exact take_rul (by rw [HRS.out.1]; exact hlt) hz1
          clear hsl hsr hC0 hC1 hz1 hfb
          go_wp2_with fail
          refine (rfit_is ⟨la, ln, lc, LL, ra1, rn1, rc1, RR, C1⟩ fb wr HGX.out HFB.out).mono ?_
          rintro e w9 ⟨rfl, hb9⟩
          have HB9 : Hid (Below V.heap.size V w9) := HBW.out.trans (hb9.mono HBW.out.size)
          clear hb9 hx1 hx2 hx3
          cases b
          · go_wp2
            go_roundw
            case rel => exact ⟨i + 1, false, by omega, by go_num, by first | rfl | trivial, by show _ = _; rw [HTK.out, List.all_append, ← Bool.and_assoc, ← HBI.out]; rfl, HB9.out⟩
            case measure => simp [intOf]; omega
          · go_wp2
            go_roundw
            case rel => exact ⟨i + 1, fb, by omega, by go_num, by first | rfl | trivial, by show _ = _; rw [HTK.out, List.all_append, ← Bool.and_assoc, ← HBI.out, ← HFB.out]; simp, HB9.out⟩
            case measure => simp [intOf]; omega
        · obtain rfl : 1 = i := by omega
          have hall : rs.take 1 = rs := List.take_of_length_le (by rw [← HRU.out, ruls_length, HRS.out.1]; exact Nat.le_refl _)
          have hb := HBI.out
          rw [hall] at hb
          have HS2 : Hid ((if b = true then (⟨0, [], rs⟩ : Spec.Sp) else Spec.Sp.no 60) = s) := by
            show _ = _
            rw [← HT.out, hb]
            unfold Spec.told
            cases h1 : true <;> cases h2 : rs.all Spec.fit <;> first | (simp; done) | (simp at h1; done) | rfl
          clear hall hb
          cases b
          · obtain rfl : s = Spec.Sp.no 60 := by rw [← HS2.out]; rfl
            go_wp2_with (refine wpList_store_g (by rfl) 32 (.tmp 4) (.tmp 98) (by rfl) w.heap.size #[.slice none 0 0, .slice none 0 0] (by rfl) (by rfl) 32 #[.slice none 0 0, .slice none 0 0] H0W.out HI.out rfl (spec_cells _ _ _ _ _ _) ?_
                         intro w5 hw5 hgr5 hsz5
                         have HW5 := Lib.hid hw5
                         have HG5 := Lib.hid hgr5
                         have HB5 : Hid (Below w.heap.size w w5) := (HBT.out).grown hgr5 (HBT.out).size (fun k hk => by cases hk; exact Nat.le_refl _)
                         clear hw5 hgr5 hsz5)
            refine bodyPost_ret (results_cell_row_tmp rfl _ _ w.heap.size 32 #[.slice none 0 0, .slice none 0 0] (0, 0) _ (by rfl) HW5.out Try.underlying32 (by rfl) HI.out) rfl ?_
            exact ⟨none, 0, 0, none, 0, 0, [], rfl, Sl.nil, fun _ => rfl, Rs.nil, rfl, fun _ => rfl, HB5.out⟩
          · obtain rfl : s = ⟨0, [], rs⟩ := by rw [← HS2.out]; rfl
            go_wp2_with (refine wpList_store_g (by rfl) 32 (.tmp 4) (.tmp 100) (by rfl) w.heap.size #[.slice none 0 0, .slice ra 1 1] (by rfl) (by rfl) 32 #[.slice none 0 0, .slice none 0 0] H0W.out HI.out rfl (spec_cells _ _ _ _ _ _) ?_
                         intro w5 hw5 hgr5 hsz5
                         have HW5 := Lib.hid hw5
                         have HG5 := Lib.hid hgr5
                         have HB5 : Hid (Below w.heap.size w w5) := (HBT.out).grown hgr5 (HBT.out).size (fun k hk => by cases hk; exact Nat.le_refl _)
                         clear hw5 hgr5 hsz5)
            have hgood : Rs w5 ra 1 1 xs := rs_kept (HRS.out.below HBW.out (Nat.le_refl _)) HG5.out H0W.out
            refine bodyPost_ret (results_cell_row_tmp rfl _ _ w.heap.size 32 #[.slice none 0 0, .slice ra 1 1] (0, 0) _ (by rfl) HW5.out Try.underlying32 (by rfl) HI.out) rfl ?_
            exact ⟨none, 0, 0, ra, 1, 1, xs, rfl, Sl.nil, fun _ => rfl, hgood, HRU.out, HCN.out, HB5.out⟩
    · obtain rfl : s = Spec.Sp.no 50 := by rw [HSL.out]; unfold Spec.last; rw [hd]
      clear hd
      go_wp2_with (refine wpList_store_g (by rfl) 32 (.tmp 4) (.tmp 58) (by rfl) w.heap.size #[.slice none 0 0, .slice none 0 0] (by rfl) (by rfl) 32 #[.slice none 0 0, .slice none 0 0] H0w4.out HI.out rfl (spec_cells _ _ _ _ _ _) ?_
                   intro w5 hw5 hgr5 hsz5
                   have HW5 := Lib.hid hw5
                   have HG5 := Lib.hid hgr5
                   have HB5 : Hid (Below w.heap.size w w5) := (HBw4.out.1).grown hgr5 (HBw4.out.1).size (fun k hk => by cases hk; exact Nat.le_refl _)
                   clear hw5 hgr5 hsz5)
      refine bodyPost_ret (results_cell_row_tmp rfl _ _ w.heap.size 32 #[.slice none 0 0, .slice none 0 0] (0, 0) _ (by rfl) HW5.out Try.underlying32 (by rfl) HI.out) rfl ?_
      exact ⟨none, 0, 0, none, 0, 0, [], rfl, Sl.nil, fun _ => rfl, Rs.nil, rfl, fun _ => rfl, HB5.out⟩

set_option maxHeartbeats 6400000 in
set_option maxRecDepth 100000 in
theorem rkey_is (a : Option Addr) (cap : Nat) (ys : List Bd) (s : Spec.Sp) (w : World) (hs : Bs w a 3 cap ys) (hsh : ∀ y ∈ ys, y.n ≤ 1000) (hr : Spec.key (bnums ys) = s) :
    Calls Try.prog 32 #[.slice a 3 cap, .string (strOfNums Spec.wKEY)] w fun e w' => SpecIs w w' e s := by
  have hnc := hs.2.1
  have hcm := hs.2.2.1
  unfold maxLen at hcm
  have hl := hs.1
  obtain ⟨b1, o1, rfl, hb1, hc⟩ := hs.at (by omega)
  have hgood := hs.good
  have hbn := bnums_at ys
  have hmem : ∀ i, i < 3 → (ys.getD i Bd.no).n ≤ 1000 := fun i hi => by
    rw [List.getD_eq_getElem?_getD, List.getElem?_eq_getElem (by omega), Option.getD_some]
    exact hsh _ (List.getElem_mem _)
  have hx1 := hc 1 (by omega)
  have hg1 := hgood 1
  have hn1 := hmem 1 (by omega)
  have hz1 := hbn 1
  generalize ys.getD 1 Bd.no = y1 at hx1 hg1 hn1 hz1
  obtain ⟨a1, n1, c1, z1⟩ := y1
  change n1 ≤ 1000 at hn1
  change w.cell? ⟨b1, o1 + 1, none⟩ = some (.slice a1 n1 c1) at hx1
  change (bnums ys).getD 1 [] = z1 at hz1
  have HZ1 := Lib.hid hz1
  have HG1 : Hid (Sl .u8 w a1 n1 c1 z1) := hg1
  clear hg1 hz1
  have hx2 := hc 2 (by omega)
  have hg2 := hgood 2
  have hn2 := hmem 2 (by omega)
  have hz2 := hbn 2
  generalize ys.getD 2 Bd.no = y2 at hx2 hg2 hn2 hz2
  obtain ⟨a2, n2, c2, z2⟩ := y2
  change n2 ≤ 1000 at hn2
  change w.cell? ⟨b1, o1 + 2, none⟩ = some (.slice a2 n2 c2) at hx2
  change (bnums ys).getD 2 [] = z2 at hz2
  have HZ2 := Lib.hid hz2
  have HG2 : Hid (Sl .u8 w a2 n2 c2 z2) := hg2
  clear hg2 hz2
  have eREP : ((strOfNums Spec.wKEY).toList == [82, 69, 80]) = false := word_is (g := Spec.wREP) Spec.wKEY _ (by decide) (by decide) rfl (by decide)
  have eKEY : ((strOfNums Spec.wKEY).toList == [75, 69, 89]) = true := word_is (g := Spec.wKEY) Spec.wKEY _ (by decide) (by decide) rfl (by decide)
  have eMAP : ((strOfNums Spec.wKEY).toList == [77, 65, 80]) = false := word_is (g := Spec.wMAP) Spec.wKEY _ (by decide) (by decide) rfl (by decide)
  have HI : Hid ((Try.prog.info? 32).map (·.size) = some 2) := info_spec
  have HB : ∀ o, Hid (Below w.heap.size w (w.alloc o) ∧ w.heap.size + 1 ≤ (w.alloc o).heap.size) := fun o => ⟨(Below.refl _ w).alloc (Nat.le_refl _) o, by simp⟩
  have HNW : Hid (∀ o, (w.alloc o).heap[w.heap.size]? = some o) := fun o => heap_alloc_new w o
  have HCL : Hid (∀ (i : Nat) (W : World), i < 3 → Below w.heap.size w W → W.cell? ⟨b1, o1 + i, none⟩ = w.cell? ⟨b1, o1 + i, none⟩) := fun i W hi hB => hB.cell (p := ⟨b1, o1 + i, none⟩) hb1
  obtain ⟨l1, er1, hri⟩ := readIs_ex z1
  have HRI := Lib.hid hri
  have HR := Lib.hid hr
  have HLL : Hid (l1.length ≤ 1000) := by
    show _ ≤ _
    rcases hri with ⟨h, _⟩ | ⟨_, h, _⟩
    · have h1 := Utf.put_length_ge l1
      rw [h.2, HG1.out.1] at h1
      omega
    · rw [h]; simp
  clear hs hsh hr hl hc hgood hbn hmem hri
  go_enter Try.func32, Try.ntmps32
  go_wp2_with fail
  refine (rread_gen a1 n1 c1 z1 l1 er1 _ HRI.out (HG1.out.alloc _) (by omega)).mono ?_
  rintro e w1 ⟨a', c', rfl, hs1, hb⟩
  have HS1 := Lib.hid hs1
  have HBw1 : Hid (Below w.heap.size w w1 ∧ w.heap.size + 1 ≤ w1.heap.size) := ⟨(HB _).out.1.trans (hb.mono (HB _).out.1.size), Nat.le_trans (HB _).out.2 hb.size⟩
  have H0w1 : Hid (w1.heap[w.heap.size]? = some (.cells #[.slice none 0 0, .slice none 0 0] 32 (0, 0))) := (hb.block _ (lt_one' _ _)).trans (HNW.out _)
  clear hs1 hb
  have hx1w1 : w1.cell? ⟨b1, o1 + 1, none⟩ = some (.slice a1 n1 c1) := (HCL.out 1 w1 (by omega) HBw1.out.1).trans hx1
  have hx2w1 : w1.cell? ⟨b1, o1 + 2, none⟩ = some (.slice a2 n2 c2) := (HCL.out 2 w1 (by omega) HBw1.out.1).trans hx2
  have hsw : Spec.key (bnums ys) = (match Spec.signs z1 with
      | some a => Spec.last z2 fun c => Spec.told (Spec.keysOk 0 a) (Spec.keysG c 0 0 a)
      | none => Spec.Sp.no 10) := by
    unfold Spec.key; rw [HZ1.out, HZ2.out]; cases Spec.signs z1 <;> rfl
  rw [HR.out] at hsw
  have hk : (er1 = 10 ∧ s = Spec.Sp.no 10) ∨ (er1 = 0 ∧ Hid (s = Spec.last z2 fun c => Spec.told (Spec.keysOk 0 l1) (Spec.keysG c 0 0 l1))) := by
    rcases HRI.out with ⟨h, e⟩ | ⟨h, _, e⟩
    · exact .inr ⟨e, by show _ = _; rw [hsw, Spec.signs_of h]⟩
    · exact .inl ⟨e, by rw [hsw, Spec.signs_of h]⟩
  clear hsw HRI
  rcases hk with ⟨rfl, rfl⟩ | ⟨rfl, HSL⟩
  · go_wp2_with (refine wpList_store_g (by rfl) 32 (.tmp 4) (.tmp 45) (by rfl) w.heap.size #[.slice none 0 0, .slice none 0 0] (by rfl) (by rfl) 32 #[.slice none 0 0, .slice none 0 0] H0w1.out HI.out rfl (spec_cells _ _ _ _ _ _) ?_
                 intro w5 hw5 hgr5 hsz5
                 have HW5 := Lib.hid hw5
                 have HG5 := Lib.hid hgr5
                 have HB5 : Hid (Below w.heap.size w w5) := (HBw1.out.1).grown hgr5 (HBw1.out.1).size (fun k hk => by cases hk; exact Nat.le_refl _)
                 clear hw5 hgr5 hsz5)
    refine bodyPost_ret (results_cell_row_tmp rfl _ _ w.heap.size 32 #[.slice none 0 0, .slice none 0 0] (0, 0) _ (by rfl) HW5.out Try.underlying32 (by rfl) HI.out) rfl ?_
    exact ⟨none, 0, 0, none, 0, 0, [], rfl, Sl.nil, fun _ => rfl, Rs.nil, rfl, fun _ => rfl, HB5.out⟩
  · go_wp2_with fail
    refine (rread_any a2 n2 c2 z2 w1 (HG2.out.below HBw1.out.1 (Nat.le_refl _))).mono ?_
    rintro e w4 ⟨ht, hb⟩
    have HBw4 : Hid (Below w.heap.size w w4 ∧ w.heap.size + 1 ≤ w4.heap.size) := ⟨HBw1.out.1.trans (hb.mono HBw1.out.1.size), Nat.le_trans HBw1.out.2 hb.size⟩
    have H0w4 : Hid (w4.heap[w.heap.size]? = some (.cells #[.slice none 0 0, .slice none 0 0] 32 (0, 0))) := (hb.block _ (by have := HBw1.out.2; omega)).trans H0w1.out
    have HS14 : Hid (Sl .i64 w4 a' l1.length c' l1) := HS1.out.below hb (Nat.le_refl _)
    clear hb hx1w1 hx2w1
    rcases ht with ⟨d, hd, rfl⟩ | ⟨hd, rfl⟩
    · have hdw : d < 18446744073709551615 := by have := (Num.read_some hd).2; omega
      obtain ⟨ok0, hok⟩ : ∃ q, Spec.keysOk 0 l1 = q := ⟨_, rfl⟩
      obtain ⟨rs, hrs⟩ : ∃ rs, Spec.keysG (d : Int) 0 0 l1 = rs := ⟨_, rfl⟩
      have HT : Hid (Spec.told ok0 rs = s) := by
        show _ = _
        rw [HSL.out]; unfold Spec.last; rw [hd]
        show _ = Spec.told (Spec.keysOk 0 l1) (Spec.keysG (d : Int) 0 0  l1)
        rw [hok, ← hrs]
      have HOK := Lib.hid hok
      have HRSS := Lib.hid hrs
      clear hd hok hrs
      go_wp2_with fail
      refine (rkeys_is a' l1.length c' l1 (d : Int) ok0 rs _ (HS14.out.alloc _) HLL.out (by omega) HOK.out HRSS.out).mono ?_
      rintro e V ⟨ra, m, rc, xs, rfl, hrs0, hru0, hcn0, hbv⟩
      have HRS := Lib.hid hrs0
      have HRU := Lib.hid hru0
      have HCN := Lib.hid hcn0
      have hmx : m ≤ 9223372036854775807 := by have h1 := hrs0.2.1; have h2 := hrs0.2.2.1; unfold maxLen at h2; omega
      have HBV : Hid (Below w.heap.size w V ∧ w.heap.size + 1 ≤ V.heap.size) := ⟨(HBw4.out.1.alloc HBw4.out.1.size _).trans (hbv.mono (by have := HBw4.out.2; simp; omega)), Nat.le_trans HBw4.out.2 (Nat.le_trans (by simp) hbv.size)⟩
      have H0V : Hid (V.heap[w.heap.size]? = some (.cells #[.slice none 0 0, .slice none 0 0] 32 (0, 0))) := by show _ = _; rw [hbv.block _ (by have := HBw4.out.2; simp; omega), heap_alloc_old _ _ (show w.heap.size < w4.heap.size by have := HBw4.out.2; omega)]; exact H0w4.out
      clear hrs0 hru0 hcn0 hbv
      go_wp2
      go_loopw [13, 14] (fun bx ix wr => ∃ (i : Nat) (b : Bool), i ≤ m ∧ ix = .int .i64 (i : Int) ∧ bx = .bool b ∧ Hid (b = (ok0 && (rs.take i).all Spec.fit)) ∧ Hid (Below V.heap.size V wr)) (fun _ ix _ => m - (intOf ix).toNat)
      case atStart => exact ⟨0, ok0, Nat.zero_le _, rfl, rfl, by show _ = _; simp, Below.refl _ _⟩
      case round =>
        obtain ⟨i, b, hi, rfl, rfl, HBI, HBW⟩ := hrel
        have HBT : Hid (Below w.heap.size w wr) := HBV.out.1.trans (HBW.out.mono HBV.out.1.size)
        have H0W : Hid (wr.heap[w.heap.size]? = some (.cells #[.slice none 0 0, .slice none 0 0] 32 (0, 0))) := (HBW.out.block _ (by have := HBV.out.2; omega)).trans H0V.out
        by_cases hlt : i < m
        · have hlti : (i : Int) < (m : Int) := by omega
          obtain ⟨b1, o1, la, ln, lc, LL, ra1, rn1, rc1, RR, C1, hra, hbb, hx1, hx2, hx3, hsl, hsr, hC0, hC1, hz1⟩ := (HRS.out.below HBW.out (Nat.le_refl _)).one i hlt
          subst hra
          have HGX : Hid ((⟨la, ln, lc, LL, ra1, rn1, rc1, RR, C1⟩ : Rw).Good wr) := ⟨hsl, hsr, hC0, hC1⟩
          obtain ⟨fb, hfb⟩ : ∃ q, Spec.fit ⟨LL, RR, C1⟩ = q := ⟨_, rfl⟩
          have HFB := Lib.hid hfb
          have HTK : Hid (rs.take (i + 1) = rs.take i ++ [⟨LL, RR, C1⟩]) := by
            show _ = _
            rw [← HRU.out]
            exact take_rul (by rw [HRS.out.1]; exact hlt) hz1
          clear hsl hsr hC0 hC1 hz1 hfb
          go_wp2_with fail
          refine (rfit_is ⟨la, ln, lc, LL, ra1, rn1, rc1, RR, C1⟩ fb wr HGX.out HFB.out).mono ?_
          rintro e w9 ⟨rfl, hb9⟩
          have HB9 : Hid (Below V.heap.size V w9) := HBW.out.trans (hb9.mono HBW.out.size)
          clear hb9 hx1 hx2 hx3
          cases b
          · go_wp2
            go_roundw
            case rel => exact ⟨i + 1, false, by omega, by go_num, by first | rfl | trivial, by show _ = _; rw [HTK.out, List.all_append, ← Bool.and_assoc, ← HBI.out]; rfl, HB9.out⟩
            case measure => simp [intOf]; omega
          · go_wp2
            go_roundw
            case rel => exact ⟨i + 1, fb, by omega, by go_num, by first | rfl | trivial, by show _ = _; rw [HTK.out, List.all_append, ← Bool.and_assoc, ← HBI.out, ← HFB.out]; simp, HB9.out⟩
            case measure => simp [intOf]; omega
        · obtain rfl : m = i := by omega
          have hall : rs.take m = rs := List.take_of_length_le (by rw [← HRU.out, ruls_length, HRS.out.1]; exact Nat.le_refl _)
          have hb := HBI.out
          rw [hall] at hb
          have HS2 : Hid ((if b = true then (⟨0, [], rs⟩ : Spec.Sp) else Spec.Sp.no 60) = s) := by
            show _ = _
            rw [← HT.out, hb]
            unfold Spec.told
            cases h1 : ok0 <;> cases h2 : rs.all Spec.fit <;> first | (simp; done) | (simp at h1; done) | rfl
          clear hall hb
          cases b
          · obtain rfl : s = Spec.Sp.no 60 := by rw [← HS2.out]; rfl
            go_wp2_with (refine wpList_store_g (by rfl) 32 (.tmp 4) (.tmp 98) (by rfl) w.heap.size #[.slice none 0 0, .slice none 0 0] (by rfl) (by rfl) 32 #[.slice none 0 0, .slice none 0 0] H0W.out HI.out rfl (spec_cells _ _ _ _ _ _) ?_
                         intro w5 hw5 hgr5 hsz5
                         have HW5 := Lib.hid hw5
                         have HG5 := Lib.hid hgr5
                         have HB5 : Hid (Below w.heap.size w w5) := (HBT.out).grown hgr5 (HBT.out).size (fun k hk => by cases hk; exact Nat.le_refl _)
                         clear hw5 hgr5 hsz5)
            refine bodyPost_ret (results_cell_row_tmp rfl _ _ w.heap.size 32 #[.slice none 0 0, .slice none 0 0] (0, 0) _ (by rfl) HW5.out Try.underlying32 (by rfl) HI.out) rfl ?_
            exact ⟨none, 0, 0, none, 0, 0, [], rfl, Sl.nil, fun _ => rfl, Rs.nil, rfl, fun _ => rfl, HB5.out⟩
          · obtain rfl : s = ⟨0, [], rs⟩ := by rw [← HS2.out]; rfl
            go_wp2_with (refine wpList_store_g (by rfl) 32 (.tmp 4) (.tmp 100) (by rfl) w.heap.size #[.slice none 0 0, .slice ra m rc] (by rfl) (by rfl) 32 #[.slice none 0 0, .slice none 0 0] H0W.out HI.out rfl (spec_cells _ _ _ _ _ _) ?_
                         intro w5 hw5 hgr5 hsz5
                         have HW5 := Lib.hid hw5
                         have HG5 := Lib.hid hgr5
                         have HB5 : Hid (Below w.heap.size w w5) := (HBT.out).grown hgr5 (HBT.out).size (fun k hk => by cases hk; exact Nat.le_refl _)
                         clear hw5 hgr5 hsz5)
            have hgood : Rs w5 ra m rc xs := rs_kept (HRS.out.below HBW.out (Nat.le_refl _)) HG5.out H0W.out
            refine bodyPost_ret (results_cell_row_tmp rfl _ _ w.heap.size 32 #[.slice none 0 0, .slice ra m rc] (0, 0) _ (by rfl) HW5.out Try.underlying32 (by rfl) HI.out) rfl ?_
            exact ⟨none, 0, 0, ra, m, rc, xs, rfl, Sl.nil, fun _ => rfl, hgood, HRU.out, HCN.out, HB5.out⟩
    · obtain rfl : s = Spec.Sp.no 50 := by rw [HSL.out]; unfold Spec.last; rw [hd]
      clear hd
      go_wp2_with (refine wpList_store_g (by rfl) 32 (.tmp 4) (.tmp 58) (by rfl) w.heap.size #[.slice none 0 0, .slice none 0 0] (by rfl) (by rfl) 32 #[.slice none 0 0, .slice none 0 0] H0w4.out HI.out rfl (spec_cells _ _ _ _ _ _) ?_
                   intro w5 hw5 hgr5 hsz5
                   have HW5 := Lib.hid hw5
                   have HG5 := Lib.hid hgr5
                   have HB5 : Hid (Below w.heap.size w w5) := (HBw4.out.1).grown hgr5 (HBw4.out.1).size (fun k hk => by cases hk; exact Nat.le_refl _)
                   clear hw5 hgr5 hsz5)
      refine bodyPost_ret (results_cell_row_tmp rfl _ _ w.heap.size 32 #[.slice none 0 0, .slice none 0 0] (0, 0) _ (by rfl) HW5.out Try.underlying32 (by rfl) HI.out) rfl ?_
      exact ⟨none, 0, 0, none, 0, 0, [], rfl, Sl.nil, fun _ => rfl, Rs.nil, rfl, fun _ => rfl, HB5.out⟩

set_option maxHeartbeats 6400000 in
set_option maxRecDepth 100000 in
theorem rmap_is (a : Option Addr) (cap : Nat) (ys : List Bd) (s : Spec.Sp) (w : World) (hs : Bs w a 3 cap ys) (hsh : ∀ y ∈ ys, y.n ≤ 1000) (hr : Spec.map (bnums ys) = s) :
    Calls Try.prog 32 #[.slice a 3 cap, .string (strOfNums Spec.wMAP)] w fun e w' => SpecIs w w' e s := by
  have hnc := hs.2.1
  have hcm := hs.2.2.1
  unfold maxLen at hcm
  have hl := hs.1
  obtain ⟨b1, o1, rfl, hb1, hc⟩ := hs.at (by omega)
  have hgood := hs.good
  have hbn := bnums_at ys
  have hmem : ∀ i, i < 3 → (ys.getD i Bd.no).n ≤ 1000 := fun i hi => by
    rw [List.getD_eq_getElem?_getD, List.getElem?_eq_getElem (by omega), Option.getD_some]
    exact hsh _ (List.getElem_mem _)
  have hx1 := hc 1 (by omega)
  have hg1 := hgood 1
  have hn1 := hmem 1 (by omega)
  have hz1 := hbn 1
  generalize ys.getD 1 Bd.no = y1 at hx1 hg1 hn1 hz1
  obtain ⟨a1, n1, c1, z1⟩ := y1
  change n1 ≤ 1000 at hn1
  change w.cell? ⟨b1, o1 + 1, none⟩ = some (.slice a1 n1 c1) at hx1
  change (bnums ys).getD 1 [] = z1 at hz1
  have HZ1 := Lib.hid hz1
  have HG1 : Hid (Sl .u8 w a1 n1 c1 z1) := hg1
  clear hg1 hz1
  have hx2 := hc 2 (by omega)
  have hg2 := hgood 2
  have hn2 := hmem 2 (by omega)
  have hz2 := hbn 2
  generalize ys.getD 2 Bd.no = y2 at hx2 hg2 hn2 hz2
  obtain ⟨a2, n2, c2, z2⟩ := y2
  change n2 ≤ 1000 at hn2
  change w.cell? ⟨b1, o1 + 2, none⟩ = some (.slice a2 n2 c2) at hx2
  change (bnums ys).getD 2 [] = z2 at hz2
  have HZ2 := Lib.hid hz2
  have HG2 : Hid (Sl .u8 w a2 n2 c2 z2) := hg2
  clear hg2 hz2
  have eREP : ((strOfNums Spec.wMAP).toList == [82, 69, 80]) = false := word_is (g := Spec.wREP) Spec.wMAP _ (by decide) (by decide) rfl (by decide)
  have eKEY : ((strOfNums Spec.wMAP).toList == [75, 69, 89]) = false := word_is (g := Spec.wKEY) Spec.wMAP _ (by decide) (by decide) rfl (by decide)
  have eMAP : ((strOfNums Spec.wMAP).toList == [77, 65, 80]) = true := word_is (g := Spec.wMAP) Spec.wMAP _ (by decide) (by decide) rfl (by decide)
  have HI : Hid ((Try.prog.info? 32).map (·.size) = some 2) := info_spec
  have HB : ∀ o, Hid (Below w.heap.size w (w.alloc o) ∧ w.heap.size + 1 ≤ (w.alloc o).heap.size) := fun o => ⟨(Below.refl _ w).alloc (Nat.le_refl _) o, by simp⟩
  have HNW : Hid (∀ o, (w.alloc o).heap[w.heap.size]? = some o) := fun o => heap_alloc_new w o
  have HCL : Hid (∀ (i : Nat) (W : World), i < 3 → Below w.heap.size w W → W.cell? ⟨b1, o1 + i, none⟩ = w.cell? ⟨b1, o1 + i, none⟩) := fun i W hi hB => hB.cell (p := ⟨b1, o1 + i, none⟩) hb1
  obtain ⟨l1, er1, hri⟩ := readIs_ex z1
  have HRI := Lib.hid hri
  have HR := Lib.hid hr
  have HLL : Hid (l1.length ≤ 1000) := by
    show _ ≤ _
    rcases hri with ⟨h, _⟩ | ⟨_, h, _⟩
    · have h1 := Utf.put_length_ge l1
      rw [h.2, HG1.out.1] at h1
      omega
    · rw [h]; simp
  clear hs hsh hr hl hc hgood hbn hmem hri
  go_enter Try.func32, Try.ntmps32
  go_wp2_with fail
  refine (rread_gen a1 n1 c1 z1 l1 er1 _ HRI.out (HG1.out.alloc _) (by omega)).mono ?_
  rintro e w1 ⟨a', c', rfl, hs1, hb⟩
  have HS1 := Lib.hid hs1
  have HBw1 : Hid (Below w.heap.size w w1 ∧ w.heap.size + 1 ≤ w1.heap.size) := ⟨(HB _).out.1.trans (hb.mono (HB _).out.1.size), Nat.le_trans (HB _).out.2 hb.size⟩
  have H0w1 : Hid (w1.heap[w.heap.size]? = some (.cells #[.slice none 0 0, .slice none 0 0] 32 (0, 0))) := (hb.block _ (lt_one' _ _)).trans (HNW.out _)
  clear hs1 hb
  have hx1w1 : w1.cell? ⟨b1, o1 + 1, none⟩ = some (.slice a1 n1 c1) := (HCL.out 1 w1 (by omega) HBw1.out.1).trans hx1
  have hx2w1 : w1.cell? ⟨b1, o1 + 2, none⟩ = some (.slice a2 n2 c2) := (HCL.out 2 w1 (by omega) HBw1.out.1).trans hx2
  have hsw : Spec.map (bnums ys) = (match Spec.signs z1 with
      | some a => Spec.last z2 fun c => Spec.told (Spec.mapsOk a) (Spec.mapsG c a)
      | none => Spec.Sp.no 10) := by
    unfold Spec.map; rw [HZ1.out, HZ2.out]; cases Spec.signs z1 <;> rfl
  rw [HR.out] at hsw
  have hk : (er1 = 10 ∧ s = Spec.Sp.no 10) ∨ (er1 = 0 ∧ Hid (s = Spec.last z2 fun c => Spec.told (Spec.mapsOk l1) (Spec.mapsG c l1))) := by
    rcases HRI.out with ⟨h, e⟩ | ⟨h, _, e⟩
    · exact .inr ⟨e, by show _ = _; rw [hsw, Spec.signs_of h]⟩
    · exact .inl ⟨e, by rw [hsw, Spec.signs_of h]⟩
  clear hsw HRI
  rcases hk with ⟨rfl, rfl⟩ | ⟨rfl, HSL⟩
  · go_wp2_with (refine wpList_store_g (by rfl) 32 (.tmp 4) (.tmp 45) (by rfl) w.heap.size #[.slice none 0 0, .slice none 0 0] (by rfl) (by rfl) 32 #[.slice none 0 0, .slice none 0 0] H0w1.out HI.out rfl (spec_cells _ _ _ _ _ _) ?_
                 intro w5 hw5 hgr5 hsz5
                 have HW5 := Lib.hid hw5
                 have HG5 := Lib.hid hgr5
                 have HB5 : Hid (Below w.heap.size w w5) := (HBw1.out.1).grown hgr5 (HBw1.out.1).size (fun k hk => by cases hk; exact Nat.le_refl _)
                 clear hw5 hgr5 hsz5)
    refine bodyPost_ret (results_cell_row_tmp rfl _ _ w.heap.size 32 #[.slice none 0 0, .slice none 0 0] (0, 0) _ (by rfl) HW5.out Try.underlying32 (by rfl) HI.out) rfl ?_
    exact ⟨none, 0, 0, none, 0, 0, [], rfl, Sl.nil, fun _ => rfl, Rs.nil, rfl, fun _ => rfl, HB5.out⟩
  · go_wp2_with fail
    refine (rread_any a2 n2 c2 z2 w1 (HG2.out.below HBw1.out.1 (Nat.le_refl _))).mono ?_
    rintro e w4 ⟨ht, hb⟩
    have HBw4 : Hid (Below w.heap.size w w4 ∧ w.heap.size + 1 ≤ w4.heap.size) := ⟨HBw1.out.1.trans (hb.mono HBw1.out.1.size), Nat.le_trans HBw1.out.2 hb.size⟩
    have H0w4 : Hid (w4.heap[w.heap.size]? = some (.cells #[.slice none 0 0, .slice none 0 0] 32 (0, 0))) := (hb.block _ (by have := HBw1.out.2; omega)).trans H0w1.out
    have HS14 : Hid (Sl .i64 w4 a' l1.length c' l1) := HS1.out.below hb (Nat.le_refl _)
    clear hb hx1w1 hx2w1
    rcases ht with ⟨d, hd, rfl⟩ | ⟨hd, rfl⟩
    · have hdw : d < 18446744073709551615 := by have := (Num.read_some hd).2; omega
      obtain ⟨ok0, hok⟩ : ∃ q, Spec.mapsOk l1 = q := ⟨_, rfl⟩
      obtain ⟨rs, hrs⟩ : ∃ rs, (if ok0 = true then Spec.mapsG (d : Int) l1 else []) = rs := ⟨_, rfl⟩
      have HT : Hid (Spec.told ok0 rs = s) := by
        show _ = _
        rw [HSL.out]; unfold Spec.last; rw [hd]
        show _ = Spec.told (Spec.mapsOk l1) (Spec.mapsG (d : Int)  l1)
        rw [hok, ← hrs]
        cases ok0 <;> rfl
      have HOK := Lib.hid hok
      have HRSS := Lib.hid hrs
      clear hd hok hrs
      go_wp2_with fail
      refine (rmaps_is a' l1.length c' l1 (d : Int) ok0 rs _ (HS14.out.alloc _) HLL.out (by omega) HOK.out HRSS.out).mono ?_
      rintro e V ⟨ra, m, rc, xs, rfl, hrs0, hru0, hcn0, hbv⟩
      have HRS := Lib.hid hrs0
      have HRU := Lib.hid hru0
      have HCN := Lib.hid hcn0
      have hmx : m ≤ 9223372036854775807 := by have h1 := hrs0.2.1; have h2 := hrs0.2.2.1; unfold maxLen at h2; omega
      have HBV : Hid (Below w.heap.size w V ∧ w.heap.size + 1 ≤ V.heap.size) := ⟨(HBw4.out.1.alloc HBw4.out.1.size _).trans (hbv.mono (by have := HBw4.out.2; simp; omega)), Nat.le_trans HBw4.out.2 (Nat.le_trans (by simp) hbv.size)⟩
      have H0V : Hid (V.heap[w.heap.size]? = some (.cells #[.slice none 0 0, .slice none 0 0] 32 (0, 0))) := by show _ = _; rw [hbv.block _ (by have := HBw4.out.2; simp; omega), heap_alloc_old _ _ (show w.heap.size < w4.heap.size by have := HBw4.out.2; omega)]; exact H0w4.out
      clear hrs0 hru0 hcn0 hbv
      go_wp2
      go_loopw [13, 14] (fun bx ix wr => ∃ (i : Nat) (b : Bool), i ≤ m ∧ ix = .int .i64 (i : Int) ∧ bx = .bool b ∧ Hid (b = (ok0 && (rs.take i).all Spec.fit)) ∧ Hid (Below V.heap.size V wr)) (fun _ ix _ => m - (intOf ix).toNat)
      case atStart => exact ⟨0, ok0, Nat.zero_le _, rfl, rfl, by show _ = _; simp, Below.refl _ _⟩
      case round =>
        obtain ⟨i, b, hi, rfl, rfl, HBI, HBW⟩ := hrel
        have HBT : Hid (Below w.heap.size w wr) := HBV.out.1.trans (HBW.out.mono HBV.out.1.size)
        have H0W : Hid (wr.heap[w.heap.size]? = some (.cells #[.slice none 0 0, .slice none 0 0] 32 (0, 0))) := (HBW.out.block _ (by have := HBV.out.2; omega)).trans H0V.out
        by_cases hlt : i < m
        · have hlti : (i : Int) < (m : Int) := by omega
          obtain ⟨b1, o1, la, ln, lc, LL, ra1, rn1, rc1, RR, C1, hra, hbb, hx1, hx2, hx3, hsl, hsr, hC0, hC1, hz1⟩ := (HRS.out.below HBW.out (Nat.le_refl _)).one i hlt
          subst hra
          have HGX : Hid ((⟨la, ln, lc, LL, ra1, rn1, rc1, RR, C1⟩ : Rw).Good wr) := ⟨hsl, hsr, hC0, hC1⟩
          obtain ⟨fb, hfb⟩ : ∃ q, Spec.fit ⟨LL, RR, C1⟩ = q := ⟨_, rfl⟩
          have HFB := Lib.hid hfb
          have HTK : Hid (rs.take (i + 1) = rs.take i ++ [⟨LL, RR, C1⟩]) := by
            show _ = _
            rw [← HRU.out]
            exact take_rul (by rw [HRS.out.1]; exact hlt) hz1
          clear hsl hsr hC0 hC1 hz1 hfb
          go_wp2_with fail
          refine (rfit_is ⟨la, ln, lc, LL, ra1, rn1, rc1, RR, C1⟩ fb wr HGX.out HFB.out).mono ?_
          rintro e w9 ⟨rfl, hb9⟩
          have HB9 : Hid (Below V.heap.size V w9) := HBW.out.trans (hb9.mono HBW.out.size)
          clear hb9 hx1 hx2 hx3
          cases b
          · go_wp2
            go_roundw
            case rel => exact ⟨i + 1, false, by omega, by go_num, by first | rfl | trivial, by show _ = _; rw [HTK.out, List.all_append, ← Bool.and_assoc, ← HBI.out]; rfl, HB9.out⟩
            case measure => simp [intOf]; omega
          · go_wp2
            go_roundw
            case rel => exact ⟨i + 1, fb, by omega, by go_num, by first | rfl | trivial, by show _ = _; rw [HTK.out, List.all_append, ← Bool.and_assoc, ← HBI.out, ← HFB.out]; simp, HB9.out⟩
            case measure => simp [intOf]; omega
        · obtain rfl : m = i := by omega
          have hall : rs.take m = rs := List.take_of_length_le (by rw [← HRU.out, ruls_length, HRS.out.1]; exact Nat.le_refl _)
          have hb := HBI.out
          rw [hall] at hb
          have HS2 : Hid ((if b = true then (⟨0, [], rs⟩ : Spec.Sp) else Spec.Sp.no 60) = s) := by
            show _ = _
            rw [← HT.out, hb]
            unfold Spec.told
            cases h1 : ok0 <;> cases h2 : rs.all Spec.fit <;> first | (simp; done) | (simp at h1; done) | rfl
          clear hall hb
          cases b
          · obtain rfl : s = Spec.Sp.no 60 := by rw [← HS2.out]; rfl
            go_wp2_with (refine wpList_store_g (by rfl) 32 (.tmp 4) (.tmp 98) (by rfl) w.heap.size #[.slice none 0 0, .slice none 0 0] (by rfl) (by rfl) 32 #[.slice none 0 0, .slice none 0 0] H0W.out HI.out rfl (spec_cells _ _ _ _ _ _) ?_
                         intro w5 hw5 hgr5 hsz5
                         have HW5 := Lib.hid hw5
                         have HG5 := Lib.hid hgr5
                         have HB5 : Hid (Below w.heap.size w w5) := (HBT.out).grown hgr5 (HBT.out).size (fun k hk => by cases hk; exact Nat.le_refl _)
                         clear hw5 hgr5 hsz5)
            refine bodyPost_ret (results_cell_row_tmp rfl _ _ w.heap.size 32 #[.slice none 0 0, .slice none 0 0] (0, 0) _ (by rfl) HW5.out Try.underlying32 (by rfl) HI.out) rfl ?_
            exact ⟨none, 0, 0, none, 0, 0, [], rfl, Sl.nil, fun _ => rfl, Rs.nil, rfl, fun _ => rfl, HB5.out⟩
          · obtain rfl : s = ⟨0, [], rs⟩ := by rw [← HS2.out]; rfl
            go_wp2_with (refine wpList_store_g (by rfl) 32 (.tmp 4) (.tmp 100) (by rfl) w.heap.size #[.slice none 0 0, .slice ra m rc] (by rfl) (by rfl) 32 #[.slice none 0 0, .slice none 0 0] H0W.out HI.out rfl (spec_cells _ _ _ _ _ _) ?_
                         intro w5 hw5 hgr5 hsz5
                         have HW5 := Lib.hid hw5
                         have HG5 := Lib.hid hgr5
                         have HB5 : Hid (Below w.heap.size w w5) := (HBT.out).grown hgr5 (HBT.out).size (fun k hk => by cases hk; exact Nat.le_refl _)
                         clear hw5 hgr5 hsz5)
            have hgood : Rs w5 ra m rc xs := rs_kept (HRS.out.below HBW.out (Nat.le_refl _)) HG5.out H0W.out
            refine bodyPost_ret (results_cell_row_tmp rfl _ _ w.heap.size 32 #[.slice none 0 0, .slice ra m rc] (0, 0) _ (by rfl) HW5.out Try.underlying32 (by rfl) HI.out) rfl ?_
            exact ⟨none, 0, 0, ra, m, rc, xs, rfl, Sl.nil, fun _ => rfl, hgood, HRU.out, HCN.out, HB5.out⟩
    · obtain rfl : s = Spec.Sp.no 50 := by rw [HSL.out]; unfold Spec.last; rw [hd]
      clear hd
      go_wp2_with (refine wpList_store_g (by rfl) 32 (.tmp 4) (.tmp 58) (by rfl) w.heap.size #[.slice none 0 0, .slice none 0 0] (by rfl) (by rfl) 32 #[.slice none 0 0, .slice none 0 0] H0w4.out HI.out rfl (spec_cells _ _ _ _ _ _) ?_
                   intro w5 hw5 hgr5 hsz5
                   have HW5 := Lib.hid hw5
                   have HG5 := Lib.hid hgr5
                   have HB5 : Hid (Below w.heap.size w w5) := (HBw4.out.1).grown hgr5 (HBw4.out.1).size (fun k hk => by cases hk; exact Nat.le_refl _)
                   clear hw5 hgr5 hsz5)
      refine bodyPost_ret (results_cell_row_tmp rfl _ _ w.heap.size 32 #[.slice none 0 0, .slice none 0 0] (0, 0) _ (by rfl) HW5.out Try.underlying32 (by rfl) HI.out) rfl ?_
      exact ⟨none, 0, 0, none, 0, 0, [], rfl, Sl.nil, fun _ => rfl, Rs.nil, rfl, fun _ => rfl, HB5.out⟩

end Go.Proofs.Ytdeicfdbjmpliaa

/- The document's Read of layer 7. Written by wip/gen/spec_read.py. -/
namespace Go.Proofs.Ytdeicfdbjmpliaa
open Go.RowKit

set_option maxRecDepth 100000 in
theorem fieldsA_short : ∀ (b cur : List Int), ∀ x ∈ Line.fieldsA cur b, x.length ≤ cur.length + b.length
  | [], cur, x, hx => by
    unfold Line.fieldsA at hx
    split at hx
    · simp at hx
    · simp only [List.mem_singleton] at hx; subst hx; simp
  | c :: cs, cur, x, hx => by
    unfold Line.fieldsA at hx
    simp only [List.length_cons]
    split at hx
    · split at hx
      · have := fieldsA_short cs [] x hx; simp at this; omega
      · rcases List.mem_cons.1 hx with rfl | hx
        · omega
        · have := fieldsA_short cs [] x hx; simp at this; omega
    · have := fieldsA_short cs (cur ++ [c]) x hx
      simp at this; omega
set_option maxRecDepth 100000 in
theorem fields_short {b : List Int} : ∀ x ∈ Line.fields b, x.length ≤ b.length := fun x hx => by
  have := fieldsA_short b [] x hx
  simpa using this

set_option maxHeartbeats 6400000 in
set_option maxRecDepth 100000 in
theorem rread7_is (a : Option Addr) (n cap : Nat) (zs : List Int) (s : Spec.Sp) (w : World) (hs : Sl .u8 w a n cap zs) (hn : n ≤ 1000) (hr : Spec.read zs = s) :
    Calls Try.prog 11 #[.slice a n cap] w fun e w' => SpecIs w w' e s := by
  obtain ⟨b, hbr⟩ : ∃ b, Line.bare zs = b := ⟨_, rfl⟩
  unfold Spec.read at hr
  rw [hbr] at hr
  have hzl := hs.1
  have HS := Lib.hid hs
  have HA := Lib.hid hbr
  have HI : Hid ((Try.prog.info? 32).map (·.size) = some 2) := info_spec
  have HB : ∀ o, Hid (Below w.heap.size w (w.alloc o) ∧ w.heap.size + 1 ≤ (w.alloc o).heap.size) := fun o => ⟨(Below.refl _ w).alloc (Nat.le_refl _) o, by simp⟩
  have HNW : Hid (∀ o, (w.alloc o).heap[w.heap.size]? = some o) := fun o => heap_alloc_new w o
  have HSHZ : Hid (∀ x ∈ Line.fields zs, x.length ≤ 1000) := fun x hx => by have := fields_short x hx; omega
  have HNE : Hid (b = false → 0 < (Line.fields zs).length) := fun h => by
    subst h
    unfold Line.bare at hbr
    cases hf : Line.fields zs with
    | nil => rw [hf] at hbr; cases hbr
    | cons f fs => simp
  clear hs hbr hzl
  go_enter Try.func11, Try.ntmps11
  go_wp2_with fail
  refine (rbare_is a n cap zs b _ (HS.out.alloc _) (by omega) HA.out).mono ?_
  rintro e w1 ⟨rfl, hb⟩
  have HBw1 : Hid (Below w.heap.size w w1 ∧ w.heap.size + 1 ≤ w1.heap.size) := ⟨(HB _).out.1.trans (hb.mono (HB _).out.1.size), Nat.le_trans (HB _).out.2 hb.size⟩
  have H0w1 : Hid (w1.heap[w.heap.size]? = some (.cells #[.slice none 0 0, .slice none 0 0] 32 (0, 0))) := (hb.block _ (lt_one' _ _)).trans (HNW.out _)
  clear hb
  cases b
  · have HR0 : Hid (Spec.byWord (Line.fields zs) = s) := by show _ = _; rw [← hr]; rfl
    have HNF := Lib.hid (HNE.out rfl)
    clear hr HNE
    go_wp2_with fail
    refine (rfields_any a n cap zs w1 (HS.out.below HBw1.out.1 (Nat.le_refl _)) (by omega)).mono ?_
    rintro e w2 ⟨a5, m5, c5, ys, rfl, hys, hyf, hyn, hb⟩
    have HBw2 : Hid (Below w.heap.size w w2 ∧ w.heap.size + 1 ≤ w2.heap.size) := ⟨HBw1.out.1.trans (hb.mono HBw1.out.1.size), Nat.le_trans HBw1.out.2 hb.size⟩
    have H0w2 : Hid (w2.heap[w.heap.size]? = some (.cells #[.slice none 0 0, .slice none 0 0] 32 (0, 0))) := (hb.block _ (by have := HBw1.out.2; omega)).trans H0w1.out
    have HYS := Lib.hid hys
    have HR : Hid (Spec.byWord (bnums ys) = s) := by show _ = _; rw [hyf]; exact HR0.out
    have HLN : Hid ((bnums ys).length = m5) := by show _ = _; rw [bnums_length, hys.1]
    have HSH : Hid (∀ y ∈ ys, y.n ≤ 1000) := fun y hy => by
      have h1 := HSHZ.out y.zs (by rw [← hyf]; exact List.mem_map_of_mem hy)
      rw [(hys.2.2.2.1 y hy).1] at h1
      exact h1
    have hm0 : 0 < m5 := by have := HNF.out; rw [← hyf, HLN.out] at this; exact this
    obtain ⟨b1, o1, a0, n0, c0, z0, rfl, hb1, _, hx0, hs0, hz0⟩ := hys.one 0 hm0
    change w2.cell? ⟨b1, o1, none⟩ = some (.slice a0 n0 c0) at hx0
    have hwf := hs0.2.2.2.1
    have hstr := hs0.str
    have HZ0 : Hid ((bnums ys).getD 0 [] = z0) := hz0
    have hm0i : (0 : Int) < (m5 : Int) := by omega
    clear hys hyf hyn hb hb1 hs0 hz0
    by_cases hBASE : z0 = Spec.wBASE
    · subst hBASE
      have eBASE : ((strOfNums Spec.wBASE).toList == [66, 65, 83, 69]) = true := word_is (g := Spec.wBASE) Spec.wBASE _ (by decide) (by decide) rfl (by decide)
      have eREP : ((strOfNums Spec.wBASE).toList == [82, 69, 80]) = false := word_is (g := Spec.wREP) Spec.wBASE _ (by decide) (by decide) rfl (by decide)
      have eKEY : ((strOfNums Spec.wBASE).toList == [75, 69, 89]) = false := word_is (g := Spec.wKEY) Spec.wBASE _ (by decide) (by decide) rfl (by decide)
      have eMAP : ((strOfNums Spec.wBASE).toList == [77, 65, 80]) = false := word_is (g := Spec.wMAP) Spec.wBASE _ (by decide) (by decide) rfl (by decide)
      have hsw : s = if m5 = 5 then Spec.base (bnums ys) else Spec.Sp.no 71 := by
        rw [← HR.out]; unfold Spec.byWord; rw [HZ0.out, if_pos rfl, HLN.out]
      clear hwf
      by_cases hm : m5 = 5
      · subst hm
        have HRR : Hid (Spec.base (bnums ys) = s) := by show _ = _; rw [hsw]; rfl
        clear hsw
        go_wp2_with fail
        refine (rbase_is _ c5 ys s w2 HYS.out HRR.out).mono ?_
        rintro e w3 ⟨ba, bn, bc, ra, rn, rc, xs, rfl, hbs, hbc, hrs, hru, hrc, hb⟩
        have HBw3 : Hid (Below w.heap.size w w3 ∧ w.heap.size + 1 ≤ w3.heap.size) := ⟨HBw2.out.1.trans (hb.mono HBw2.out.1.size), Nat.le_trans HBw2.out.2 hb.size⟩
        have H0w3 : Hid (w3.heap[w.heap.size]? = some (.cells #[.slice none 0 0, .slice none 0 0] 32 (0, 0))) := (hb.block _ (by have := HBw2.out.2; omega)).trans H0w2.out
        have HBS := Lib.hid hbs
        have HRS := Lib.hid hrs
        have HBC := Lib.hid hbc
        have HRC := Lib.hid hrc
        have HRU := Lib.hid hru
        clear hbs hrs hbc hrc hru hb
        go_wp2_with (refine wpList_store_g (by rfl) 32 (.tmp 2) (.tmp 38) (by rfl) w.heap.size #[.slice ba bn bc, .slice ra rn rc] (by rfl) (by rfl) 32 #[.slice none 0 0, .slice none 0 0] H0w3.out HI.out rfl (spec_cells _ _ _ _ _ _) ?_
                     intro w5 hw5 hgr5 hsz5
                     have HW5 := Lib.hid hw5
                     have HG5 := Lib.hid hgr5
                     have HB5 : Hid (Below w.heap.size w w5) := (HBw3.out.1).grown hgr5 (HBw3.out.1).size (fun k hk => by cases hk; exact Nat.le_refl _)
                     clear hw5 hgr5 hsz5)
        have hbase : Sl .u64 w5 ba bn bc s.base := HBS.out.grown HG5.out (slf_spec H0w3.out HBS.out)
        have hgood : Rs w5 ra rn rc xs := rs_kept HRS.out HG5.out H0w3.out
        refine bodyPost_ret (results_cell_row_tmp rfl _ _ w.heap.size 32 #[.slice ba bn bc, .slice ra rn rc] (0, 0) _ (by rfl) HW5.out Try.underlying32 (by rfl) HI.out) rfl ?_
        exact ⟨ba, bn, bc, ra, rn, rc, xs, rfl, hbase, HBC.out, hgood, HRU.out, HRC.out, HB5.out⟩
      · have hmi : ¬ (m5 : Int) = 5 := by omega
        have hmb : ((m5 : Int) == 5) = false := by simpa using hmi
        obtain rfl : s = Spec.Sp.no 71 := by rw [hsw, if_neg hm]
        clear hsw hm
        go_wp2_with (refine wpList_store_g (by rfl) 32 (.tmp 2) (.tmp 33) (by rfl) w.heap.size #[.slice none 0 0, .slice none 0 0] (by rfl) (by rfl) 32 #[.slice none 0 0, .slice none 0 0] H0w2.out HI.out rfl (spec_cells _ _ _ _ _ _) ?_
                     intro w5 hw5 hgr5 hsz5
                     have HW5 := Lib.hid hw5
                     have HG5 := Lib.hid hgr5
                     have HB5 : Hid (Below w.heap.size w w5) := (HBw2.out.1).grown hgr5 (HBw2.out.1).size (fun k hk => by cases hk; exact Nat.le_refl _)
                     clear hw5 hgr5 hsz5)
        refine bodyPost_ret (results_cell_row_tmp rfl _ _ w.heap.size 32 #[.slice none 0 0, .slice none 0 0] (0, 0) _ (by rfl) HW5.out Try.underlying32 (by rfl) HI.out) rfl ?_
        exact ⟨none, 0, 0, none, 0, 0, [], rfl, Sl.nil, fun _ => rfl, Rs.nil, rfl, fun _ => rfl, HB5.out⟩
    by_cases hREP : z0 = Spec.wREP
    · subst hREP
      have eBASE : ((strOfNums Spec.wREP).toList == [66, 65, 83, 69]) = false := word_is (g := Spec.wBASE) Spec.wREP _ (by decide) (by decide) rfl (by decide)
      have eREP : ((strOfNums Spec.wREP).toList == [82, 69, 80]) = true := word_is (g := Spec.wREP) Spec.wREP _ (by decide) (by decide) rfl (by decide)
      have eKEY : ((strOfNums Spec.wREP).toList == [75, 69, 89]) = false := word_is (g := Spec.wKEY) Spec.wREP _ (by decide) (by decide) rfl (by decide)
      have eMAP : ((strOfNums Spec.wREP).toList == [77, 65, 80]) = false := word_is (g := Spec.wMAP) Spec.wREP _ (by decide) (by decide) rfl (by decide)
      have hsw : s = if m5 = 4 then Spec.rep (bnums ys) else Spec.Sp.no 71 := by
        rw [← HR.out]; unfold Spec.byWord; rw [HZ0.out, if_neg (show ¬ Spec.wREP = Spec.wBASE by decide), if_pos rfl, HLN.out]
      clear hwf
      by_cases hm : m5 = 4
      · subst hm
        have HRR : Hid (Spec.rep (bnums ys) = s) := by show _ = _; rw [hsw]; rfl
        clear hsw
        go_wp2_with fail
        refine (rrep_is _ c5 ys s w2 HYS.out HSH.out HRR.out).mono ?_
        rintro e w3 ⟨ba, bn, bc, ra, rn, rc, xs, rfl, hbs, hbc, hrs, hru, hrc, hb⟩
        have HBw3 : Hid (Below w.heap.size w w3 ∧ w.heap.size + 1 ≤ w3.heap.size) := ⟨HBw2.out.1.trans (hb.mono HBw2.out.1.size), Nat.le_trans HBw2.out.2 hb.size⟩
        have H0w3 : Hid (w3.heap[w.heap.size]? = some (.cells #[.slice none 0 0, .slice none 0 0] 32 (0, 0))) := (hb.block _ (by have := HBw2.out.2; omega)).trans H0w2.out
        have HBS := Lib.hid hbs
        have HRS := Lib.hid hrs
        have HBC := Lib.hid hbc
        have HRC := Lib.hid hrc
        have HRU := Lib.hid hru
        clear hbs hrs hbc hrc hru hb
        go_wp2_with (refine wpList_store_g (by rfl) 32 (.tmp 2) (.tmp 43) (by rfl) w.heap.size #[.slice ba bn bc, .slice ra rn rc] (by rfl) (by rfl) 32 #[.slice none 0 0, .slice none 0 0] H0w3.out HI.out rfl (spec_cells _ _ _ _ _ _) ?_
                     intro w5 hw5 hgr5 hsz5
                     have HW5 := Lib.hid hw5
                     have HG5 := Lib.hid hgr5
                     have HB5 : Hid (Below w.heap.size w w5) := (HBw3.out.1).grown hgr5 (HBw3.out.1).size (fun k hk => by cases hk; exact Nat.le_refl _)
                     clear hw5 hgr5 hsz5)
        have hbase : Sl .u64 w5 ba bn bc s.base := HBS.out.grown HG5.out (slf_spec H0w3.out HBS.out)
        have hgood : Rs w5 ra rn rc xs := rs_kept HRS.out HG5.out H0w3.out
        refine bodyPost_ret (results_cell_row_tmp rfl _ _ w.heap.size 32 #[.slice ba bn bc, .slice ra rn rc] (0, 0) _ (by rfl) HW5.out Try.underlying32 (by rfl) HI.out) rfl ?_
        exact ⟨ba, bn, bc, ra, rn, rc, xs, rfl, hbase, HBC.out, hgood, HRU.out, HRC.out, HB5.out⟩
      · have hmi : ¬ (m5 : Int) = 4 := by omega
        have hmb : ((m5 : Int) == 4) = false := by simpa using hmi
        obtain rfl : s = Spec.Sp.no 71 := by rw [hsw, if_neg hm]
        clear hsw hm
        go_wp2_with (refine wpList_store_g (by rfl) 32 (.tmp 2) (.tmp 33) (by rfl) w.heap.size #[.slice none 0 0, .slice none 0 0] (by rfl) (by rfl) 32 #[.slice none 0 0, .slice none 0 0] H0w2.out HI.out rfl (spec_cells _ _ _ _ _ _) ?_
                     intro w5 hw5 hgr5 hsz5
                     have HW5 := Lib.hid hw5
                     have HG5 := Lib.hid hgr5
                     have HB5 : Hid (Below w.heap.size w w5) := (HBw2.out.1).grown hgr5 (HBw2.out.1).size (fun k hk => by cases hk; exact Nat.le_refl _)
                     clear hw5 hgr5 hsz5)
        refine bodyPost_ret (results_cell_row_tmp rfl _ _ w.heap.size 32 #[.slice none 0 0, .slice none 0 0] (0, 0) _ (by rfl) HW5.out Try.underlying32 (by rfl) HI.out) rfl ?_
        exact ⟨none, 0, 0, none, 0, 0, [], rfl, Sl.nil, fun _ => rfl, Rs.nil, rfl, fun _ => rfl, HB5.out⟩
    by_cases hKEY : z0 = Spec.wKEY
    · subst hKEY
      have eBASE : ((strOfNums Spec.wKEY).toList == [66, 65, 83, 69]) = false := word_is (g := Spec.wBASE) Spec.wKEY _ (by decide) (by decide) rfl (by decide)
      have eREP : ((strOfNums Spec.wKEY).toList == [82, 69, 80]) = false := word_is (g := Spec.wREP) Spec.wKEY _ (by decide) (by decide) rfl (by decide)
      have eKEY : ((strOfNums Spec.wKEY).toList == [75, 69, 89]) = true := word_is (g := Spec.wKEY) Spec.wKEY _ (by decide) (by decide) rfl (by decide)
      have eMAP : ((strOfNums Spec.wKEY).toList == [77, 65, 80]) = false := word_is (g := Spec.wMAP) Spec.wKEY _ (by decide) (by decide) rfl (by decide)
      have hsw : s = if m5 = 3 then Spec.key (bnums ys) else Spec.Sp.no 71 := by
        rw [← HR.out]; unfold Spec.byWord; rw [HZ0.out, if_neg (show ¬ Spec.wKEY = Spec.wBASE by decide), if_neg (show ¬ Spec.wKEY = Spec.wREP by decide), if_pos rfl, HLN.out]
      clear hwf
      by_cases hm : m5 = 3
      · subst hm
        have HRR : Hid (Spec.key (bnums ys) = s) := by show _ = _; rw [hsw]; rfl
        clear hsw
        go_wp2_with fail
        refine (rkey_is _ c5 ys s w2 HYS.out HSH.out HRR.out).mono ?_
        rintro e w3 ⟨ba, bn, bc, ra, rn, rc, xs, rfl, hbs, hbc, hrs, hru, hrc, hb⟩
        have HBw3 : Hid (Below w.heap.size w w3 ∧ w.heap.size + 1 ≤ w3.heap.size) := ⟨HBw2.out.1.trans (hb.mono HBw2.out.1.size), Nat.le_trans HBw2.out.2 hb.size⟩
        have H0w3 : Hid (w3.heap[w.heap.size]? = some (.cells #[.slice none 0 0, .slice none 0 0] 32 (0, 0))) := (hb.block _ (by have := HBw2.out.2; omega)).trans H0w2.out
        have HBS := Lib.hid hbs
        have HRS := Lib.hid hrs
        have HBC := Lib.hid hbc
        have HRC := Lib.hid hrc
        have HRU := Lib.hid hru
        clear hbs hrs hbc hrc hru hb
        go_wp2_with (refine wpList_store_g (by rfl) 32 (.tmp 2) (.tmp 43) (by rfl) w.heap.size #[.slice ba bn bc, .slice ra rn rc] (by rfl) (by rfl) 32 #[.slice none 0 0, .slice none 0 0] H0w3.out HI.out rfl (spec_cells _ _ _ _ _ _) ?_
                     intro w5 hw5 hgr5 hsz5
                     have HW5 := Lib.hid hw5
                     have HG5 := Lib.hid hgr5
                     have HB5 : Hid (Below w.heap.size w w5) := (HBw3.out.1).grown hgr5 (HBw3.out.1).size (fun k hk => by cases hk; exact Nat.le_refl _)
                     clear hw5 hgr5 hsz5)
        have hbase : Sl .u64 w5 ba bn bc s.base := HBS.out.grown HG5.out (slf_spec H0w3.out HBS.out)
        have hgood : Rs w5 ra rn rc xs := rs_kept HRS.out HG5.out H0w3.out
        refine bodyPost_ret (results_cell_row_tmp rfl _ _ w.heap.size 32 #[.slice ba bn bc, .slice ra rn rc] (0, 0) _ (by rfl) HW5.out Try.underlying32 (by rfl) HI.out) rfl ?_
        exact ⟨ba, bn, bc, ra, rn, rc, xs, rfl, hbase, HBC.out, hgood, HRU.out, HRC.out, HB5.out⟩
      · have hmi : ¬ (m5 : Int) = 3 := by omega
        have hmb : ((m5 : Int) == 3) = false := by simpa using hmi
        obtain rfl : s = Spec.Sp.no 71 := by rw [hsw, if_neg hm]
        clear hsw hm
        go_wp2_with (refine wpList_store_g (by rfl) 32 (.tmp 2) (.tmp 33) (by rfl) w.heap.size #[.slice none 0 0, .slice none 0 0] (by rfl) (by rfl) 32 #[.slice none 0 0, .slice none 0 0] H0w2.out HI.out rfl (spec_cells _ _ _ _ _ _) ?_
                     intro w5 hw5 hgr5 hsz5
                     have HW5 := Lib.hid hw5
                     have HG5 := Lib.hid hgr5
                     have HB5 : Hid (Below w.heap.size w w5) := (HBw2.out.1).grown hgr5 (HBw2.out.1).size (fun k hk => by cases hk; exact Nat.le_refl _)
                     clear hw5 hgr5 hsz5)
        refine bodyPost_ret (results_cell_row_tmp rfl _ _ w.heap.size 32 #[.slice none 0 0, .slice none 0 0] (0, 0) _ (by rfl) HW5.out Try.underlying32 (by rfl) HI.out) rfl ?_
        exact ⟨none, 0, 0, none, 0, 0, [], rfl, Sl.nil, fun _ => rfl, Rs.nil, rfl, fun _ => rfl, HB5.out⟩
    by_cases hMAP : z0 = Spec.wMAP
    · subst hMAP
      have eBASE : ((strOfNums Spec.wMAP).toList == [66, 65, 83, 69]) = false := word_is (g := Spec.wBASE) Spec.wMAP _ (by decide) (by decide) rfl (by decide)
      have eREP : ((strOfNums Spec.wMAP).toList == [82, 69, 80]) = false := word_is (g := Spec.wREP) Spec.wMAP _ (by decide) (by decide) rfl (by decide)
      have eKEY : ((strOfNums Spec.wMAP).toList == [75, 69, 89]) = false := word_is (g := Spec.wKEY) Spec.wMAP _ (by decide) (by decide) rfl (by decide)
      have eMAP : ((strOfNums Spec.wMAP).toList == [77, 65, 80]) = true := word_is (g := Spec.wMAP) Spec.wMAP _ (by decide) (by decide) rfl (by decide)
      have hsw : s = if m5 = 3 then Spec.map (bnums ys) else Spec.Sp.no 71 := by
        rw [← HR.out]; unfold Spec.byWord; rw [HZ0.out, if_neg (show ¬ Spec.wMAP = Spec.wBASE by decide), if_neg (show ¬ Spec.wMAP = Spec.wREP by decide), if_neg (show ¬ Spec.wMAP = Spec.wKEY by decide), if_pos rfl, HLN.out]
      clear hwf
      by_cases hm : m5 = 3
      · subst hm
        have HRR : Hid (Spec.map (bnums ys) = s) := by show _ = _; rw [hsw]; rfl
        clear hsw
        go_wp2_with fail
        refine (rmap_is _ c5 ys s w2 HYS.out HSH.out HRR.out).mono ?_
        rintro e w3 ⟨ba, bn, bc, ra, rn, rc, xs, rfl, hbs, hbc, hrs, hru, hrc, hb⟩
        have HBw3 : Hid (Below w.heap.size w w3 ∧ w.heap.size + 1 ≤ w3.heap.size) := ⟨HBw2.out.1.trans (hb.mono HBw2.out.1.size), Nat.le_trans HBw2.out.2 hb.size⟩
        have H0w3 : Hid (w3.heap[w.heap.size]? = some (.cells #[.slice none 0 0, .slice none 0 0] 32 (0, 0))) := (hb.block _ (by have := HBw2.out.2; omega)).trans H0w2.out
        have HBS := Lib.hid hbs
        have HRS := Lib.hid hrs
        have HBC := Lib.hid hbc
        have HRC := Lib.hid hrc
        have HRU := Lib.hid hru
        clear hbs hrs hbc hrc hru hb
        go_wp2_with (refine wpList_store_g (by rfl) 32 (.tmp 2) (.tmp 43) (by rfl) w.heap.size #[.slice ba bn bc, .slice ra rn rc] (by rfl) (by rfl) 32 #[.slice none 0 0, .slice none 0 0] H0w3.out HI.out rfl (spec_cells _ _ _ _ _ _) ?_
                     intro w5 hw5 hgr5 hsz5
                     have HW5 := Lib.hid hw5
                     have HG5 := Lib.hid hgr5
                     have HB5 : Hid (Below w.heap.size w w5) := (HBw3.out.1).grown hgr5 (HBw3.out.1).size (fun k hk => by cases hk; exact Nat.le_refl _)
                     clear hw5 hgr5 hsz5)
        have hbase : Sl .u64 w5 ba bn bc s.base := HBS.out.grown HG5.out (slf_spec H0w3.out HBS.out)
        have hgood : Rs w5 ra rn rc xs := rs_kept HRS.out HG5.out H0w3.out
        refine bodyPost_ret (results_cell_row_tmp rfl _ _ w.heap.size 32 #[.slice ba bn bc, .slice ra rn rc] (0, 0) _ (by rfl) HW5.out Try.underlying32 (by rfl) HI.out) rfl ?_
        exact ⟨ba, bn, bc, ra, rn, rc, xs, rfl, hbase, HBC.out, hgood, HRU.out, HRC.out, HB5.out⟩
      · have hmi : ¬ (m5 : Int) = 3 := by omega
        have hmb : ((m5 : Int) == 3) = false := by simpa using hmi
        obtain rfl : s = Spec.Sp.no 71 := by rw [hsw, if_neg hm]
        clear hsw hm
        go_wp2_with (refine wpList_store_g (by rfl) 32 (.tmp 2) (.tmp 33) (by rfl) w.heap.size #[.slice none 0 0, .slice none 0 0] (by rfl) (by rfl) 32 #[.slice none 0 0, .slice none 0 0] H0w2.out HI.out rfl (spec_cells _ _ _ _ _ _) ?_
                     intro w5 hw5 hgr5 hsz5
                     have HW5 := Lib.hid hw5
                     have HG5 := Lib.hid hgr5
                     have HB5 : Hid (Below w.heap.size w w5) := (HBw2.out.1).grown hgr5 (HBw2.out.1).size (fun k hk => by cases hk; exact Nat.le_refl _)
                     clear hw5 hgr5 hsz5)
        refine bodyPost_ret (results_cell_row_tmp rfl _ _ w.heap.size 32 #[.slice none 0 0, .slice none 0 0] (0, 0) _ (by rfl) HW5.out Try.underlying32 (by rfl) HI.out) rfl ?_
        exact ⟨none, 0, 0, none, 0, 0, [], rfl, Sl.nil, fun _ => rfl, Rs.nil, rfl, fun _ => rfl, HB5.out⟩
    have eBASE : ((strOfNums z0).toList == [66, 65, 83, 69]) = false := word_is (g := Spec.wBASE) z0 false hwf (by decide) rfl (decide_eq_false hBASE)
    have eREP : ((strOfNums z0).toList == [82, 69, 80]) = false := word_is (g := Spec.wREP) z0 false hwf (by decide) rfl (decide_eq_false hREP)
    have eKEY : ((strOfNums z0).toList == [75, 69, 89]) = false := word_is (g := Spec.wKEY) z0 false hwf (by decide) rfl (decide_eq_false hKEY)
    have eMAP : ((strOfNums z0).toList == [77, 65, 80]) = false := word_is (g := Spec.wMAP) z0 false hwf (by decide) rfl (decide_eq_false hMAP)
    obtain rfl : s = Spec.Sp.no 70 := by
      rw [← HR.out]; unfold Spec.byWord; rw [HZ0.out, if_neg hBASE, if_neg hREP, if_neg hKEY, if_neg hMAP]
    clear hwf hBASE hREP hKEY hMAP
    go_wp2_with (refine wpList_store_g (by rfl) 32 (.tmp 2) (.tmp 28) (by rfl) w.heap.size #[.slice none 0 0, .slice none 0 0] (by rfl) (by rfl) 32 #[.slice none 0 0, .slice none 0 0] H0w2.out HI.out rfl (spec_cells _ _ _ _ _ _) ?_
                 intro w5 hw5 hgr5 hsz5
                 have HW5 := Lib.hid hw5
                 have HG5 := Lib.hid hgr5
                 have HB5 : Hid (Below w.heap.size w w5) := (HBw2.out.1).grown hgr5 (HBw2.out.1).size (fun k hk => by cases hk; exact Nat.le_refl _)
                 clear hw5 hgr5 hsz5)
    refine bodyPost_ret (results_cell_row_tmp rfl _ _ w.heap.size 32 #[.slice none 0 0, .slice none 0 0] (0, 0) _ (by rfl) HW5.out Try.underlying32 (by rfl) HI.out) rfl ?_
    exact ⟨none, 0, 0, none, 0, 0, [], rfl, Sl.nil, fun _ => rfl, Rs.nil, rfl, fun _ => rfl, HB5.out⟩
  · obtain rfl : s = Spec.Sp.no 0 := by rw [← hr]; rfl
    go_wp2_with (refine wpList_store_g (by rfl) 32 (.tmp 2) (.tmp 9) (by rfl) w.heap.size #[.slice none 0 0, .slice none 0 0] (by rfl) (by rfl) 32 #[.slice none 0 0, .slice none 0 0] H0w1.out HI.out rfl (spec_cells _ _ _ _ _ _) ?_
                 intro w5 hw5 hgr5 hsz5
                 have HW5 := Lib.hid hw5
                 have HG5 := Lib.hid hgr5
                 have HB5 : Hid (Below w.heap.size w w5) := (HBw1.out.1).grown hgr5 (HBw1.out.1).size (fun k hk => by cases hk; exact Nat.le_refl _)
                 clear hw5 hgr5 hsz5)
    refine bodyPost_ret (results_cell_row_tmp rfl _ _ w.heap.size 32 #[.slice none 0 0, .slice none 0 0] (0, 0) _ (by rfl) HW5.out Try.underlying32 (by rfl) HI.out) rfl ?_
    exact ⟨none, 0, 0, none, 0, 0, [], rfl, Sl.nil, fun _ => rfl, Rs.nil, rfl, fun _ => rfl, HB5.out⟩

end Go.Proofs.Ytdeicfdbjmpliaa
