/- For every file and all costs, RulesBack answers true, and turns nothing that was there. No condition. -/
import Derived.Test.YtdondndalpmdgaaRows
import Derived.Test.YtdondndalpmdgaaFileAwake
import Derived.Test.YtdondndalpmdgaaPackN
import Derived.Test.YtdondndalpmdgaaPackO
import Derived.WalkKit
import Derived.ProofKit
import Derived.OpenShut
import Derived.ShutString
import Derived.ChangeOld
import Derived.Below
import Derived.Deep.Matrix
import Derived.SizedLaws
namespace Go.Proofs.Ytdondndalpmdgaa.rulesBack
open Go.ChangeShapes Go.WideShapes Go.ChangeAt Go.RowKit
set_option linter.unusedVariables false

theorem own : ownKnob Try.prog.godebug = none := by kernel_rfl
theorem laidOut : laidOutB Try.prog = true := by kernel_rfl

/-- a slice of integers that came in -/
def IsRow (k : IntKind) (w : World) (a : Option Addr) (len cap : Nat) (zs : List Int) : Prop :=
  (a = none ∧ len = 0 ∧ cap = 0 ∧ zs = []) ∨
  ∃ x, a = some x ∧ len ≤ cap ∧ cap ≤ maxLen ∧ zs.length = cap ∧ (∀ i, i < zs.length → w.cell? (x.add i) = some (.int k (zs.getD i 0))) ∧ ∀ n ∈ zs, (Lit.int k n).wf = true

theorem dig_len {x : Int} (h : x < 18446744073709551615) : (Num.dig x.toNat).length ≤ 20 := Num.len_20 (by omega)
theorem baseLine_len {b : List Int} (h : ∀ x ∈ b, x < 18446744073709551615) : (File.baseLine b).length ≤ 4 + b.length * 21 := by
  have key : ∀ b : List Int, (∀ x ∈ b, x < 18446744073709551615) → (b.flatMap fun x => 32 :: Num.dig x.toNat).length ≤ b.length * 21 := by
    intro b
    induction b with
    | nil => intro _; simp
    | cons x b ih =>
      intro h
      have h1 := ih fun y hy => h y (by simp [hy])
      have h2 := dig_len (h x (by simp))
      rw [List.flatMap_cons, List.length_append, List.length_cons, List.length_cons, Nat.succ_mul]
      omega
  unfold File.baseLine Spec.wBASE
  have := key b h
  simp only [List.length_append, List.length_cons, List.length_nil]
  omega
theorem write_len_any {r : Rul} (hl : r.L.length ≤ 8) (hr : r.R.length ≤ 8) (h1 : r.C < 18446744073709551615) : (Spec.write r).length ≤ 1000 := by
  have hf := field_len7 (l := r.L) (by omega)
  have hg := field_len7 (l := r.R) (by omega)
  have hd := dig_len h1
  unfold Spec.write
  simp only [List.length_append, List.length_cons, List.length_nil]
  omega
/-- what is read costs no less than nothing -/
theorem keys_nonneg (c : Int) (hc : 0 ≤ c) : ∀ (l : List Int) (row : Nat) (p : Int), ∀ r ∈ Spec.keysG c row p l, 0 ≤ r.C
  | [], _, _ => by simp [Spec.keysG]
  | x :: l, row, p => by
    unfold Spec.keysG
    split
    · exact keys_nonneg c hc l 0 x
    · intro r hr
      rcases List.mem_append.1 hr with hr | hr
      · split at hr
        · simp [Spec.both] at hr; rcases hr with rfl | rfl <;> exact hc
        · simp at hr
      · exact keys_nonneg c hc l (row + 1) x r hr
theorem told_sub {ok : Bool} {rs : List Rul} : ∀ r ∈ (Spec.told ok rs).rules, r ∈ rs := by
  unfold Spec.told; split
  · exact fun r h => h
  · simp [Spec.Sp.no]
theorem line_nonneg (l : List Int) : ∀ r ∈ (Spec.read l).rules, 0 ≤ r.C := by
  unfold Spec.read
  split
  · simp [Spec.Sp.no]
  · unfold Spec.byWord
    split
    · split
      · unfold Spec.base; split <;> simp [Spec.Sp.no]
      · simp [Spec.Sp.no]
    · split
      · split
        · unfold Spec.rep
          split
          · refine Spec.last_rules (P := fun s => ∀ r ∈ s.rules, 0 ≤ r.C) (by simp [Spec.Sp.no]) fun c _ r hr => ?_
            have := told_sub r hr
            rw [List.mem_singleton] at this
            subst this
            exact Int.natCast_nonneg c
          · simp [Spec.Sp.no]
        · simp [Spec.Sp.no]
      · split
        · split
          · unfold Spec.key
            split
            · refine Spec.last_rules (P := fun s => ∀ r ∈ s.rules, 0 ≤ r.C) (by simp [Spec.Sp.no]) fun c _ r hr => keys_nonneg _ (Int.natCast_nonneg c) _ _ _ r (told_sub r hr)
            · simp [Spec.Sp.no]
          · simp [Spec.Sp.no]
        · split
          · split
            · unfold Spec.map
              split
              · refine Spec.last_rules (P := fun s => ∀ r ∈ s.rules, 0 ≤ r.C) (by simp [Spec.Sp.no]) fun c _ r hr => ?_
                have h := told_sub r hr
                unfold Spec.mapsG at h
                obtain ⟨x, _, h⟩ := List.mem_flatMap.1 h
                unfold Spec.mapsA at h
                obtain ⟨y, _, h⟩ := List.mem_flatMap.1 h
                split at h
                · rw [List.mem_singleton] at h; subst h; exact Int.natCast_nonneg c
                · simp at h
              · simp [Spec.Sp.no]
            · simp [Spec.Sp.no]
          · simp [Spec.Sp.no]
theorem read_nonneg {b : List Int} {g : File.Got} (h : File.read b = g) (he : g.e = 0) : ∀ r ∈ g.c.rules, 0 ≤ r.C := by
  have ha := File.read_all (File.read_ok (b := b) (by rw [h]; exact he))
  rw [h] at ha
  subst ha
  intro r hr
  have hr' := ((isNorm_nrm _).2.1 r hr).1
  unfold File.flat at hr'
  obtain ⟨l, _, hr'⟩ := List.mem_flatMap.1 hr'
  exact line_nonneg l r hr'
theorem write_short {c : File.Cst} (h : File.check c = true) (h4b : c.base.length = 4) : ∀ x ∈ Line.split (File.write c), x.length ≤ 5000 := by
  obtain ⟨h1, h2, h3, h4⟩ := File.check_parts h
  rw [File.split_write (List.all_eq_true.2 h3)]
  intro x hx
  unfold File.lines at hx
  rcases List.mem_cons.1 hx with rfl | hx
  · have := baseLine_len h1
    omega
  · obtain ⟨r, hr, rfl⟩ := List.mem_map.1 hx
    have hs := fit_short (h3 r hr)
    exact Nat.le_trans (write_len_any hs.1 hs.2 (Spec.chk_sides (Spec.fit_parts (h3 r hr)).1).2.2) (by omega)
theorem zero_check : File.check File.Cst.zero = true := by decide +kernel
theorem read_nil : File.read [] = ⟨⟨[1, 1, 1, 1], []⟩, -1, 0⟩ := aw8_2

/-! ### STEP 1: the walk -/
set_option maxHeartbeats 6400000 in
set_option maxRecDepth 100000 in
theorem walk (a0 : Option Addr) (len0 cap0 : Nat) (z0 : List Int) (x1 : Cw) (w : World) (w0 : IsRow .u8 w a0 len0 cap0 z0) (w1 : x1.Good w) (n1 : x1.a = none → x1.cap = 0) :
    Calls Try.prog 3 #[.slice a0 len0 cap0, x1.v] w fun e w' => e = .returned (.bool true) ∧ Below w.heap.size w w' := by
  have hn00 : a0 = none → cap0 = 0 := by
    rcases w0 with ⟨_, _, h, _⟩ | ⟨x, h, _⟩
    · exact fun _ => h
    · intro h'; rw [h] at h'; cases h'
  have HN0 := Lib.hid hn00
  clear hn00
  have hs0 := Sl.of_row w0
  generalize z0.take len0 = xs at hs0
  have hcm0 := hs0.2.2.1
  have hnc0 := hs0.2.1
  unfold maxLen at hcm0
  have HS := Lib.hid hs0
  have HLEN0 := Lib.hid hs0.1
  clear hs0 w0
  obtain ⟨cm, cl, co, ct, ca, cn, ccap, cxs⟩ := x1
  have HX := Lib.hid w1
  have hccap := w1.1.2.1
  have hccap' := w1.1.2.2.1
  unfold maxLen at hccap'
  have HCB : Hid (∀ x ∈ (Cw.c (⟨cm, cl, co, ct, ca, cn, ccap, cxs⟩ : Cw)).base, 0 ≤ x) := fun x hx => (w1.2 x hx).1
  have HCR : Hid (∀ r ∈ (Cw.c (⟨cm, cl, co, ct, ca, cn, ccap, cxs⟩ : Cw)).rules, 0 ≤ r.C) := fun r hr => by
    obtain ⟨y, hy, rfl⟩ := List.mem_map.1 hr
    exact (w1.1.2.2.2.1 y hy).2.2.1
  clear w1 n1
  obtain ⟨cc, hcc⟩ : ∃ cc, Cw.c (⟨cm, cl, co, ct, ca, cn, ccap, cxs⟩ : Cw) = cc := ⟨_, rfl⟩
  have HCC := Lib.hid hcc
  rw [hcc] at HCB HCR
  have HC4 : Hid (cc.base.length = 4) := by show _ = _; rw [← hcc]; rfl
  clear hcc
  obtain ⟨ok, hok⟩ : ∃ ok, File.check cc = ok := ⟨_, rfl⟩
  have HOK := Lib.hid hok
  obtain ⟨gy, hgy⟩ : ∃ g, File.read xs = g := ⟨_, rfl⟩
  have HGY := Lib.hid hgy
  have HYB : Hid (gy.e ≠ 0 → (∃ k : Nat, gy.at_ = (k : Int)) ∧ gy.c = File.Cst.zero) := fun h => by
    obtain ⟨k, _, h2, h3, _⟩ := File.read_bad hgy h
    exact ⟨⟨k, h2⟩, h3⟩
  have HYC : Hid (File.check gy.c = true ∧ gy.c.base.length = 4 ∧ (∀ x ∈ gy.c.base, 0 ≤ x) ∧ ∀ r ∈ gy.c.rules, 0 ≤ r.C) := by
    by_cases h : gy.e = 0
    · obtain ⟨h1, h2, h3, _⟩ := File.read_may hgy h
      exact ⟨h1, h2, h3, read_nonneg hgy h⟩
    · obtain ⟨_, _, _, h3, _⟩ := File.read_bad hgy h
      rw [h3]
      exact ⟨zero_check, rfl, by simp [File.Cst.zero], by simp [File.Cst.zero]⟩
  have HBX : Hid (∀ o, Below w.heap.size w (w.alloc o)) := fun o => (Below.refl _ w).alloc (Nat.le_refl _) o
  have HNW : Hid (∀ o, (w.alloc o).heap[w.heap.size]? = some o) := fun o => heap_alloc_new w o
  have HSZ : Hid (∀ o, (w.alloc o).heap.size = w.heap.size + 1) := fun o => World.size_alloc w o
  clear hok hgy
  simp only [Cw.v, Cw.cells]
  have hor : 3000 < len0 ∨ len0 ≤ 3000 := by omega
  have hib : (3000 < len0 → (3000 : Int) < (len0 : Int)) ∧ (len0 ≤ 3000 → ¬ (3000 : Int) < (len0 : Int)) := ⟨fun h => by omega, fun h => by omega⟩
  rcases hor with g0 | g0
  · have hi0 := hib.1 g0
    clear hib
    go_enter Try.func3, Try.ntmps3
    go_wp2_with fail
    refine (awake_any _).mono ?_
    rintro e v1 ⟨rfl, B1⟩
    have HB1 : Hid (Below w.heap.size w v1) := (HBX.out _).trans (B1.mono (by simp))
    clear B1
    go_wp2
    go_ret
    exact ⟨rfl, HB1.out⟩
  have hi0 := hib.2 g0
  clear hib
  go_enter Try.func3, Try.ntmps3
  go_wp2_with fail
  refine (awake_any _).mono ?_
  rintro e v1 ⟨rfl, B1⟩
  have HB : Hid (Below w.heap.size w v1) := (HBX.out _).trans (B1.mono (by simp))
  have HP3 : Hid (v1.heap[w.heap.size]? = some (.cells #[Value.int .u64 cm, Value.int .u64 cl, Value.int .u64 co, Value.int .u64 ct, Value.slice ca cn ccap] 26 (0, 0))) := (B1.block _ (by rw [HSZ.out]; exact Nat.lt_succ_self _)).trans (HNW.out _)
  have HX := Lib.hid (HX.out.below HB.out (Nat.le_refl _))
  have HS := Lib.hid (HS.out.below HB.out (Nat.le_refl _))
  have hc4 : v1.cell? ⟨w.heap.size, 4, none⟩ = some (.slice ca cn ccap) := by simp [World.cell?, HP3.out]
  clear B1 HBX HNW HSZ
  go_wp2_with fail
  refine (rfew_any ca cn ccap cxs 300 (by omega) v1 HX.out.1).mono ?_
  rintro e v2 ⟨he | ⟨he, -, -⟩, hw2⟩
  · subst he
    obtain rfl := hw2.symm
    go_wp2
    go_ret
    exact ⟨rfl, HB.out⟩
  subst he
  obtain rfl := hw2.symm
  clear hc4
  cases ok
  · go_wp2_with (refine wpList_load_row_w (by rfl) 26 (.tmp 3) (by rfl) w.heap.size (by rfl) 26 #[Value.int .u64 cm, Value.int .u64 cl, Value.int .u64 co, Value.int .u64 ct, Value.slice ca cn ccap] (0, 0) _ HP3.out Try.underlying26 (by rfl) (show _ = some #[Value.int .u64 cm, Value.int .u64 cl, Value.int .u64 co, Value.int .u64 ct, Value.slice ca cn ccap].size from info_cost5) ?_)
    refine (fwrite_is (⟨cm, cl, co, ct, ca, cn, ccap, cxs⟩ : Cw) false [] 60 _ HX.out (by rw [HCC.out]; exact HOK.out) rfl rfl).mono ?_
    rintro e v3 ⟨wa, wn, wc, rfl, hwn, hsw, hwnil, hst, -⟩
    obtain rfl : wn = 0 := hwn
    have HB : Hid (Below w.heap.size w v3) := HB.out.trans (hst.mono HB.out.size)
    have HP3 := Lib.hid ((hst.block _ (Array.getElem?_eq_some_iff.1 HP3.out).1).trans HP3.out)
    have HX := Lib.hid (HX.out.below hst (Nat.le_refl _))
    have HS := Lib.hid (HS.out.below hst (Nat.le_refl _))
    have HSW0 := Lib.hid hsw
    have HWN0 := Lib.hid hwnil
    clear hst hsw hwnil
    go_wp2_with fail
    refine (fread_is wa 0 wc [] _ v3 HSW0.out HWN0.out (by omega) (split_short (K := 5000) (by simp)) read_nil).mono ?_
    rintro e v4 ⟨⟨m1, l1, o1, t1, p1, n1, c1, xs1⟩, rfl, -, -, -, -, hst⟩
    have HB : Hid (Below w.heap.size w v4) := HB.out.trans (hst.mono HB.out.size)
    have HP3 := Lib.hid ((hst.block _ (Array.getElem?_eq_some_iff.1 HP3.out).1).trans HP3.out)
    have HX := Lib.hid (HX.out.below hst (Nat.le_refl _))
    have HS := Lib.hid (HS.out.below hst (Nat.le_refl _))
    have HQ3 : Hid (∀ o, (v4.alloc o).heap[w.heap.size]? = some (.cells #[Value.int .u64 cm, Value.int .u64 cl, Value.int .u64 co, Value.int .u64 ct, Value.slice ca cn ccap] 26 (0, 0))) := fun o => ((World.grownBy_alloc v4 o none).block _ (Array.getElem?_eq_some_iff.1 HP3.out).1 (by simp)).trans HP3.out
    clear hst HSW0 HWN0
    simp only [Cw.v, Cw.cells]
    go_wp2_with (refine wpList_load_row_w (by rfl) 26 (.tmp 3) (by rfl) w.heap.size (by rfl) 26 #[Value.int .u64 cm, Value.int .u64 cl, Value.int .u64 co, Value.int .u64 ct, Value.slice ca cn ccap] (0, 0) _ (HQ3.out _) Try.underlying26 (by rfl) (show _ = some #[Value.int .u64 cm, Value.int .u64 cl, Value.int .u64 co, Value.int .u64 ct, Value.slice ca cn ccap].size from info_cost5) ?_)
    refine (fcheck_is (⟨cm, cl, co, ct, ca, cn, ccap, cxs⟩ : Cw) false _ (HX.out.alloc _) (by rw [HCC.out]; exact HOK.out)).mono ?_
    rintro e v5 ⟨rfl, hb⟩
    have hst := aw8_step HB.out hb
    have HB := Lib.hid hst.1
    have HS := Lib.hid (HS.out.below hst.2.1 (Nat.le_refl _))
    clear hst hb HX HP3 HQ3
    go_wp2_with fail
    refine (fread_is a0 len0 cap0 xs gy v5 HS.out HN0.out (by omega) (split_short (by have := HLEN0.out; omega)) HGY.out).mono ?_
    rintro e w35 ⟨⟨m3, l3, o3, t3, p3, n3, c3, xs3⟩, rfl, hcc, hgd, hnil, hnl, hst⟩
    have HCY : Hid (Cw.c (⟨m3, l3, o3, t3, p3, n3, c3, xs3⟩ : Cw) = gy.c) := hcc
    have HY := Lib.hid hgd
    have hcap3 := hgd.1.2.1
    have hcap3' := hgd.1.2.2.1
    unfold maxLen at hcap3'
    have HB : Hid (Below w.heap.size w w35) := HB.out.trans (hst.mono HB.out.size)
    clear hcc hgd hnil hst
    simp only [Cw.v, Cw.cells]
    go_wp2_with (refine wpList_load_row_w (by rfl) 26 (.tmp 12) (by rfl) w35.heap.size (by rfl) 26 #[Value.int .u64 m3, Value.int .u64 l3, Value.int .u64 o3, Value.int .u64 t3, Value.slice p3 n3 c3] (0, 0) _ (heap_alloc_new _ _) Try.underlying26 (by rfl) (show _ = some #[Value.int .u64 m3, Value.int .u64 l3, Value.int .u64 o3, Value.int .u64 t3, Value.slice p3 n3 c3].size from info_cost5) ?_)
    refine (fwrite_is (⟨m3, l3, o3, t3, p3, n3, c3, xs3⟩ : Cw) true (File.write gy.c) 0 _ (HY.out.alloc _) (by rw [HCY.out]; exact HYC.out.1) (by rw [if_pos rfl, HCY.out]) rfl).mono ?_
    rintro e w36 ⟨wa3, wn3, wc3, rfl, hwn, hsw, hwnil, hb, hwl⟩
    have hst := aw8_step HB.out hb
    have HB := Lib.hid hst.1
    have HP12 := Lib.hid hst.2.2
    have HY := Lib.hid (HY.out.below hst.2.1 (Nat.le_refl _))
    have HSW := Lib.hid hsw
    have HWN := Lib.hid hwnil
    clear hst hb hsw hwnil hwn
    go_wp2_with fail
    refine (fread_is wa3 wn3 wc3 (File.write gy.c) ⟨gy.c, -1, 0⟩ w36 HSW.out HWN.out (by omega) (write_short HYC.out.1 HYC.out.2.1) (File.read_write HYC.out.1 HYC.out.2.1 HYC.out.2.2.1 HYC.out.2.2.2)).mono ?_
    rintro e w37 ⟨⟨m4, l4, o4, t4, p4, n4, c4, xs4⟩, rfl, hcc, hgd, hnil, hnl2, hst⟩
    have HCZ : Hid (Cw.c (⟨m4, l4, o4, t4, p4, n4, c4, xs4⟩ : Cw) = gy.c) := hcc
    have HZ := Lib.hid hgd
    have HP12 := Lib.hid ((hst.block _ (Array.getElem?_eq_some_iff.1 HP12.out).1).trans HP12.out)
    have HY := Lib.hid (HY.out.below hst (Nat.le_refl _))
    have HB : Hid (Below w.heap.size w w37) := HB.out.trans (hst.mono HB.out.size)
    clear hcc hgd hnil hst HSW HWN
    simp only [Cw.v, Cw.cells]
    have HQ12 : Hid (∀ o, (w37.alloc o).heap[w35.heap.size]? = some (.cells #[Value.int .u64 m3, Value.int .u64 l3, Value.int .u64 o3, Value.int .u64 t3, Value.slice p3 n3 c3] 26 (0, 0))) := fun o => ((World.grownBy_alloc w37 o none).block _ (Array.getElem?_eq_some_iff.1 HP12.out).1 (by simp)).trans HP12.out
    have hq12 : ∀ o, (w37.alloc o).cell? ⟨w35.heap.size, 4, none⟩ = some (.slice p3 n3 c3) := fun o => by simp [World.cell?, HQ12.out o]
    have HBA : Hid (∀ o, Below w.heap.size w (w37.alloc o)) := fun o => HB.out.alloc HB.out.size o
    by_cases hye : gy.e = 0
    · have hye0 : (gy.e != 0) = false := by simp [hye]
      have hye1 : (gy.e == 0) = true := by simp [hye]
      go_wp2_with (refine wpList_load_row_w (by rfl) 26 (.tmp 12) (by rfl) w35.heap.size (by rfl) 26 #[Value.int .u64 m3, Value.int .u64 l3, Value.int .u64 o3, Value.int .u64 t3, Value.slice p3 n3 c3] (0, 0) _ (HQ12.out _) Try.underlying26 (by rfl) (show _ = some #[Value.int .u64 m3, Value.int .u64 l3, Value.int .u64 o3, Value.int .u64 t3, Value.slice p3 n3 c3].size from info_cost5) ?_)
      refine (fcheck_is (⟨m3, l3, o3, t3, p3, n3, c3, xs3⟩ : Cw) true _ (HY.out.alloc _) (by rw [HCY.out]; exact HYC.out.1)).mono ?_
      rintro e w38 ⟨rfl, hb⟩
      have hst := aw8_step HB.out hb
      have HB8 := Lib.hid hst.1
      have HP17 := Lib.hid hst.2.2
      have HP12' := Lib.hid ((hst.2.1.block _ (Array.getElem?_eq_some_iff.1 HP12.out).1).trans HP12.out)
      have HY8 := Lib.hid (HY.out.below hst.2.1 (Nat.le_refl _))
      have HZ8 := Lib.hid (HZ.out.below hst.2.1 (Nat.le_refl _))
      clear hst hb hq12
      go_wp2_with first
        | (refine wpList_load_row_w (by rfl) 26 (.tmp 17) (by rfl) w37.heap.size (by rfl) 26 #[Value.int .u64 m4, Value.int .u64 l4, Value.int .u64 o4, Value.int .u64 t4, Value.slice p4 n4 c4] (0, 0) _ HP17.out Try.underlying26 (by rfl) (show _ = some #[Value.int .u64 m4, Value.int .u64 l4, Value.int .u64 o4, Value.int .u64 t4, Value.slice p4 n4 c4].size from info_cost5) ?_)
        | (refine wpList_load_row_w (by rfl) 26 (.tmp 12) (by rfl) w35.heap.size (by rfl) 26 #[Value.int .u64 m3, Value.int .u64 l3, Value.int .u64 o3, Value.int .u64 t3, Value.slice p3 n3 c3] (0, 0) _ HP12'.out Try.underlying26 (by rfl) (show _ = some #[Value.int .u64 m3, Value.int .u64 l3, Value.int .u64 o3, Value.int .u64 t3, Value.slice p3 n3 c3].size from info_cost5) ?_)
      refine (rsame8_is (⟨m4, l4, o4, t4, p4, n4, c4, xs4⟩ : Cw) (⟨m3, l3, o3, t3, p3, n3, c3, xs3⟩ : Cw) w38 HZ8.out HY8.out (by rw [HCZ.out, HCY.out])).mono ?_
      rintro e w39 ⟨rfl, hb⟩
      have HB9 : Hid (Below w.heap.size w w39) := HB8.out.trans (hb.mono HB8.out.size)
      clear hb
      go_wp2
      go_ret
      exact ⟨rfl, HB9.out⟩
    · have hye0 : (gy.e != 0) = true := by simpa using hye
      have hye1 : (gy.e == 0) = false := by simpa using hye
      obtain ⟨hat, hzero⟩ := HYB.out hye
      obtain ⟨k, hk⟩ := hat
      have hge : (0 : Int) ≤ gy.at_ := by omega
      obtain rfl : n3 = 0 := by
        have h1 := HCY.out
        rw [hzero] at h1
        have h2 := congrArg File.Cst.rules h1
        have h3 : (ruls xs3).length = 0 := by rw [show ruls xs3 = [] from h2]; rfl
        rw [ruls_length, HY.out.1.1] at h3
        exact h3
      clear hk hzero
      go_wp2
      go_ret
      exact ⟨rfl, HBA.out _⟩
  · go_wp2_with (refine wpList_load_row_w (by rfl) 26 (.tmp 3) (by rfl) w.heap.size (by rfl) 26 #[Value.int .u64 cm, Value.int .u64 cl, Value.int .u64 co, Value.int .u64 ct, Value.slice ca cn ccap] (0, 0) _ HP3.out Try.underlying26 (by rfl) (show _ = some #[Value.int .u64 cm, Value.int .u64 cl, Value.int .u64 co, Value.int .u64 ct, Value.slice ca cn ccap].size from info_cost5) ?_)
    refine (fwrite_is (⟨cm, cl, co, ct, ca, cn, ccap, cxs⟩ : Cw) true (File.write cc) 0 _ HX.out (by rw [HCC.out]; exact HOK.out) (by rw [if_pos rfl, HCC.out]) rfl).mono ?_
    rintro e v3 ⟨wa, wn, wc, rfl, hwn, hsw, hwnil, hst, hwl⟩
    have HB : Hid (Below w.heap.size w v3) := HB.out.trans (hst.mono HB.out.size)
    have HP3 := Lib.hid ((hst.block _ (Array.getElem?_eq_some_iff.1 HP3.out).1).trans HP3.out)
    have HX := Lib.hid (HX.out.below hst (Nat.le_refl _))
    have HS := Lib.hid (HS.out.below hst (Nat.le_refl _))
    have HSW0 := Lib.hid hsw
    have HWN0 := Lib.hid hwnil
    clear hst hsw hwnil hwn
    go_wp2_with fail
    refine (fread_is wa wn wc (File.write cc) ⟨cc, -1, 0⟩ v3 HSW0.out HWN0.out (by omega) (write_short HOK.out HC4.out) (File.read_write HOK.out HC4.out HCB.out HCR.out)).mono ?_
    rintro e v4 ⟨⟨m1, l1, o1, t1, p1, n1, c1, xs1⟩, rfl, hcx, hgd, -, -, hst⟩
    have HB : Hid (Below w.heap.size w v4) := HB.out.trans (hst.mono HB.out.size)
    have HP3 := Lib.hid ((hst.block _ (Array.getElem?_eq_some_iff.1 HP3.out).1).trans HP3.out)
    have HX := Lib.hid (HX.out.below hst (Nat.le_refl _))
    have HS := Lib.hid (HS.out.below hst (Nat.le_refl _))
    have HCX : Hid (Cw.c (⟨m1, l1, o1, t1, p1, n1, c1, xs1⟩ : Cw) = cc) := hcx
    have HG1 := Lib.hid hgd
    have HQ3 : Hid (∀ o, (v4.alloc o).heap[w.heap.size]? = some (.cells #[Value.int .u64 cm, Value.int .u64 cl, Value.int .u64 co, Value.int .u64 ct, Value.slice ca cn ccap] 26 (0, 0))) := fun o => ((World.grownBy_alloc v4 o none).block _ (Array.getElem?_eq_some_iff.1 HP3.out).1 (by simp)).trans HP3.out
    clear hst HSW0 HWN0 hcx hgd
    simp only [Cw.v, Cw.cells]
    go_wp2_with first
      | (refine wpList_load_row_w (by rfl) 26 (.tmp 8) (by rfl) v4.heap.size (by rfl) 26 #[Value.int .u64 m1, Value.int .u64 l1, Value.int .u64 o1, Value.int .u64 t1, Value.slice p1 n1 c1] (0, 0) _ (heap_alloc_new _ _) Try.underlying26 (by rfl) (show _ = some #[Value.int .u64 m1, Value.int .u64 l1, Value.int .u64 o1, Value.int .u64 t1, Value.slice p1 n1 c1].size from info_cost5) ?_)
      | (refine wpList_load_row_w (by rfl) 26 (.tmp 3) (by rfl) w.heap.size (by rfl) 26 #[Value.int .u64 cm, Value.int .u64 cl, Value.int .u64 co, Value.int .u64 ct, Value.slice ca cn ccap] (0, 0) _ (HQ3.out _) Try.underlying26 (by rfl) (show _ = some #[Value.int .u64 cm, Value.int .u64 cl, Value.int .u64 co, Value.int .u64 ct, Value.slice ca cn ccap].size from info_cost5) ?_)
    refine (rsame8_is (⟨m1, l1, o1, t1, p1, n1, c1, xs1⟩ : Cw) (⟨cm, cl, co, ct, ca, cn, ccap, cxs⟩ : Cw) _ (HG1.out.alloc _) (HX.out.alloc _) (by rw [HCX.out, HCC.out])).mono ?_
    rintro e v5 ⟨rfl, hb⟩
    have hst := aw8_step HB.out hb
    have HB := Lib.hid hst.1
    have HS := Lib.hid (HS.out.below hst.2.1 (Nat.le_refl _))
    clear hst hb HX HP3 HQ3 HG1
    go_wp2_with fail
    refine (fread_is a0 len0 cap0 xs gy v5 HS.out HN0.out (by omega) (split_short (by have := HLEN0.out; omega)) HGY.out).mono ?_
    rintro e w55 ⟨⟨m5, l5, o5, t5, p5, n5, c5, xs5⟩, rfl, hcc, hgd, hnil, hnl, hst⟩
    have HCY : Hid (Cw.c (⟨m5, l5, o5, t5, p5, n5, c5, xs5⟩ : Cw) = gy.c) := hcc
    have HY := Lib.hid hgd
    have hcap5 := hgd.1.2.1
    have hcap5' := hgd.1.2.2.1
    unfold maxLen at hcap5'
    have HB : Hid (Below w.heap.size w w55) := HB.out.trans (hst.mono HB.out.size)
    clear hcc hgd hnil hst
    simp only [Cw.v, Cw.cells]
    go_wp2_with (refine wpList_load_row_w (by rfl) 26 (.tmp 12) (by rfl) w55.heap.size (by rfl) 26 #[Value.int .u64 m5, Value.int .u64 l5, Value.int .u64 o5, Value.int .u64 t5, Value.slice p5 n5 c5] (0, 0) _ (heap_alloc_new _ _) Try.underlying26 (by rfl) (show _ = some #[Value.int .u64 m5, Value.int .u64 l5, Value.int .u64 o5, Value.int .u64 t5, Value.slice p5 n5 c5].size from info_cost5) ?_)
    refine (fwrite_is (⟨m5, l5, o5, t5, p5, n5, c5, xs5⟩ : Cw) true (File.write gy.c) 0 _ (HY.out.alloc _) (by rw [HCY.out]; exact HYC.out.1) (by rw [if_pos rfl, HCY.out]) rfl).mono ?_
    rintro e w56 ⟨wa5, wn5, wc5, rfl, hwn, hsw, hwnil, hb, hwl⟩
    have hst := aw8_step HB.out hb
    have HB := Lib.hid hst.1
    have HP12 := Lib.hid hst.2.2
    have HY := Lib.hid (HY.out.below hst.2.1 (Nat.le_refl _))
    have HSW := Lib.hid hsw
    have HWN := Lib.hid hwnil
    clear hst hb hsw hwnil hwn
    go_wp2_with fail
    refine (fread_is wa5 wn5 wc5 (File.write gy.c) ⟨gy.c, -1, 0⟩ w56 HSW.out HWN.out (by omega) (write_short HYC.out.1 HYC.out.2.1) (File.read_write HYC.out.1 HYC.out.2.1 HYC.out.2.2.1 HYC.out.2.2.2)).mono ?_
    rintro e w57 ⟨⟨m6, l6, o6, t6, p6, n6, c6, xs6⟩, rfl, hcc, hgd, hnil, hnl2, hst⟩
    have HCZ : Hid (Cw.c (⟨m6, l6, o6, t6, p6, n6, c6, xs6⟩ : Cw) = gy.c) := hcc
    have HZ := Lib.hid hgd
    have HP12 := Lib.hid ((hst.block _ (Array.getElem?_eq_some_iff.1 HP12.out).1).trans HP12.out)
    have HY := Lib.hid (HY.out.below hst (Nat.le_refl _))
    have HB : Hid (Below w.heap.size w w57) := HB.out.trans (hst.mono HB.out.size)
    clear hcc hgd hnil hst HSW HWN
    simp only [Cw.v, Cw.cells]
    have HQ12 : Hid (∀ o, (w57.alloc o).heap[w55.heap.size]? = some (.cells #[Value.int .u64 m5, Value.int .u64 l5, Value.int .u64 o5, Value.int .u64 t5, Value.slice p5 n5 c5] 26 (0, 0))) := fun o => ((World.grownBy_alloc w57 o none).block _ (Array.getElem?_eq_some_iff.1 HP12.out).1 (by simp)).trans HP12.out
    have hq12 : ∀ o, (w57.alloc o).cell? ⟨w55.heap.size, 4, none⟩ = some (.slice p5 n5 c5) := fun o => by simp [World.cell?, HQ12.out o]
    have HBA : Hid (∀ o, Below w.heap.size w (w57.alloc o)) := fun o => HB.out.alloc HB.out.size o
    by_cases hye : gy.e = 0
    · have hye0 : (gy.e != 0) = false := by simp [hye]
      have hye1 : (gy.e == 0) = true := by simp [hye]
      go_wp2_with (refine wpList_load_row_w (by rfl) 26 (.tmp 12) (by rfl) w55.heap.size (by rfl) 26 #[Value.int .u64 m5, Value.int .u64 l5, Value.int .u64 o5, Value.int .u64 t5, Value.slice p5 n5 c5] (0, 0) _ (HQ12.out _) Try.underlying26 (by rfl) (show _ = some #[Value.int .u64 m5, Value.int .u64 l5, Value.int .u64 o5, Value.int .u64 t5, Value.slice p5 n5 c5].size from info_cost5) ?_)
      refine (fcheck_is (⟨m5, l5, o5, t5, p5, n5, c5, xs5⟩ : Cw) true _ (HY.out.alloc _) (by rw [HCY.out]; exact HYC.out.1)).mono ?_
      rintro e w58 ⟨rfl, hb⟩
      have hst := aw8_step HB.out hb
      have HB8 := Lib.hid hst.1
      have HP17 := Lib.hid hst.2.2
      have HP12' := Lib.hid ((hst.2.1.block _ (Array.getElem?_eq_some_iff.1 HP12.out).1).trans HP12.out)
      have HY8 := Lib.hid (HY.out.below hst.2.1 (Nat.le_refl _))
      have HZ8 := Lib.hid (HZ.out.below hst.2.1 (Nat.le_refl _))
      clear hst hb hq12
      go_wp2_with first
        | (refine wpList_load_row_w (by rfl) 26 (.tmp 17) (by rfl) w57.heap.size (by rfl) 26 #[Value.int .u64 m6, Value.int .u64 l6, Value.int .u64 o6, Value.int .u64 t6, Value.slice p6 n6 c6] (0, 0) _ HP17.out Try.underlying26 (by rfl) (show _ = some #[Value.int .u64 m6, Value.int .u64 l6, Value.int .u64 o6, Value.int .u64 t6, Value.slice p6 n6 c6].size from info_cost5) ?_)
        | (refine wpList_load_row_w (by rfl) 26 (.tmp 12) (by rfl) w55.heap.size (by rfl) 26 #[Value.int .u64 m5, Value.int .u64 l5, Value.int .u64 o5, Value.int .u64 t5, Value.slice p5 n5 c5] (0, 0) _ HP12'.out Try.underlying26 (by rfl) (show _ = some #[Value.int .u64 m5, Value.int .u64 l5, Value.int .u64 o5, Value.int .u64 t5, Value.slice p5 n5 c5].size from info_cost5) ?_)
      refine (rsame8_is (⟨m6, l6, o6, t6, p6, n6, c6, xs6⟩ : Cw) (⟨m5, l5, o5, t5, p5, n5, c5, xs5⟩ : Cw) w58 HZ8.out HY8.out (by rw [HCZ.out, HCY.out])).mono ?_
      rintro e w59 ⟨rfl, hb⟩
      have HB9 : Hid (Below w.heap.size w w59) := HB8.out.trans (hb.mono HB8.out.size)
      clear hb
      go_wp2
      go_ret
      exact ⟨rfl, HB9.out⟩
    · have hye0 : (gy.e != 0) = true := by simpa using hye
      have hye1 : (gy.e == 0) = false := by simpa using hye
      obtain ⟨hat, hzero⟩ := HYB.out hye
      obtain ⟨k, hk⟩ := hat
      have hge : (0 : Int) ≤ gy.at_ := by omega
      obtain rfl : n5 = 0 := by
        have h1 := HCY.out
        rw [hzero] at h1
        have h2 := congrArg File.Cst.rules h1
        have h3 : (ruls xs5).length = 0 := by rw [show ruls xs5 = [] from h2]; rfl
        rw [ruls_length, HY.out.1.1] at h3
        exact h3
      clear hk hzero
      go_wp2
      go_ret
      exact ⟨rfl, HBA.out _⟩

set_option maxRecDepth 100000 in
theorem lifted (os : Os) (started : os.Started) (H : Type) (enc : TypeId × Value → H) :
    ReturnsInHanded {} Try.checked os 3 .any (Rows.rulesBackSpec.pre6 enc Try.prog Try.f3 Rows.rulesBackRow.domain false) (Rows.rulesBackSpec.post enc Try.prog Try.f3 false true false false) := by
  refine returnsInHanded_of_change (C := Try.checked) own started (by kernel_rfl) Try.func3
    (ChangeSpec.witness6 (enc := enc) (C := Try.checked) false ⟨#[], #[.slice none 0 0, .agg #[.int .u64 0, .int .u64 0, .int .u64 0, .int .u64 0, .slice none 0 0]], []⟩ 8 (by kernel_rfl) (by kernel_rfl) (by kernel_rfl) (by kernel_rfl)) ?_
  intro W base args ds gs before hval0 hW hcnd _
  have hval : ∀ (j : Nat) t v, Try.f3.params[j]? = some t → args[j]? = some v → Value.okWide Try.prog W .any base t v := hval0
  have hW' := hW
  obtain ⟨p, q, hA0, hV, rfl, hfz, hnd⟩ := hW
  have hA : DataW.TrodAll enc Try.prog W 0 (fun _ => true) true Try.f3.params.toList args.toList ds p := hA0
  rw [Try.params3] at hA hval
  obtain ⟨v0, vs0, d0, ds0, p0, q0, hargs, rfl, rfl, h0, r0⟩ := trodAll_cons hA
  obtain ⟨v1, vs1, d1, ds1, p1, q1, rfl, rfl, rfl, h1, r1⟩ := trodAll_cons r0
  obtain ⟨rfl, rfl, rfl⟩ := trodAll_nil r1
  obtain rfl : args = #[v0, v1] := by cases args; simp_all
  obtain ⟨rfl, rfl⟩ := trodVars_none hV
  obtain ⟨a0, len0, cap0, rfl⟩ := okWide_slice Try.underlying22 (hval 0 22 v0 rfl rfl)
  have k0 := h0
  have lt0 : ∀ x ∈ p0, x.block < W.heap.size := by obtain ⟨m, hm⟩ := k0; exact DataW.trod_lt m _ _ _ hm
  obtain ⟨z0, w0⟩ : ∃ zs, IsRow .u8 W a0 len0 cap0 zs := by
    obtain ⟨fuel, hf⟩ := h0
    rcases open_ints Try.underlying22 Try.underlying5 (by kernel_rfl) hf with ⟨hcs, _⟩ | ⟨x, l, c, zs, hcs, _, hl, hm, hz, _, hcell, hwz⟩
    · simp [Value.cells] at hcs
      obtain ⟨rfl, rfl, rfl⟩ := hcs
      exact ⟨[], .inl ⟨rfl, rfl, rfl, rfl⟩⟩
    · simp [Value.cells] at hcs
      obtain ⟨rfl, rfl, rfl⟩ := hcs
      exact ⟨zs, .inr ⟨_, rfl, hl, hm, by simpa using hz, hcell, hwz⟩⟩
  have k1 := h1
  have lt1 : ∀ x ∈ p1, x.block < W.heap.size := by obtain ⟨m, hm⟩ := k1; exact DataW.trod_lt m _ _ _ hm
  obtain ⟨x1, rfl, w1, n1⟩ := Cw.open (hval 1 26 v1 rfl rfl) h1
  clear hA0 hval0
  refine (walk a0 len0 cap0 z0 x1 W w0 w1 n1).mono fun e W' ⟨he, bel⟩ => ?_
  subst he
  exact ⟨_, rfl, _, _, _, [], _, [], hW', trodAll_mk1 (shut_bool Try.underlying4 _), (trodAll_cons_mk (Below.trod laidOut (by kernel_rfl) (of_decide_eq_true (by kernel_rfl)) k0 bel lt0) (trodAll_cons_mk (Below.trod laidOut (by kernel_rfl) (of_decide_eq_true (by kernel_rfl)) k1 bel lt1) trodAll_mk0)), rfl, bel.frame _, fun h => by cases h⟩

theorem over : Rows.rulesBackRow.holds Try.pinned (OpenSpec.ofChange Rows.rulesBackSpec) :=
  OpenClaim.holds_of_wide 3 Try.f3 rfl rfl rfl rfl rfl rfl rfl ⟨rfl, rfl, rfl, rfl, rfl⟩ rfl rfl rfl rfl rfl (by kernel_rfl) Try.func3 (by kernel_rfl)
    (of_decide_eq_true (by kernel_rfl)) (by unfold Func.isWrapper; first | (rw [if_pos (by decide +kernel)]; kernel_rfl) | (rw [if_neg (by decide +kernel)]; exact ⟨rfl, rfl⟩))
    (fun os started H enc _ => lifted os started H enc)

/-- the statement -/
theorem proved : Rows.RulesBackSaid := over
#print axioms proved
end Go.Proofs.Ytdondndalpmdgaa.rulesBack
