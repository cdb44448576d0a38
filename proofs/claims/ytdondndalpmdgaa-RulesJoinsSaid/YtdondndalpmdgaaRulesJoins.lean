/- For every two files, RulesJoins answers true, and turns nothing that was there. No condition. -/
import Derived.Test.YtdondndalpmdgaaRows
import Derived.Test.YtdondndalpmdgaaFileAwake
import Derived.Test.YtdondndalpmdgaaPackN
import Derived.Test.YtdondndalpmdgaaFileMathB
import Derived.Deep.RegionHeld3
import Derived.WalkKit
import Derived.ProofKit
import Derived.OpenShut
import Derived.ShutString
import Derived.ChangeOld
import Derived.Below
import Derived.Deep.Matrix
import Derived.SizedLaws
namespace Go.Proofs.Ytdondndalpmdgaa.rulesJoins
open Go.ChangeShapes Go.WideShapes Go.ChangeAt Go.RowKit
set_option linter.unusedVariables false

theorem own : ownKnob Try.prog.godebug = none := by kernel_rfl
theorem laidOut : laidOutB Try.prog = true := by kernel_rfl

/-- a slice of integers that came in -/
def IsRow (k : IntKind) (w : World) (a : Option Addr) (len cap : Nat) (zs : List Int) : Prop :=
  (a = none ∧ len = 0 ∧ cap = 0 ∧ zs = []) ∨
  ∃ x, a = some x ∧ len ≤ cap ∧ cap ≤ maxLen ∧ zs.length = cap ∧ (∀ i, i < zs.length → w.cell? (x.add i) = some (.int k (zs.getD i 0))) ∧ ∀ n ∈ zs, (Lit.int k n).wf = true

theorem owns0_two (w : World) (X : Obj) : ((w.alloc X).alloc (.cells #[] 5)).ownsRow (w.heap.size + 1) 5 1 (.slice (some ⟨w.heap.size + 1, 0, none⟩) 0 0) 0 (u8s []) := by
  have h := World.ownsRow_lit (base := (w.alloc X).heap.size) (e := 5) (size := 1) (w.alloc X) #[] 0 (Nat.le_refl _) (Nat.zero_le _) (by simp)
  rw [World.size_alloc] at h
  exact h
theorem owns0_one (w : World) : (w.alloc (.cells #[] 5)).ownsRow w.heap.size 5 1 (.slice (some ⟨w.heap.size, 0, none⟩) 0 0) 0 (u8s []) :=
  World.ownsRow_lit (base := w.heap.size) (e := 5) (size := 1) w #[] 0 (Nat.le_refl _) (Nat.zero_le _) (by simp)
theorem four_eq {m l o t m' l' o' t' : Int} (h : [m, l, o, t] = [m', l', o', t']) : m = m' ∧ l = l' ∧ o = o' ∧ t = t' := by
  simp only [List.cons.injEq, and_true] at h
  exact ⟨h.1, h.2.1, h.2.2.1, h.2.2.2⟩
theorem below_two {w V : World} {X Y : Obj} (h : Below ((w.alloc X).alloc Y).heap.size ((w.alloc X).alloc Y) V) : Below (w.alloc X).heap.size (w.alloc X) V := by
  refine ((Below.refl _ (w.alloc X)).alloc (Nat.le_refl _) Y).trans (h.mono ?_)
  rw [World.size_alloc _ Y]; omega

/-! ### STEP 1: the walk -/
set_option maxHeartbeats 6400000 in
set_option maxRecDepth 100000 in
theorem walk (a0 : Option Addr) (len0 cap0 : Nat) (z0 : List Int) (a1 : Option Addr) (len1 cap1 : Nat) (z1 : List Int) (w : World) (w0 : IsRow .u8 w a0 len0 cap0 z0) (w1 : IsRow .u8 w a1 len1 cap1 z1) :
    Calls Try.prog 6 #[.slice a0 len0 cap0, .slice a1 len1 cap1] w fun e w' => e = .returned (.bool true) ∧ Below w.heap.size w w' := by
  have hn00 : a0 = none → cap0 = 0 := by
    rcases w0 with ⟨_, _, h, _⟩ | ⟨x, h, _⟩
    · exact fun _ => h
    · intro h'; rw [h] at h'; cases h'
  have HN0 := Lib.hid hn00
  clear hn00
  have hs0 := Sl.of_row w0
  generalize z0.take len0 = xs at hs0
  have hcm0 := hs0.2.2.1
  have hnc0 := hs0.2.1
  unfold maxLen at hcm0
  have HS := Lib.hid hs0
  have HLEN0 := Lib.hid hs0.1
  clear hs0 w0
  have hn10 : a1 = none → cap1 = 0 := by
    rcases w1 with ⟨_, _, h, _⟩ | ⟨x, h, _⟩
    · exact fun _ => h
    · intro h'; rw [h] at h'; cases h'
  have HN1 := Lib.hid hn10
  clear hn10
  have hs1 := Sl.of_row w1
  generalize z1.take len1 = ys at hs1
  have hcm1 := hs1.2.2.1
  have hnc1 := hs1.2.1
  unfold maxLen at hcm1
  have HT := Lib.hid hs1
  have HLEN1 := Lib.hid hs1.1
  clear hs1 w1
  obtain ⟨x, hx⟩ : ∃ g, File.read xs = g := ⟨_, rfl⟩
  obtain ⟨y, hy⟩ : ∃ g, File.read ys = g := ⟨_, rfl⟩
  obtain ⟨z, hz⟩ : ∃ g, File.read (xs ++ [10] ++ ys) = g := ⟨_, rfl⟩
  have HX := Lib.hid hx
  have HY := Lib.hid hy
  have HZ := Lib.hid hz
  clear hx hy hz
  have hib : (1500 < len0 → (1500 : Int) < (len0 : Int)) ∧ (len0 ≤ 1500 → ¬ (1500 : Int) < (len0 : Int)) ∧ (1500 < len1 → (1500 : Int) < (len1 : Int)) ∧ (len1 ≤ 1500 → ¬ (1500 : Int) < (len1 : Int)) := ⟨fun h => by omega, fun h => by omega, fun h => by omega, fun h => by omega⟩
  rcases (by omega : 1500 < len0 ∨ len0 ≤ 1500) with g0 | g0
  · have hi0 := hib.1 g0
    clear hib
    go_enter Try.func6, Try.ntmps6
    go_wp2_with fail
    refine (awake_any _).mono ?_
    rintro e v1 ⟨rfl, B1⟩
    have HB1 := Lib.hid B1
    clear B1
    go_wp2
    go_ret
    exact ⟨rfl, HB1.out⟩
  have hi0 := hib.2.1 g0
  have hd0 : decide ((1500 : Int) < (len0 : Int)) = false := decide_eq_false hi0
  rcases (by omega : 1500 < len1 ∨ len1 ≤ 1500) with g1 | g1
  · have hi1 := hib.2.2.1 g1
    clear hib
    go_enter Try.func6, Try.ntmps6
    go_wp2_with fail
    refine (awake_any _).mono ?_
    rintro e v1 ⟨rfl, B1⟩
    have HB1 := Lib.hid B1
    clear B1
    go_wp2
    go_ret
    exact ⟨rfl, HB1.out⟩
  have hi1 := hib.2.2.2 g1
  have hd1 : decide ((1500 : Int) < (len1 : Int)) = false := decide_eq_false hi1
  clear hib hi0 hi1
  go_enter Try.func6, Try.ntmps6
  go_wp2_with fail
  refine (awake_any _).mono ?_
  rintro e v1 ⟨rfl, B1⟩
  have HB1 := Lib.hid B1
  have HS1 := Lib.hid (HS.out.below B1 (Nat.le_refl _))
  have HT1 := Lib.hid (HT.out.below B1 (Nat.le_refl _))
  clear B1
  go_wp2_with fail
  clear hd0 hd1
  refine (fread_is a0 len0 cap0 xs x v1 HS1.out HN0.out (by omega) (split_short (by have := HLEN0.out; omega)) HX.out).mono ?_
  rintro e v2 ⟨⟨m1, l1, o1, t1, p1, n1, c1, xs1⟩, rfl, hcc, hgd, hnil, hnl, hst⟩
  have HC1 := Lib.hid hcc
  have HG1 := Lib.hid hgd
  have hn1 : n1 ≤ 200 := hnl
  have hcap1 := hgd.1.2.1
  have hcap1' := hgd.1.2.2.1
  unfold maxLen at hcap1'
  clear hcc hgd hnil hnl
  simp only [Cw.v, Cw.cells]
  have HB2 : Hid (Below w.heap.size w v2) := HB1.out.trans (hst.mono HB1.out.size)
  have HS2 := Lib.hid (HS1.out.below hst (Nat.le_refl _))
  have HT2 := Lib.hid (HT1.out.below hst (Nat.le_refl _))
  clear hst HS1 HT1
  go_wp2_with fail
  refine (fread_is a1 len1 cap1 ys y _ (HT2.out.alloc _) HN1.out (by omega) (split_short (by have := HLEN1.out; omega)) HY.out).mono ?_
  rintro e v3 ⟨⟨m2, l2, o2, t2, p2, n2, c2, xs2⟩, rfl, hcc, hgd, hnil, hnl, hb⟩
  have HC2 := Lib.hid hcc
  have HG2 := Lib.hid hgd
  have hn2 : n2 ≤ 200 := hnl
  have hcap2 := hgd.1.2.1
  have hcap2' := hgd.1.2.2.1
  unfold maxLen at hcap2'
  clear hcc hgd hnil hnl
  simp only [Cw.v, Cw.cells]
  have hst := aw8_step HB2.out hb
  have HB3 := Lib.hid hst.1
  have HP6 := Lib.hid hst.2.2
  have HG1 := Lib.hid (HG1.out.below hst.2.1 (Nat.le_refl _))
  have HS3 := Lib.hid (HS2.out.below hst.2.1 (Nat.le_refl _))
  have HT3 := Lib.hid (HT2.out.below hst.2.1 (Nat.le_refl _))
  have HBA : Hid (∀ o, Below w.heap.size w (v3.alloc o)) := fun o => HB3.out.alloc HB3.out.size o
  clear hst hb HS2 HT2
  by_cases hxe : x.e = 0
  case neg =>
    have hxe1 : (x.e != 0) = true := by simpa using hxe
    go_wp2
    go_ret
    exact ⟨rfl, HBA.out _⟩
  have hxe1 : (x.e != 0) = false := by simp [hxe]
  by_cases hye : y.e = 0
  case neg =>
    have hye1 : (y.e != 0) = true := by simpa using hye
    go_wp2
    go_ret
    exact ⟨rfl, HBA.out _⟩
  have hye1 : (y.e != 0) = false := by simp [hye]
  have HMM := File.joins HX.out HY.out HZ.out hxe hye
  obtain ⟨⟨zb, zr⟩, zat, ze⟩ := z
  have hl0 : xs.length = len0 := HLEN0.out
  have hl1 : ys.length = len1 := HLEN1.out
  obtain ⟨fN, hfN⟩ : ∃ q, len0 + 1 = q := ⟨_, rfl⟩
  obtain ⟨gN, hgN⟩ : ∃ q, fN + len1 = q := ⟨_, rfl⟩
  have HSZ : Hid (∀ X : Obj, (v3.alloc X).heap.size = v3.heap.size + 1) := fun X => World.size_alloc v3 X
  go_wp2_with first
    | (at_builtin; refine append_bytes (by rfl) (.tmp 48) (.tmp 49) (by rfl) (v3.heap.size + 1) _ 0 [] (by rfl) (owns0_two v3 _) a0 len0 cap0 xs (by rfl) ((HS3.out.alloc _).alloc _) len0 (by omega) (by omega) (by simp) ?_
       intro aP cP wP hownP hbP hnP
       have HOP : Hid (wP.ownsRow (v3.heap.size + 1) 5 1 (.slice aP len0 cP) len0 (u8s xs)) := hownP
       have HBP : Hid (Below (v3.heap.size + 1) (v3.alloc (.cells #[Value.int .u64 m2, Value.int .u64 l2, Value.int .u64 o2, Value.int .u64 t2, Value.slice p2 n2 c2] 26 (0, 0))) wP) := ((Below.refl _ _).alloc (Nat.le_of_eq (HSZ.out _).symm) _).trans hbP
       have HZP : Hid (v3.heap.size + 1 ≤ wP.heap.size) := by have := HBP.out.size; rw [HSZ.out] at this; exact this
       clear hownP hbP hnP)
    | (at_builtin; refine append_bytes (by rfl) (.tmp 50) (.tmp 51) (by rfl) (v3.heap.size + 1) _ len0 xs (by rfl) (HOP.out.alloc _) (some ⟨wP.heap.size, 0, none⟩) 1 1 [10] (by rfl) (Sl.newB [10] (by decide) (by unfold maxLen; simp) rfl rfl rfl) fN hfN (by omega) (Nat.le_trans HZP.out (by simp)) ?_
       intro fa fc wQ hownQ hbQ hnQ
       have HOQ := Lib.hid hownQ
       have HBQ : Hid (Below (v3.heap.size + 1) (v3.alloc (.cells #[Value.int .u64 m2, Value.int .u64 l2, Value.int .u64 o2, Value.int .u64 t2, Value.slice p2 n2 c2] 26 (0, 0))) wQ) := HBP.out.trans (((Below.refl _ wP).alloc HZP.out _).trans hbQ)
       have HFN := Lib.hid hnQ
       have HSF : Hid (Sl .u8 wQ fa fN fc (xs ++ [10])) := Sl.of_owns (k := .u8) hownQ (fun c hc => by rcases List.mem_append.1 hc with hc | hc; exact HS3.out.2.2.2.1 c hc; rw [List.mem_singleton.1 hc]; decide) (by simp; omega)
       have hfcm := HSF.out.2.2.1
       have hfcn := HSF.out.2.1
       unfold maxLen at hfcm
       clear hownQ hbQ hnQ)
    | (at_builtin; refine append_bytes (by rfl) (.tmp 54) (.tmp 55) (by rfl) wQ.heap.size _ 0 [] (by rfl) (owns0_one wQ) fa fN fc (xs ++ [10]) (by rfl) (HSF.out.alloc _) fN (by omega) (by omega) (by simp) ?_
       intro aR cR wR hownR hbR hnR
       have HOR : Hid (wR.ownsRow wQ.heap.size 5 1 (.slice aR fN cR) fN (u8s (xs ++ [10]))) := hownR
       have HBR : Hid (Below wQ.heap.size wQ wR) := ((Below.refl _ wQ).alloc (Nat.le_refl _) _).trans hbR
       clear hownR hbR hnR)
    | (at_builtin; refine append_bytes (by rfl) (.tmp 56) (.tmp 57) (by rfl) wQ.heap.size _ fN (xs ++ [10]) (by rfl) HOR.out a1 len1 cap1 ys (by rfl) (((HT3.out.alloc _).below HBQ.out (Nat.le_of_eq (HSZ.out _))).below HBR.out (Nat.le_refl _)) gN hgN (by omega) HBR.out.size ?_
       intro aS cS wS hownS hbS hnS
       have HSS : Hid (Sl .u8 wS aS gN cS (xs ++ [10] ++ ys)) := Sl.of_owns (k := .u8) hownS (fun c hc => by rcases List.mem_append.1 hc with hc | hc; exact HSF.out.2.2.2.1 c hc; exact HT3.out.2.2.2.1 c hc) (by simp; omega)
       have HBS : Hid (Below wQ.heap.size wQ wS) := HBR.out.trans hbS
       have HNS := Lib.hid hnS
       clear hownS hbS hnS)
  have hst : Below (v3.alloc (.cells #[Value.int .u64 m2, Value.int .u64 l2, Value.int .u64 o2, Value.int .u64 t2, Value.slice p2 n2 c2] 26 (0, 0))).heap.size (v3.alloc (.cells #[Value.int .u64 m2, Value.int .u64 l2, Value.int .u64 o2, Value.int .u64 t2, Value.slice p2 n2 c2] 26 (0, 0))) wS := by
    have h := HBQ.out.size
    rw [HSZ.out]
    exact HBQ.out.trans (HBS.out.mono (by rw [HSZ.out] at h; exact h))
  have hs9 := aw8_step HB3.out hst
  have HB4 := Lib.hid hs9.1
  have HP9 := Lib.hid hs9.2.2
  have HP6 := Lib.hid ((hs9.2.1.block _ (Array.getElem?_eq_some_iff.1 HP6.out).1).trans HP6.out)
  have HG1 := Lib.hid (HG1.out.below hs9.2.1 (Nat.le_refl _))
  have HG2 := Lib.hid (HG2.out.below hs9.2.1 (Nat.le_refl _))
  have HSF := Lib.hid (HSF.out.below HBS.out (Nat.le_refl _))
  clear hst hs9 HS3 HT3 HOP HBP HZP HOQ HBQ HOR HBR HBS
  refine (fread_is aS gN cS (xs ++ [10] ++ ys) _ wS HSS.out HNS.out (by omega) (split_short (by simp; omega)) HZ.out).mono ?_
  rintro e v4 ⟨⟨m3, l3, o3, t3, p3, n3, c3, xs3⟩, rfl, hcc, hgd, hnil, hnl, hst⟩
  have HC3 := Lib.hid hcc
  have HG3 := Lib.hid hgd
  have hn3 : n3 ≤ 200 := hnl
  have hcap3 := hgd.1.2.1
  have hcap3' := hgd.1.2.2.1
  unfold maxLen at hcap3'
  clear hcc hgd hnil hnl
  simp only [Cw.v, Cw.cells]
  have HM : Hid ((ze ≠ 0 → ∃ k, zat = ((k : Nat) : Int) ∧ (Line.split (xs ++ [10])).length ≤ k ∧ (ze = 80 ∨ ze = 81 ∧ 200 < (nrm (ruls xs1 ++ ruls xs2)).length)) ∧
      (ze = 0 → zat = -1 ∧ ruls xs3 = nrm (ruls xs1 ++ ruls xs2) ∧ ([m3, l3, o3, t3] = [m1, l1, o1, t1] ∨ [m3, l3, o3, t3] = [m2, l2, o2, t2]))) := by
    rw [← HC1.out, ← HC2.out] at HMM
    have h3 : File.Cst.mk [m3, l3, o3, t3] (ruls xs3) = File.Cst.mk zb zr := HC3.out
    injection h3 with h3a h3b
    rw [← h3a, ← h3b] at HMM
    exact HMM
  have HB5 : Hid (Below w.heap.size w v4) := HB4.out.trans (hst.mono HB4.out.size)
  have HP6 := Lib.hid ((hst.block _ (Array.getElem?_eq_some_iff.1 HP6.out).1).trans HP6.out)
  have HP9 := Lib.hid ((hst.block _ (Array.getElem?_eq_some_iff.1 HP9.out).1).trans HP9.out)
  have HG1 := Lib.hid (HG1.out.below hst (Nat.le_refl _))
  have HG2 := Lib.hid (HG2.out.below hst (Nat.le_refl _))
  have HSF := Lib.hid (HSF.out.below hst (Nat.le_refl _))
  have hmx : Try.prog.follows .mixedOrders = true := by kernel_rfl
  clear hst HMM HSS HNS HC1 HC2 HC3 HX HY HZ
  go_wp2_with fail
  obtain ⟨V, hV⟩ : ∃ V, V = v4.alloc (.cells #[Value.int .u64 m3, Value.int .u64 l3, Value.int .u64 o3, Value.int .u64 t3, Value.slice p3 n3 c3] 26 (0, 0)) := ⟨_, rfl⟩
  have hbV : Below v4.heap.size v4 V := by rw [hV]; exact (Below.refl _ v4).alloc (Nat.le_refl _) _
  have HBV : Hid (Below w.heap.size w V) := HB5.out.trans (hbV.mono HB5.out.size)
  have HP13v : Hid (V.heap[v4.heap.size]? = some (.cells #[Value.int .u64 m3, Value.int .u64 l3, Value.int .u64 o3, Value.int .u64 t3, Value.slice p3 n3 c3] 26 (0, 0))) := by rw [hV]; exact heap_alloc_new v4 _
  have HP6v := Lib.hid ((hbV.block _ (Array.getElem?_eq_some_iff.1 HP6.out).1).trans HP6.out)
  have HP9v := Lib.hid ((hbV.block _ (Array.getElem?_eq_some_iff.1 HP9.out).1).trans HP9.out)
  have HG1 := Lib.hid (HG1.out.below hbV (Nat.le_refl _))
  have HG2 := Lib.hid (HG2.out.below hbV (Nat.le_refl _))
  have HG3 := Lib.hid (HG3.out.below hbV (Nat.le_refl _))
  have HSFv := Lib.hid (HSF.out.below hbV (Nat.le_refl _))
  rw [← hV]
  clear hV hbV HP6 HP9 HSF
  have hd0 : Below V.heap.size V V.drew := below_drawn (Below.refl _ V) ⟨1, rfl⟩
  have hd1 : Below V.heap.size V (V.drew.alloc (.cells #[] 48)) := hd0.alloc hd0.size _
  have HKEEP : Hid (∀ W, Below V.heap.size V W → W.cell? ⟨v2.heap.size, 4, none⟩ = some (.slice p1 n1 c1) ∧ W.cell? ⟨v3.heap.size, 4, none⟩ = some (.slice p2 n2 c2)) := fun W hb => by
    have h6 := (hb.block _ (Array.getElem?_eq_some_iff.1 HP6v.out).1).trans HP6v.out
    have h9 := (hb.block _ (Array.getElem?_eq_some_iff.1 HP9v.out).1).trans HP9v.out
    exact ⟨by simp [World.cell?, h6], by simp [World.cell?, h9]⟩
  refine wp_region_held_drew (S := (fun W => W.cell? ⟨v2.heap.size, 4, none⟩ = some (.slice p1 n1 c1) ∧ W.cell? ⟨v3.heap.size, 4, none⟩ = some (.slice p2 n2 c2))) (by kernel_rfl) (by first | (first | exact HKEEP.out _ hbA | exact HKEEP.out _ hbQ | exact HKEEP.out _ hbP | exact HKEEP.out _ hd1 | exact HKEEP.out _ hd0) | ((try dsimp only); first | exact HKEEP.out _ hbA | exact HKEEP.out _ hbQ | exact HKEEP.out _ hbP | exact HKEEP.out _ hd1 | exact HKEEP.out _ hd0)) (fun hHeld => ?_)
  refine wpAnyH_take (i := 1) (v := ?vj1) rfl (by kernel_rfl) (by kernel_rfl) (by kernel_rfl) (fun _ _ _ h => h) (Or.inl ⟨by rfl, ?hj1⟩) (by assumption) ?rj1
  case hj1 => intro w hSw; (try dsimp only at hSw); go_simp; try with_reducible rfl
  simp only [Act.put, List.getElem_toArray, List.getElem_cons_succ, List.getElem_cons_zero, List.setIfInBounds_toArray, List.set_cons_succ, List.set_cons_zero]
  refine wpAnyH_take (i := 2) (v := ?vj4) rfl (by kernel_rfl) (by kernel_rfl) (by kernel_rfl) (fun _ _ _ h => h) (Or.inl ⟨by rfl, ?hj4⟩) (by assumption) ?rj4
  case hj4 => intro w hSw; (try dsimp only at hSw); go_simp; try with_reducible rfl
  simp only [Act.put, List.getElem_toArray, List.getElem_cons_succ, List.getElem_cons_zero, List.setIfInBounds_toArray, List.set_cons_succ, List.set_cons_zero]
  refine wpAnyH_take (i := 4) (v := ?vj7) rfl (by kernel_rfl) (by kernel_rfl) (by kernel_rfl) (fun _ _ _ h => h) (Or.inl ⟨by rfl, ?hj7⟩) (by assumption) ?rj7
  case hj7 => intro w hSw; (try dsimp only at hSw); go_simp; try with_reducible rfl
  simp only [Act.put, List.getElem_toArray, List.getElem_cons_succ, List.getElem_cons_zero, List.setIfInBounds_toArray, List.set_cons_succ, List.set_cons_zero]
  refine wpAnyH_take (i := 5) (v := ?vj10) rfl (by kernel_rfl) (by kernel_rfl) (by kernel_rfl) (fun _ _ _ h => h) (Or.inl ⟨by rfl, ?hj10⟩) (by assumption) ?rj10
  case hj10 => intro w hSw; (try dsimp only at hSw); go_simp; try with_reducible rfl
  simp only [Act.put, List.getElem_toArray, List.getElem_cons_succ, List.getElem_cons_zero, List.setIfInBounds_toArray, List.set_cons_succ, List.set_cons_zero]
  refine wpAnyH_ready (rs := [0]) (by kernel_rfl) (by simp) ?_
  refine AllReadyH.cons rfl (fun K hK => ?_) AllReadyH.nil
  go_simp
  refine hK.out _ _ (by first | (first | exact HKEEP.out _ hbA | exact HKEEP.out _ hbQ | exact HKEEP.out _ hbP | exact HKEEP.out _ hd1 | exact HKEEP.out _ hd0) | ((try dsimp only); first | exact HKEEP.out _ hbA | exact HKEEP.out _ hbQ | exact HKEEP.out _ hbP | exact HKEEP.out _ hd1 | exact HKEEP.out _ hd0)) (fun hHeld => ?_)
  clear hK K
  try simp only [Act.put, List.getElem_toArray, List.getElem_cons_succ, List.getElem_cons_zero, List.setIfInBounds_toArray, List.set_cons_succ, List.set_cons_zero]
  refine wpAnyH_ready (rs := [3]) (by kernel_rfl) (by simp) ?_
  refine AllReadyH.cons rfl (fun K hK => ?_) AllReadyH.nil
  refine step_append_rules (w0 := V) (by rfl) (.tmp 63) (.tmp 65) (by rfl) V.heap.size _ 0 [] (by rfl) (owns0_rules V.drew) p1 n1 c1 xs1 (by rfl) ((HG1.out.1.below hd0 (Nat.le_refl _)).alloc _) n1 (by omega) (by omega) (Nat.le_refl _) hd1 ?_
  intro aP cP wP hownP hbP _ _
  simp only [List.nil_append] at hownP
  refine hK.out _ _ (by first | (first | exact HKEEP.out _ hbA | exact HKEEP.out _ hbQ | exact HKEEP.out _ hbP | exact HKEEP.out _ hd1 | exact HKEEP.out _ hd0) | ((try dsimp only); first | exact HKEEP.out _ hbA | exact HKEEP.out _ hbQ | exact HKEEP.out _ hbP | exact HKEEP.out _ hd1 | exact HKEEP.out _ hd0)) (fun hHeld => ?_)
  clear hK K
  try simp only [Act.put, List.getElem_toArray, List.getElem_cons_succ, List.getElem_cons_zero, List.setIfInBounds_toArray, List.set_cons_succ, List.set_cons_zero]
  refine wpAnyH_ready (rs := [6]) (by kernel_rfl) (by simp) ?_
  refine AllReadyH.cons rfl (fun K hK => ?_) AllReadyH.nil
  refine step_append_rules (w0 := V) (by rfl) (.tmp 66) (.tmp 68) (by rfl) V.heap.size _ n1 xs1 (by rfl) hownP p2 n2 c2 xs2 (by rfl) (HG2.out.1.below hbP (Nat.le_refl _)) (n1 + n2) (by omega) (by omega) (Nat.le_refl _) hbP ?_
  intro aQ cQ wQ2 hownQ hbQ _ _
  have hrsQ : Rs wQ2 aQ (n1 + n2) cQ (xs1 ++ xs2) := Rs.of_owns hownQ (fun x hx => by
    rcases List.mem_append.1 hx with hx | hx
    · exact (HG1.out.1.2.2.2.1 x hx).below hbQ (Nat.le_refl _)
    · exact (HG2.out.1.2.2.2.1 x hx).below hbQ (Nat.le_refl _)) (by rw [List.length_append, HG1.out.1.1, HG2.out.1.1])
  refine hK.out _ _ (by first | (first | exact HKEEP.out _ hbA | exact HKEEP.out _ hbQ | exact HKEEP.out _ hbP | exact HKEEP.out _ hd1 | exact HKEEP.out _ hd0) | ((try dsimp only); first | exact HKEEP.out _ hbA | exact HKEEP.out _ hbQ | exact HKEEP.out _ hbP | exact HKEEP.out _ hd1 | exact HKEEP.out _ hd0)) (fun hHeld => ?_)
  clear hK K
  try simp only [Act.put, List.getElem_toArray, List.getElem_cons_succ, List.getElem_cons_zero, List.setIfInBounds_toArray, List.set_cons_succ, List.set_cons_zero]
  refine wpAnyH_ready (rs := [7]) (by kernel_rfl) (by simp) ?_
  refine AllReadyH.cons rfl (fun K hK => ?_) AllReadyH.nil
  go_simp
  go_at_call 16
  refine (norm_any aQ (n1 + n2) cQ (xs1 ++ xs2) wQ2 hrsQ (by omega)).mono ?_
  rintro e v6 ⟨aa, na, ca, oa, rfl, hrs, hra, hna, _, hbN⟩
  have hbA : Below V.heap.size V v6 := hbQ.trans (hbN.mono hbQ.size)
  go_wp2_with fail
  refine hK.out _ _ (by first | (first | exact HKEEP.out _ hbA | exact HKEEP.out _ hbQ | exact HKEEP.out _ hbP | exact HKEEP.out _ hd1 | exact HKEEP.out _ hd0) | ((try dsimp only); first | exact HKEEP.out _ hbA | exact HKEEP.out _ hbQ | exact HKEEP.out _ hbP | exact HKEEP.out _ hd1 | exact HKEEP.out _ hd0)) (fun hHeld => ?_)
  clear hK K
  try simp only [Act.put, List.getElem_toArray, List.getElem_cons_succ, List.getElem_cons_zero, List.setIfInBounds_toArray, List.set_cons_succ, List.set_cons_zero]
  refine wpAnyH_take (i := 8) (v := ?vj49) rfl (by kernel_rfl) (by kernel_rfl) (by kernel_rfl) (fun _ _ _ h => h) (Or.inl ⟨by rfl, ?hj49⟩) (by assumption) ?rj49
  case hj49 => intro w hSw; (try dsimp only at hSw); go_simp; try with_reducible rfl
  simp only [Act.put, List.getElem_toArray, List.getElem_cons_succ, List.getElem_cons_zero, List.setIfInBounds_toArray, List.set_cons_succ, List.set_cons_zero]
  refine wpAnyH_done (by kernel_rfl) ?_ _
  have HA := Lib.hid hrs
  have HRA : Hid (ruls oa = nrm (ruls xs1 ++ ruls xs2)) := by show _ = _; rw [hra, ruls_app]
  have HNA : Hid ((nrm (ruls xs1 ++ ruls xs2)).length = na) := by rw [← HRA.out, ruls_length]; exact hrs.1
  have hnac := hrs.2.1
  have hnam := hrs.2.2.1
  unfold maxLen at hnam
  have HB6 : Hid (Below w.heap.size w v6) := HBV.out.trans (hbA.mono HBV.out.size)
  have HP6x := Lib.hid ((hbA.block _ (Array.getElem?_eq_some_iff.1 HP6v.out).1).trans HP6v.out)
  have HP9x := Lib.hid ((hbA.block _ (Array.getElem?_eq_some_iff.1 HP9v.out).1).trans HP9v.out)
  have HP13x := Lib.hid ((hbA.block _ (Array.getElem?_eq_some_iff.1 HP13v.out).1).trans HP13v.out)
  have HG3x := Lib.hid (HG3.out.below hbA (Nat.le_refl _))
  have HSFx := Lib.hid (HSFv.out.below hbA (Nat.le_refl _))
  clear hrs hra hna hbN hbA hbQ hrsQ hownQ hbP hownP hd1 hd0 hHeld
  by_cases hze : ze = 0
  · subst hze
    obtain ⟨hat, hru, hba⟩ := HM.out.2 rfl
    obtain rfl : zat = -1 := hat
    have HSAME : Hid (ruls xs3 = ruls oa) := by show _ = _; rw [HRA.out]; exact hru
    have hx0 : v6.cell? ⟨v2.heap.size, 0, none⟩ = some (.int .u64 m1) := by simp [World.cell?, HP6x.out]
    have hx1 : v6.cell? ⟨v2.heap.size, 1, none⟩ = some (.int .u64 l1) := by simp [World.cell?, HP6x.out]
    have hx2 : v6.cell? ⟨v2.heap.size, 2, none⟩ = some (.int .u64 o1) := by simp [World.cell?, HP6x.out]
    have hx3 : v6.cell? ⟨v2.heap.size, 3, none⟩ = some (.int .u64 t1) := by simp [World.cell?, HP6x.out]
    have hy0 : v6.cell? ⟨v3.heap.size, 0, none⟩ = some (.int .u64 m2) := by simp [World.cell?, HP9x.out]
    have hy1 : v6.cell? ⟨v3.heap.size, 1, none⟩ = some (.int .u64 l2) := by simp [World.cell?, HP9x.out]
    have hy2 : v6.cell? ⟨v3.heap.size, 2, none⟩ = some (.int .u64 o2) := by simp [World.cell?, HP9x.out]
    have hy3 : v6.cell? ⟨v3.heap.size, 3, none⟩ = some (.int .u64 t2) := by simp [World.cell?, HP9x.out]
    have hz0 : v6.cell? ⟨v4.heap.size, 0, none⟩ = some (.int .u64 m3) := by simp [World.cell?, HP13x.out]
    have hz1 : v6.cell? ⟨v4.heap.size, 1, none⟩ = some (.int .u64 l3) := by simp [World.cell?, HP13x.out]
    have hz2 : v6.cell? ⟨v4.heap.size, 2, none⟩ = some (.int .u64 o3) := by simp [World.cell?, HP13x.out]
    have hz3 : v6.cell? ⟨v4.heap.size, 3, none⟩ = some (.int .u64 t3) := by simp [World.cell?, HP13x.out]
    have hz4 : v6.cell? ⟨v4.heap.size, 4, none⟩ = some (.slice p3 n3 c3) := by simp [World.cell?, HP13x.out]
    rcases hba with hba | hba
    · obtain ⟨rfl, rfl, rfl, rfl⟩ := four_eq hba
      by_cases q0 : m3 = m2
      · have d0 : (m3 == m2) = true := by simpa using q0
        by_cases q1 : l3 = l2
        · have d1 : (l3 == l2) = true := by simpa using q1
          by_cases q2 : o3 = o2
          · have d2 : (o3 == o2) = true := by simpa using q2
            by_cases q3 : t3 = t2
            · have d3 : (t3 == t2) = true := by simpa using q3
              go_wp2_with fail
              refine (rsames_is p3 aa n3 na c3 ca xs3 oa true v6 HG3x.out.1 HA.out (decide_eq_true HSAME.out)).mono ?_
              rintro e w7 ⟨rfl, q7, rfl⟩
              go_wp2
              go_ret
              exact ⟨rfl, below_drawn HB6.out ⟨_, rfl⟩⟩
            · have d3 : (t3 == t2) = false := by simpa using q3
              go_wp2_with fail
              refine (rsames_is p3 aa n3 na c3 ca xs3 oa true v6 HG3x.out.1 HA.out (decide_eq_true HSAME.out)).mono ?_
              rintro e w7 ⟨rfl, q7, rfl⟩
              go_wp2
              go_ret
              exact ⟨rfl, below_drawn HB6.out ⟨_, rfl⟩⟩
          · have d2 : (o3 == o2) = false := by simpa using q2
            go_wp2_with fail
            refine (rsames_is p3 aa n3 na c3 ca xs3 oa true v6 HG3x.out.1 HA.out (decide_eq_true HSAME.out)).mono ?_
            rintro e w7 ⟨rfl, q7, rfl⟩
            go_wp2
            go_ret
            exact ⟨rfl, below_drawn HB6.out ⟨_, rfl⟩⟩
        · have d1 : (l3 == l2) = false := by simpa using q1
          go_wp2_with fail
          refine (rsames_is p3 aa n3 na c3 ca xs3 oa true v6 HG3x.out.1 HA.out (decide_eq_true HSAME.out)).mono ?_
          rintro e w7 ⟨rfl, q7, rfl⟩
          go_wp2
          go_ret
          exact ⟨rfl, below_drawn HB6.out ⟨_, rfl⟩⟩
      · have d0 : (m3 == m2) = false := by simpa using q0
        go_wp2_with fail
        refine (rsames_is p3 aa n3 na c3 ca xs3 oa true v6 HG3x.out.1 HA.out (decide_eq_true HSAME.out)).mono ?_
        rintro e w7 ⟨rfl, q7, rfl⟩
        go_wp2
        go_ret
        exact ⟨rfl, below_drawn HB6.out ⟨_, rfl⟩⟩
    · obtain ⟨rfl, rfl, rfl, rfl⟩ := four_eq hba
      by_cases q0 : m3 = m1
      · have d0 : (m3 == m1) = true := by simpa using q0
        by_cases q1 : l3 = l1
        · have d1 : (l3 == l1) = true := by simpa using q1
          by_cases q2 : o3 = o1
          · have d2 : (o3 == o1) = true := by simpa using q2
            by_cases q3 : t3 = t1
            · have d3 : (t3 == t1) = true := by simpa using q3
              go_wp2_with fail
              refine (rsames_is p3 aa n3 na c3 ca xs3 oa true v6 HG3x.out.1 HA.out (decide_eq_true HSAME.out)).mono ?_
              rintro e w7 ⟨rfl, q7, rfl⟩
              go_wp2
              go_ret
              exact ⟨rfl, below_drawn HB6.out ⟨_, rfl⟩⟩
            · have d3 : (t3 == t1) = false := by simpa using q3
              go_wp2_with fail
              refine (rsames_is p3 aa n3 na c3 ca xs3 oa true v6 HG3x.out.1 HA.out (decide_eq_true HSAME.out)).mono ?_
              rintro e w7 ⟨rfl, q7, rfl⟩
              go_wp2
              go_ret
              exact ⟨rfl, below_drawn HB6.out ⟨_, rfl⟩⟩
          · have d2 : (o3 == o1) = false := by simpa using q2
            go_wp2_with fail
            refine (rsames_is p3 aa n3 na c3 ca xs3 oa true v6 HG3x.out.1 HA.out (decide_eq_true HSAME.out)).mono ?_
            rintro e w7 ⟨rfl, q7, rfl⟩
            go_wp2
            go_ret
            exact ⟨rfl, below_drawn HB6.out ⟨_, rfl⟩⟩
        · have d1 : (l3 == l1) = false := by simpa using q1
          go_wp2_with fail
          refine (rsames_is p3 aa n3 na c3 ca xs3 oa true v6 HG3x.out.1 HA.out (decide_eq_true HSAME.out)).mono ?_
          rintro e w7 ⟨rfl, q7, rfl⟩
          go_wp2
          go_ret
          exact ⟨rfl, below_drawn HB6.out ⟨_, rfl⟩⟩
      · have d0 : (m3 == m1) = false := by simpa using q0
        go_wp2_with fail
        refine (rsames_is p3 aa n3 na c3 ca xs3 oa true v6 HG3x.out.1 HA.out (decide_eq_true HSAME.out)).mono ?_
        rintro e w7 ⟨rfl, q7, rfl⟩
        go_wp2
        go_ret
        exact ⟨rfl, below_drawn HB6.out ⟨_, rfl⟩⟩
  · have hze1 : (ze != 0) = true := by simpa using hze
    obtain ⟨k, hat, hk, hor⟩ := HM.out.1 hze
    obtain rfl : zat = (k : Int) := hat
    go_wp2_with fail
    refine (split_any fa fN fc (xs ++ [10]) v6 HSFx.out HFN.out (by omega)).mono ?_
    rintro e w7 ⟨ra, M, rc, rows, rfl, hrows, hbn, _, hb7⟩
    have hkM : (M : Int) ≤ (k : Int) := by
      have h1 : rows.length = M := hrows.1
      have h2 : (bnums rows).length = M := by rw [bnums_length, h1]
      rw [hbn] at h2
      omega
    have HB7 : Hid (Below w.heap.size w w7) := HB6.out.trans (hb7.mono HB6.out.size)
    clear hrows hbn hb7 hk
    rcases hor with rfl | ⟨rfl, h200⟩
    · go_wp2
      go_ret
      exact ⟨rfl, HB7.out⟩
    · have h200i : (200 : Int) < (na : Int) := by
        have h1 : 200 < (nrm (ruls xs1 ++ ruls xs2)).length := h200
        rw [HNA.out] at h1; omega
      go_wp2
      go_ret
      exact ⟨rfl, HB7.out⟩

set_option maxRecDepth 100000 in
theorem lifted (os : Os) (started : os.Started) (H : Type) (enc : TypeId × Value → H) :
    ReturnsInHanded {} Try.checked os 6 .any (Rows.rulesJoinsSpec.pre6 enc Try.prog Try.f6 Rows.rulesJoinsRow.domain false) (Rows.rulesJoinsSpec.post enc Try.prog Try.f6 false true false false) := by
  refine returnsInHanded_of_change (C := Try.checked) own started (by kernel_rfl) Try.func6
    (ChangeSpec.witness6 (enc := enc) (C := Try.checked) false ⟨#[], #[.slice none 0 0, .slice none 0 0], []⟩ 8 (by kernel_rfl) (by kernel_rfl) (by kernel_rfl) (by kernel_rfl)) ?_
  intro W base args ds gs before hval0 hW hcnd _
  have hval : ∀ (j : Nat) t v, Try.f6.params[j]? = some t → args[j]? = some v → Value.okWide Try.prog W .any base t v := hval0
  have hW' := hW
  obtain ⟨p, q, hA0, hV, rfl, hfz, hnd⟩ := hW
  have hA : DataW.TrodAll enc Try.prog W 0 (fun _ => true) true Try.f6.params.toList args.toList ds p := hA0
  rw [Try.params6] at hA hval
  obtain ⟨v0, vs0, d0, ds0, p0, q0, hargs, rfl, rfl, h0, r0⟩ := trodAll_cons hA
  obtain ⟨v1, vs1, d1, ds1, p1, q1, rfl, rfl, rfl, h1, r1⟩ := trodAll_cons r0
  obtain ⟨rfl, rfl, rfl⟩ := trodAll_nil r1
  obtain rfl : args = #[v0, v1] := by cases args; simp_all
  obtain ⟨rfl, rfl⟩ := trodVars_none hV
  obtain ⟨a0, len0, cap0, rfl⟩ := okWide_slice Try.underlying22 (hval 0 22 v0 rfl rfl)
  have k0 := h0
  have lt0 : ∀ x ∈ p0, x.block < W.heap.size := by obtain ⟨m, hm⟩ := k0; exact DataW.trod_lt m _ _ _ hm
  obtain ⟨z0, w0⟩ : ∃ zs, IsRow .u8 W a0 len0 cap0 zs := by
    obtain ⟨fuel, hf⟩ := h0
    rcases open_ints Try.underlying22 Try.underlying5 (by kernel_rfl) hf with ⟨hcs, _⟩ | ⟨x, l, c, zs, hcs, _, hl, hm, hz, _, hcell, hwz⟩
    · simp [Value.cells] at hcs
      obtain ⟨rfl, rfl, rfl⟩ := hcs
      exact ⟨[], .inl ⟨rfl, rfl, rfl, rfl⟩⟩
    · simp [Value.cells] at hcs
      obtain ⟨rfl, rfl, rfl⟩ := hcs
      exact ⟨zs, .inr ⟨_, rfl, hl, hm, by simpa using hz, hcell, hwz⟩⟩
  obtain ⟨a1, len1, cap1, rfl⟩ := okWide_slice Try.underlying22 (hval 1 22 v1 rfl rfl)
  have k1 := h1
  have lt1 : ∀ x ∈ p1, x.block < W.heap.size := by obtain ⟨m, hm⟩ := k1; exact DataW.trod_lt m _ _ _ hm
  obtain ⟨z1, w1⟩ : ∃ zs, IsRow .u8 W a1 len1 cap1 zs := by
    obtain ⟨fuel, hf⟩ := h1
    rcases open_ints Try.underlying22 Try.underlying5 (by kernel_rfl) hf with ⟨hcs, _⟩ | ⟨x, l, c, zs, hcs, _, hl, hm, hz, _, hcell, hwz⟩
    · simp [Value.cells] at hcs
      obtain ⟨rfl, rfl, rfl⟩ := hcs
      exact ⟨[], .inl ⟨rfl, rfl, rfl, rfl⟩⟩
    · simp [Value.cells] at hcs
      obtain ⟨rfl, rfl, rfl⟩ := hcs
      exact ⟨zs, .inr ⟨_, rfl, hl, hm, by simpa using hz, hcell, hwz⟩⟩
  clear hA0 hval0
  refine (walk a0 len0 cap0 z0 a1 len1 cap1 z1 W w0 w1).mono fun e W' ⟨he, bel⟩ => ?_
  subst he
  exact ⟨_, rfl, _, _, _, [], _, [], hW', trodAll_mk1 (shut_bool Try.underlying4 _), (trodAll_cons_mk (Below.trod laidOut (by kernel_rfl) (of_decide_eq_true (by kernel_rfl)) k0 bel lt0) (trodAll_cons_mk (Below.trod laidOut (by kernel_rfl) (of_decide_eq_true (by kernel_rfl)) k1 bel lt1) trodAll_mk0)), rfl, bel.frame _, fun h => by cases h⟩

theorem over : Rows.rulesJoinsRow.holds Try.pinned (OpenSpec.ofChange Rows.rulesJoinsSpec) :=
  OpenClaim.holds_of_wide 6 Try.f6 rfl rfl rfl rfl rfl rfl rfl ⟨rfl, rfl, rfl, rfl, rfl⟩ rfl rfl rfl rfl rfl (by kernel_rfl) Try.func6 (by kernel_rfl)
    (of_decide_eq_true (by kernel_rfl)) (by unfold Func.isWrapper; first | (rw [if_pos (by decide +kernel)]; kernel_rfl) | (rw [if_neg (by decide +kernel)]; exact ⟨rfl, rfl⟩))
    (fun os started H enc _ => lifted os started H enc)

/-- the statement -/
theorem proved : Rows.RulesJoinsSaid := over
#print axioms proved
end Go.Proofs.Ytdondndalpmdgaa.rulesJoins
