/- For every file and every line more, RulesCheap answers true, and turns nothing that was there. No condition. -/
import Derived.Test.YtdondndalpmdgaaRows
import Derived.Test.YtdondndalpmdgaaFileAwake
import Derived.Test.YtdondndalpmdgaaPackN
import Derived.Test.YtdondndalpmdgaaFileMathB
import Derived.Deep.RegionHeld3
import Derived.Deep.MidRow
import Derived.WalkKit
import Derived.ProofKit
import Derived.OpenShut
import Derived.ShutString
import Derived.ChangeOld
import Derived.Below
import Derived.Deep.Matrix
import Derived.SizedLaws
namespace Go.Proofs.Ytdondndalpmdgaa.rulesCheap
open Go.ChangeShapes Go.WideShapes Go.ChangeAt Go.RowKit
set_option linter.unusedVariables false

theorem own : ownKnob Try.prog.godebug = none := by kernel_rfl
theorem laidOut : laidOutB Try.prog = true := by kernel_rfl

/-- a slice of integers that came in -/
def IsRow (k : IntKind) (w : World) (a : Option Addr) (len cap : Nat) (zs : List Int) : Prop :=
  (a = none ∧ len = 0 ∧ cap = 0 ∧ zs = []) ∨
  ∃ x, a = some x ∧ len ≤ cap ∧ cap ≤ maxLen ∧ zs.length = cap ∧ (∀ i, i < zs.length → w.cell? (x.add i) = some (.int k (zs.getD i 0))) ∧ ∀ n ∈ zs, (Lit.int k n).wf = true

theorem owns0_two (w : World) (X : Obj) : ((w.alloc X).alloc (.cells #[] 5)).ownsRow (w.heap.size + 1) 5 1 (.slice (some ⟨w.heap.size + 1, 0, none⟩) 0 0) 0 (u8s []) := by
  have h := World.ownsRow_lit (base := (w.alloc X).heap.size) (e := 5) (size := 1) (w.alloc X) #[] 0 (Nat.le_refl _) (Nat.zero_le _) (by simp)
  rw [World.size_alloc] at h
  exact h
theorem owns0_one (w : World) : (w.alloc (.cells #[] 5)).ownsRow w.heap.size 5 1 (.slice (some ⟨w.heap.size, 0, none⟩) 0 0) 0 (u8s []) :=
  World.ownsRow_lit (base := w.heap.size) (e := 5) (size := 1) w #[] 0 (Nat.le_refl _) (Nat.zero_le _) (by simp)
/-- rules lie where they lay when a row of other than numbers is written -/
theorem Rs.besides {w w' : World} {g : Nat} {cs : Array Value} {t : TypeId} {fr : Nat × Nat} {a : Option Addr} {n c : Nat} {xs : List Rw} (h : Rs w a n c xs) (hg : w.grownBy w' (some g)) (hs : w.heap[g]? = some (.cells cs t fr)) (hno : ∀ (i : Nat) (k : IntKind) (z : Int), cs[i]? ≠ some (Value.int k z)) : Rs w' a n c xs := by
  obtain ⟨h1, h2, h3, h4, h5⟩ := h
  refine ⟨h1, h2, h3, fun x hx => ?_, ?_⟩
  · have hgd := h4 x hx
    exact hgd.grown hg ⟨slf_no hgd.1 hs (fun i z => hno i _ z), slf_no hgd.2.1 hs (fun i z => hno i _ z)⟩
  · rcases h5 with h5 | ⟨b, off, ha, hc⟩
    · exact .inl h5
    · refine .inr ⟨b, off, ha, fun i hi => (hc i hi).grown' hg (fun e => ?_)⟩
      obtain rfl := Option.some.inj e
      have h2 := (hc i hi).2.2
      simp only [World.cell?, hs] at h2
      exact hno _ _ _ h2
theorem wpList_store_spec {ops : Array Oper} {rest : List Oper} {o : Oper} {a : Act} {w : World} {Q : Exit → Act → World → Prop} (hgd : o.guard = none) (p q : Operand) (ho : o.op = .store 41 p q) (b : Nat) (x y : Value)
    (hx : a.eval p = .pointer (some ⟨b, 0, none⟩)) (hy : a.eval q = .agg #[x, y]) (h1 : x.oneCell' = true) (h2 : y.oneCell' = true) (ht : w.there b 0 2) (h : ∀ w', w' = w.setCells b 0 [x, y] → wpList Try.prog ops Q rest (a.put o.dst undef) w') : wpList Try.prog ops Q (o :: rest) a w :=
  wpList_store_mid hgd 41 p q ho b 0 #[x, y] hx hy ht (by show _ = _; kernel_rfl) (by simp [h1, h2]) (h _ rfl)
theorem nil_no (i : Nat) (k : IntKind) (z : Int) : (#[Value.slice none 0 0, Value.slice none 0 0] : Array Value)[i]? ≠ some (Value.int k z) := by
  match i with
  | 0 => simp
  | 1 => simp
  | i + 2 => simp
/-- the cells of the world behind the store of a line's costs -/
theorem store_spec {w : World} {b : Nat} {x y : Value} (hh : w.heap[b]? = some (.cells #[Value.slice none 0 0, Value.slice none 0 0] 41 (0, 0))) :
    w.there b 0 2 ∧ w.grownBy (w.setCells b 0 [x, y]) (some b) ∧ (w.setCells b 0 [x, y]).cell? ⟨b, 1, none⟩ = some y := by
  have ht : w.there b 0 2 := fun j hj => by
    refine ⟨?_, by simp [World.frozen?, hh]⟩
    simp only [World.cell?, hh]
    rcases (by omega : j = 0 ∨ j = 1) with rfl | rfl <;> simp
  refine ⟨ht, (setCells_grown b _ _ _).1, ?_⟩
  have hin := World.cell?_setCells_in b [x, y] 0 w (fun j hj => (ht j (by simpa using hj)).1)
  simpa using hin 1 (by simp)
theorem below_own {w w' : World} {B g : Nat} (hB : B ≤ w.heap.size) (hg : w.grownBy w' (some g)) (h : B ≤ g) : Below B w w' := (Below.refl B w).grown hg hB (fun k hk => by cases hk; exact h)

/-! ### STEP 1: the walk -/
set_option maxHeartbeats 16000000 in
set_option maxRecDepth 100000 in
theorem walk (a0 : Option Addr) (len0 cap0 : Nat) (z0 : List Int) (a1 : Option Addr) (len1 cap1 : Nat) (z1 : List Int) (w : World) (w0 : IsRow .u8 w a0 len0 cap0 z0) (w1 : IsRow .u8 w a1 len1 cap1 z1) :
    Calls Try.prog 5 #[.slice a0 len0 cap0, .slice a1 len1 cap1] w fun e w' => e = .returned (.bool true) ∧ Below w.heap.size w w' := by
  have hn00 : a0 = none → cap0 = 0 := by
    rcases w0 with ⟨_, _, h, _⟩ | ⟨x, h, _⟩
    · exact fun _ => h
    · intro h'; rw [h] at h'; cases h'
  have HN0 := Lib.hid hn00
  clear hn00
  have hs0 := Sl.of_row w0
  generalize z0.take len0 = xs at hs0
  have hcm0 := hs0.2.2.1
  have hnc0 := hs0.2.1
  unfold maxLen at hcm0
  have HS := Lib.hid hs0
  have HLEN0 := Lib.hid hs0.1
  clear hs0 w0
  have hn10 : a1 = none → cap1 = 0 := by
    rcases w1 with ⟨_, _, h, _⟩ | ⟨x, h, _⟩
    · exact fun _ => h
    · intro h'; rw [h] at h'; cases h'
  have HN1 := Lib.hid hn10
  clear hn10
  have hs1 := Sl.of_row w1
  generalize z1.take len1 = ys at hs1
  have hcm1 := hs1.2.2.1
  have hnc1 := hs1.2.1
  unfold maxLen at hcm1
  have HT := Lib.hid hs1
  have HLEN1 := Lib.hid hs1.1
  clear hs1 w1
  obtain ⟨x, hx⟩ : ∃ g, File.read (xs ++ [10]) = g := ⟨_, rfl⟩
  obtain ⟨y, hy⟩ : ∃ g, File.read (xs ++ [10] ++ ys) = g := ⟨_, rfl⟩
  have HX := Lib.hid hx
  have HY := Lib.hid hy
  clear hx hy
  have hib : (3000 < len0 → (3000 : Int) < (len0 : Int)) ∧ (len0 ≤ 3000 → ¬ (3000 : Int) < (len0 : Int)) ∧ (1000 < len1 → (1000 : Int) < (len1 : Int)) ∧ (len1 ≤ 1000 → ¬ (1000 : Int) < (len1 : Int)) := ⟨fun h => by omega, fun h => by omega, fun h => by omega, fun h => by omega⟩
  rcases (by omega : 3000 < len0 ∨ len0 ≤ 3000) with g0 | g0
  · have hi0 := hib.1 g0
    clear hib
    go_enter Try.func5, Try.ntmps5
    go_wp2_with fail
    refine (awake_any _).mono ?_
    rintro e v1 ⟨rfl, B1⟩
    have HB1 := Lib.hid B1
    clear B1
    go_wp2
    go_ret
    exact ⟨rfl, HB1.out⟩
  have hi0 := hib.2.1 g0
  have hd0 : decide ((3000 : Int) < (len0 : Int)) = false := decide_eq_false hi0
  rcases (by omega : 1000 < len1 ∨ len1 ≤ 1000) with g1 | g1
  · have hi1 := hib.2.2.1 g1
    clear hib
    go_enter Try.func5, Try.ntmps5
    go_wp2_with fail
    refine (awake_any _).mono ?_
    rintro e v1 ⟨rfl, B1⟩
    have HB1 := Lib.hid B1
    clear B1
    go_wp2
    go_ret
    exact ⟨rfl, HB1.out⟩
  have hi1 := hib.2.2.2 g1
  have hd1 : decide ((1000 : Int) < (len1 : Int)) = false := decide_eq_false hi1
  clear hib hi0 hi1
  go_enter Try.func5, Try.ntmps5
  go_wp2_with fail
  refine (awake_any _).mono ?_
  rintro e v1 ⟨rfl, B1⟩
  have HB1 := Lib.hid B1
  have HS1 := Lib.hid (HS.out.below B1 (Nat.le_refl _))
  have HT1 := Lib.hid (HT.out.below B1 (Nat.le_refl _))
  clear B1 HS HT
  have hl0 : xs.length = len0 := HLEN0.out
  have hl1 : ys.length = len1 := HLEN1.out
  obtain ⟨fN, hfN⟩ : ∃ q, len0 + 1 = q := ⟨_, rfl⟩
  obtain ⟨gN, hgN⟩ : ∃ q, fN + len1 = q := ⟨_, rfl⟩
  go_wp2_with first
    | (at_builtin; refine append_bytes (by rfl) (.tmp 30) (.tmp 31) (by rfl) v1.heap.size _ 0 [] (by rfl) (owns0_one v1) a0 len0 cap0 xs (by rfl) (HS1.out.alloc _) len0 (by omega) (by omega) (by simp) ?_
       intro aP cP wP hownP hbP hnP
       have HOP : Hid (wP.ownsRow v1.heap.size 5 1 (.slice aP len0 cP) len0 (u8s xs)) := hownP
       have HBP : Hid (Below v1.heap.size v1 wP) := ((Below.refl _ v1).alloc (Nat.le_refl _) _).trans hbP
       clear hownP hbP hnP)
    | (at_builtin; refine append_bytes (by rfl) (.tmp 32) (.tmp 33) (by rfl) v1.heap.size _ len0 xs (by rfl) (HOP.out.alloc _) (some ⟨wP.heap.size, 0, none⟩) 1 1 [10] (by rfl) (Sl.newB [10] (by decide) (by unfold maxLen; simp) rfl rfl rfl) fN hfN (by omega) (Nat.le_trans HBP.out.size (by simp)) ?_
       intro fa fc wQ hownQ hbQ hnQ
       have HBQ : Hid (Below v1.heap.size v1 wQ) := (HBP.out.alloc HBP.out.size _).trans hbQ
       have HFN := Lib.hid hnQ
       have HSF : Hid (Sl .u8 wQ fa fN fc (xs ++ [10])) := Sl.of_owns (k := .u8) hownQ (fun c hc => by rcases List.mem_append.1 hc with hc | hc; exact HS1.out.2.2.2.1 c hc; rw [List.mem_singleton.1 hc]; decide) (by simp; omega)
       clear hownQ hbQ hnQ)
  clear hd0 hd1
  refine (fread_is fa fN fc (xs ++ [10]) x wQ HSF.out HFN.out (by omega) (split_short (by simp; omega)) HX.out).mono ?_
  rintro e v2 ⟨⟨m1, l1, o1, t1, p1, n1, c1, xs1⟩, rfl, hcc, hgd, hnil, hnl, hst⟩
  have HC1 := Lib.hid hcc
  have HG1 := Lib.hid hgd
  have hn1 : n1 ≤ 200 := hnl
  have hcap1 := hgd.1.2.1
  have hcap1' := hgd.1.2.2.1
  unfold maxLen at hcap1'
  clear hcc hgd hnil hnl
  simp only [Cw.v, Cw.cells]
  have hb12 : Below v1.heap.size v1 v2 := HBQ.out.trans (hst.mono HBQ.out.size)
  have HB2 : Hid (Below w.heap.size w v2) := HB1.out.trans (hb12.mono HB1.out.size)
  have HS2 := Lib.hid (HS1.out.below hb12 (Nat.le_refl _))
  have HT2 := Lib.hid (HT1.out.below hb12 (Nat.le_refl _))
  have HSZ : Hid (∀ X : Obj, (v2.alloc X).heap.size = v2.heap.size + 1) := fun X => World.size_alloc v2 X
  clear hst hb12 HS1 HT1 HSF HFN HBQ HOP HBP
  go_wp2_with first
    | (at_builtin; refine append_bytes (by rfl) (.tmp 40) (.tmp 41) (by rfl) (v2.heap.size + 1) _ 0 [] (by rfl) (owns0_two v2 _) a0 len0 cap0 xs (by rfl) ((HS2.out.alloc _).alloc _) len0 (by omega) (by omega) (by simp) ?_
       intro aR cR wR hownR hbR hnR
       have HOR : Hid (wR.ownsRow (v2.heap.size + 1) 5 1 (.slice aR len0 cR) len0 (u8s xs)) := hownR
       have HBR : Hid (Below (v2.heap.size + 1) (v2.alloc (.cells #[Value.int .u64 m1, Value.int .u64 l1, Value.int .u64 o1, Value.int .u64 t1, Value.slice p1 n1 c1] 26 (0, 0))) wR) := ((Below.refl _ _).alloc (Nat.le_of_eq (HSZ.out _).symm) _).trans hbR
       have HZR : Hid (v2.heap.size + 1 ≤ wR.heap.size) := by have := HBR.out.size; rw [HSZ.out] at this; exact this
       clear hownR hbR hnR)
    | (at_builtin; refine append_bytes (by rfl) (.tmp 42) (.tmp 43) (by rfl) (v2.heap.size + 1) _ len0 xs (by rfl) (HOR.out.alloc _) (some ⟨wR.heap.size, 0, none⟩) 1 1 [10] (by rfl) (Sl.newB [10] (by decide) (by unfold maxLen; simp) rfl rfl rfl) fN hfN (by omega) (Nat.le_trans HZR.out (by simp)) ?_
       intro aT cT wT hownT hbT hnT
       have HOT : Hid (wT.ownsRow (v2.heap.size + 1) 5 1 (.slice aT fN cT) fN (u8s (xs ++ [10]))) := hownT
       have HBT : Hid (Below (v2.heap.size + 1) (v2.alloc (.cells #[Value.int .u64 m1, Value.int .u64 l1, Value.int .u64 o1, Value.int .u64 t1, Value.slice p1 n1 c1] 26 (0, 0))) wT) := HBR.out.trans (((Below.refl _ wR).alloc HZR.out _).trans hbT)
       have HZT : Hid (v2.heap.size + 1 ≤ wT.heap.size) := by have := HBT.out.size; rw [HSZ.out] at this; exact this
       clear hownT hbT hnT)
    | (at_builtin; refine append_bytes (by rfl) (.tmp 44) (.tmp 45) (by rfl) (v2.heap.size + 1) _ fN (xs ++ [10]) (by rfl) HOT.out a1 len1 cap1 ys (by rfl) ((HT2.out.alloc _).below HBT.out (Nat.le_of_eq (HSZ.out _))) gN hgN (by omega) HZT.out ?_
       intro aS cS wS hownS hbS hnS
       have HSS : Hid (Sl .u8 wS aS gN cS (xs ++ [10] ++ ys)) := Sl.of_owns (k := .u8) hownS (fun c hc => by
         rcases List.mem_append.1 hc with hc | hc
         · rcases List.mem_append.1 hc with hc | hc
           · exact HS2.out.2.2.2.1 c hc
           · rw [List.mem_singleton.1 hc]; decide
         · exact HT2.out.2.2.2.1 c hc) (by simp; omega)
       have HBS : Hid (Below (v2.heap.size + 1) (v2.alloc (.cells #[Value.int .u64 m1, Value.int .u64 l1, Value.int .u64 o1, Value.int .u64 t1, Value.slice p1 n1 c1] 26 (0, 0))) wS) := HBT.out.trans hbS
       have HNS := Lib.hid hnS
       clear hownS hbS hnS)
  have hst : Below (v2.alloc (.cells #[Value.int .u64 m1, Value.int .u64 l1, Value.int .u64 o1, Value.int .u64 t1, Value.slice p1 n1 c1] 26 (0, 0))).heap.size (v2.alloc (.cells #[Value.int .u64 m1, Value.int .u64 l1, Value.int .u64 o1, Value.int .u64 t1, Value.slice p1 n1 c1] 26 (0, 0))) wS := by rw [HSZ.out]; exact HBS.out
  have hs9 := aw8_step HB2.out hst
  have HB3 := Lib.hid hs9.1
  have HP6 := Lib.hid hs9.2.2
  have HG1 := Lib.hid (HG1.out.below hs9.2.1 (Nat.le_refl _))
  have HT3 := Lib.hid (HT2.out.below hs9.2.1 (Nat.le_refl _))
  clear hst hs9 HS2 HT2 HOR HBR HZR HOT HBT HZT HBS HSZ
  refine (fread_is aS gN cS (xs ++ [10] ++ ys) y wS HSS.out HNS.out (by omega) (split_short (by simp; omega)) HY.out).mono ?_
  rintro e v3 ⟨⟨m2, l2, o2, t2, p2, n2, c2, xs2⟩, rfl, hcc, hgd, hnil, hnl, hst⟩
  have HC2 := Lib.hid hcc
  have HG2 := Lib.hid hgd
  have hn2 : n2 ≤ 200 := hnl
  have hcap2 := hgd.1.2.1
  have hcap2' := hgd.1.2.2.1
  unfold maxLen at hcap2'
  clear hcc hgd hnil hnl
  simp only [Cw.v, Cw.cells]
  have HB4 : Hid (Below w.heap.size w v3) := HB3.out.trans (hst.mono HB3.out.size)
  have HP6 := Lib.hid ((hst.block _ (Array.getElem?_eq_some_iff.1 HP6.out).1).trans HP6.out)
  have HG1 := Lib.hid (HG1.out.below hst (Nat.le_refl _))
  have HT4 := Lib.hid (HT3.out.below hst (Nat.le_refl _))
  have HBA : Hid (∀ o, Below w.heap.size w (v3.alloc o)) := fun o => HB4.out.alloc HB4.out.size o
  clear hst HT3 HSS HNS
  by_cases hxe : x.e = 0
  case neg =>
    have hxe1 : (x.e != 0) = true := by simpa using hxe
    go_wp2
    go_ret
    exact ⟨rfl, HBA.out _⟩
  have hxe1 : (x.e != 0) = false := by simp [hxe]
  by_cases hye : y.e = 0
  case neg =>
    have hye1 : (y.e != 0) = true := by simpa using hye
    go_wp2
    go_ret
    exact ⟨rfl, HBA.out _⟩
  have hye1 : (y.e != 0) = false := by simp [hye]
  have HMM := Lib.hid (File.cheap HX.out HY.out hxe hye)
  go_wp2_with fail
  refine (split_own a1 len1 cap1 ys _ (HT4.out.alloc _) HN1.out (by omega)).mono ?_
  rintro e v4 ⟨la9, M, lc9, rows, rfl, hrows, hbn, -, hb, hform⟩
  have hst := aw8_step HB4.out hb
  have HB5 := Lib.hid hst.1
  have HP9 := Lib.hid hst.2.2
  have HP6 := Lib.hid ((hst.2.1.block _ (Array.getElem?_eq_some_iff.1 HP6.out).1).trans HP6.out)
  have HG1 := Lib.hid (HG1.out.below hst.2.1 (Nat.le_refl _))
  have HG2 := Lib.hid (HG2.out.below hst.2.1 (Nat.le_refl _))
  have HROWS := Lib.hid hrows
  have HBN := Lib.hid hbn
  have HFORM := Lib.hid hform
  have HLM : Hid ((Line.split ys).length = M) := by show _ = _; rw [← HBN.out, bnums_length, hrows.1]
  have hlcm := hrows.2.2.1
  have hMlc := hrows.2.1
  unfold maxLen at hlcm
  have hmx : Try.prog.follows .mixedOrders = true := by kernel_rfl
  have HVA : ∀ o, Hid (Below v4.heap.size v4 (v4.alloc o) ∧ (v4.alloc o).heap[v4.heap.size]? = some o ∧ (v4.alloc o).heap.size = v4.heap.size + 1) := fun o => ⟨(Below.refl _ v4).alloc (Nat.le_refl _) o, heap_alloc_new v4 o, World.size_alloc v4 o⟩
  have HZ6 : Hid (v2.heap.size < v4.heap.size ∧ v3.heap.size < v4.heap.size) := ⟨(Array.getElem?_eq_some_iff.1 HP6.out).1, (Array.getElem?_eq_some_iff.1 HP9.out).1⟩
  clear hst hb hrows hbn hform HBA HT4
  by_cases hM1 : M = 1
  · obtain rfl : M = 1 := hM1
    obtain ⟨b0, o0, za, zn, zc, z, rfl, hb0, hgd, hclz, hslz, hz⟩ := HROWS.out.one 0 (by omega)
    have hsz : Line.split ys = [z] := by
      have h1 := HLM.out
      rw [HBN.out] at hz
      match hq : Line.split ys, h1, hz with
      | [q], _, h => simp at h; rw [h]
    have hzl : zn ≤ 1000 := by
      have h1 := split_short (b := ys) (K := 1000) (by omega) z (by rw [hsz]; simp)
      rw [hslz.1] at h1; exact h1
    have hcl0 : ∀ o, (v4.alloc o).cell? ⟨b0, o0 + 0, none⟩ = some (.slice za zn zc) := fun o => ((HVA o).out.1.cell (p := ⟨b0, o0 + 0, none⟩) hb0).trans hclz
    have hcl1 : ∀ o, (v4.alloc o).cell? ⟨b0, o0, none⟩ = some (.slice za zn zc) := hcl0
    have HZN : Hid (za = none → zc = 0) := fun e => by
      have hm : rows.getD 0 Bd.no ∈ rows := by rw [List.getD_eq_getElem?_getD, List.getElem?_eq_getElem (by rw [HROWS.out.1]; omega), Option.getD_some]; exact List.getElem_mem _
      obtain ⟨b, hb⟩ := HFORM.out _ hm
      rw [hgd] at hb
      simp only at hb
      rw [e] at hb; cases hb
    have HSZ := Lib.hid hslz
    obtain ⟨s, hsr⟩ : ∃ s, Spec.read z = s := ⟨_, rfl⟩
    have HSR := Lib.hid hsr
    have HRL : Hid (s.rules.length ≤ 2144) := by
      have := read_len z
      have h2 := hslz.1
      rw [hsr] at this
      show _ ≤ _; omega
    have hmm := HMM.out.2 z hsz
    rw [hsr] at hmm
    have HMZ := Lib.hid hmm
    have hl1i : (0 : Int) < (1 : Int) := by omega
    clear hgd hclz hslz hz hsr hmm hb0 hsz
    go_wp2_with fail
    refine (read7_is za zn zc z s _ (HSZ.out.alloc _) HZN.out (by omega) HSR.out).mono ?_
    rintro e v5 ⟨ba3, bn3, bc3, ra3, rn3, rc3, xs3, rfl, hbs, hbc, hrs, hru, hrc, hb⟩
    have hh14 : v5.heap[v4.heap.size]? = some (.cells #[Value.slice none 0 0, Value.slice none 0 0] 41 (0, 0)) := (hb.block _ (by rw [(HVA _).out.2.2]; omega)).trans (HVA _).out.2.1
    have hb45 : Below v4.heap.size v4 v5 := (HVA _).out.1.trans (hb.mono (by rw [(HVA _).out.2.2]; omega))
    have hrn3 : rn3 ≤ 2144 := by have h1 := HRL.out; rw [← hru, ruls_length, hrs.1] at h1; exact h1
    have HH14 := Lib.hid hh14
    have HB45 := Lib.hid hb45
    have HR5 := Lib.hid hrs
    have HRU := Lib.hid hru
    have hbnc := hbs.2.1
    have hbcm := hbs.2.2.1
    have hrnc := hrs.2.1
    have hrcm := hrs.2.2.1
    unfold maxLen at hbcm hrcm
    clear hb hbs hbc hrs hru hrc hh14 hb45 hcl0 hcl1
    go_wp2_with (refine wpList_store_spec (by rfl) (.tmp 14) (.tmp 69) (by rfl) v4.heap.size (.slice ba3 bn3 bc3) (.slice ra3 rn3 rc3) (by rfl) (by rfl) rfl rfl (store_spec (x := .slice ba3 bn3 bc3) (y := .slice ra3 rn3 rc3) HH14.out).1 ?_; intro V hV; have HV := Lib.hid hV; clear hV)
    have hsp := store_spec (x := .slice ba3 bn3 bc3) (y := .slice ra3 rn3 rc3) HH14.out
    rw [← HV.out] at hsp
    have hbV : Below v4.heap.size v4 V := HB45.out.trans (below_own HB45.out.size hsp.2.1 (Nat.le_refl _))
    have HBV : Hid (Below w.heap.size w V) := HB5.out.trans (hbV.mono HB5.out.size)
    have HC14 : Hid (V.cell? ⟨v4.heap.size, 1, none⟩ = some (.slice ra3 rn3 rc3)) := hsp.2.2
    have HR3 : Hid (Rs V ra3 rn3 rc3 xs3) := Rs.besides HR5.out hsp.2.1 HH14.out nil_no
    have HP6v' := (hbV.block _ HZ6.out.1).trans HP6.out
    have HP9v' := (hbV.block _ HZ6.out.2).trans HP9.out
    have HG1 := Lib.hid (HG1.out.below hbV (Nat.le_refl _))
    have HG2 := Lib.hid (HG2.out.below hbV (Nat.le_refl _))
    have hx : (Cw.mk m1 l1 o1 t1 p1 n1 c1 xs1).c.rules = ruls xs1 := rfl
    have HALA : Hid (∀ r ∈ ruls xs1, ∃ s ∈ ruls xs2, s.like r ∧ s.C ≤ r.C) := fun r hr => by
      have h := HMM.out.1 r (by rw [← HC1.out]; exact hr)
      rw [← HC2.out] at h; exact h
    have HALB : Hid (∀ r ∈ ruls xs3, ∃ s ∈ ruls xs2, s.like r ∧ s.C ≤ r.C) := fun r hr => by
      have h := HMZ.out.1 r (by rw [← HRU.out]; exact hr)
      rw [← HC2.out] at h; exact h
    have HNRA : Hid (nrm (ruls xs1 ++ ruls xs3) = ruls xs2) := by
      have h := HMZ.out.2
      rw [← HC1.out, ← HC2.out, ← HRU.out] at h; exact h
    clear hx hsp hbV HV HH14 HB45 HR5 HRU HMZ HMM HP6 HP9 HVA HZ6
    have HP6v := Lib.hid HP6v'
    have HP9v := Lib.hid HP9v'
    obtain ⟨nA, hnA⟩ : ∃ q, n1 + rn3 = q := ⟨_, rfl⟩
    obtain ⟨xsA, hxA⟩ : ∃ q, xs1 ++ xs3 = q := ⟨_, rfl⟩
    have HXA := Lib.hid hxA
    have HALL : Hid (∀ r ∈ ruls xsA, ∃ s ∈ ruls xs2, s.like r ∧ s.C ≤ r.C) := fun r hr => by
      rw [← hxA, ruls_app] at hr
      rcases List.mem_append.1 hr with hr | hr
      · exact HALA.out r hr
      · exact HALB.out r hr
    have HNRM : Hid (nrm (ruls xsA) = ruls xs2) := by show _ = _; rw [← hxA, ruls_app]; exact HNRA.out
    clear hxA HP6v' HP9v'
    have hd0 : Below V.heap.size V V.drew := below_drawn (Below.refl _ V) ⟨1, rfl⟩
    have hd1 : Below V.heap.size V (V.drew.alloc (.cells #[] 48)) := hd0.alloc hd0.size _
    have HKEEP : Hid (∀ W, Below V.heap.size V W → W.cell? ⟨v2.heap.size, 4, none⟩ = some (.slice p1 n1 c1) ∧ W.cell? ⟨v4.heap.size, 1, none⟩ = some (.slice ra3 rn3 rc3)) := fun W hb => by
      have h6 := (hb.block _ (Array.getElem?_eq_some_iff.1 HP6v.out).1).trans HP6v.out
      exact ⟨by simp [World.cell?, h6], by rw [hb.cell (p := ⟨v4.heap.size, 1, none⟩) (cell_lt HC14.out)]; exact HC14.out⟩
    refine wp_region_held_drew (S := (fun W => W.cell? ⟨v2.heap.size, 4, none⟩ = some (.slice p1 n1 c1) ∧ W.cell? ⟨v4.heap.size, 1, none⟩ = some (.slice ra3 rn3 rc3))) (by kernel_rfl) (by first | (first | exact HKEEP.out _ hbQ | exact HKEEP.out _ hbP | exact HKEEP.out _ hd1 | exact HKEEP.out _ hd0) | ((try dsimp only); first | exact HKEEP.out _ hbQ | exact HKEEP.out _ hbP | exact HKEEP.out _ hd1 | exact HKEEP.out _ hd0)) (fun hHeld => ?_)
    refine wpAnyH_take (i := 1) (v := ?vk1) rfl (by kernel_rfl) (by kernel_rfl) (by kernel_rfl) (fun _ _ _ h => h) (Or.inl ⟨by rfl, ?hk1⟩) (by assumption) ?rk1
    case hk1 => intro w hSw; (try dsimp only at hSw); go_simp; try with_reducible rfl
    simp only [Act.put, List.getElem_toArray, List.getElem_cons_succ, List.getElem_cons_zero, List.setIfInBounds_toArray, List.set_cons_succ, List.set_cons_zero]
    refine wpAnyH_take (i := 2) (v := ?vk4) rfl (by kernel_rfl) (by kernel_rfl) (by kernel_rfl) (fun _ _ _ h => h) (Or.inl ⟨by rfl, ?hk4⟩) (by assumption) ?rk4
    case hk4 => intro w hSw; (try dsimp only at hSw); go_simp; try with_reducible rfl
    simp only [Act.put, List.getElem_toArray, List.getElem_cons_succ, List.getElem_cons_zero, List.setIfInBounds_toArray, List.set_cons_succ, List.set_cons_zero]
    refine wpAnyH_take (i := 4) (v := ?vk7) rfl (by kernel_rfl) (by kernel_rfl) (by kernel_rfl) (fun _ _ _ h => h) (Or.inl ⟨by rfl, ?hk7⟩) (by assumption) ?rk7
    case hk7 => intro w hSw; (try dsimp only at hSw); go_simp; try with_reducible rfl
    simp only [Act.put, List.getElem_toArray, List.getElem_cons_succ, List.getElem_cons_zero, List.setIfInBounds_toArray, List.set_cons_succ, List.set_cons_zero]
    refine wpAnyH_take (i := 5) (v := ?vk10) rfl (by kernel_rfl) (by kernel_rfl) (by kernel_rfl) (fun _ _ _ h => h) (Or.inl ⟨by rfl, ?hk10⟩) (by assumption) ?rk10
    case hk10 => intro w hSw; (try dsimp only at hSw); go_simp; try with_reducible rfl
    simp only [Act.put, List.getElem_toArray, List.getElem_cons_succ, List.getElem_cons_zero, List.setIfInBounds_toArray, List.set_cons_succ, List.set_cons_zero]
    refine wpAnyH_ready (rs := [0]) (by kernel_rfl) (by simp) ?_
    refine AllReadyH.cons rfl (fun K hK => ?_) AllReadyH.nil
    go_simp
    refine hK.out _ _ (by first | (first | exact HKEEP.out _ hbQ | exact HKEEP.out _ hbP | exact HKEEP.out _ hd1 | exact HKEEP.out _ hd0) | ((try dsimp only); first | exact HKEEP.out _ hbQ | exact HKEEP.out _ hbP | exact HKEEP.out _ hd1 | exact HKEEP.out _ hd0)) (fun hHeld => ?_)
    clear hK K
    try simp only [Act.put, List.getElem_toArray, List.getElem_cons_succ, List.getElem_cons_zero, List.setIfInBounds_toArray, List.set_cons_succ, List.set_cons_zero]
    refine wpAnyH_ready (rs := [3]) (by kernel_rfl) (by simp) ?_
    refine AllReadyH.cons rfl (fun K hK => ?_) AllReadyH.nil
    refine step_append_rules (w0 := V) (by rfl) (.tmp 71) (.tmp 73) (by rfl) V.heap.size _ 0 [] (by rfl) (owns0_rules V.drew) p1 n1 c1 xs1 (by rfl) ((HG1.out.1.below hd0 (Nat.le_refl _)).alloc _) n1 (by omega) (by omega) (Nat.le_refl _) hd1 ?_
    intro aP cP wP hownP hbP _ _
    simp only [List.nil_append] at hownP
    refine hK.out _ _ (by first | (first | exact HKEEP.out _ hbQ | exact HKEEP.out _ hbP | exact HKEEP.out _ hd1 | exact HKEEP.out _ hd0) | ((try dsimp only); first | exact HKEEP.out _ hbQ | exact HKEEP.out _ hbP | exact HKEEP.out _ hd1 | exact HKEEP.out _ hd0)) (fun hHeld => ?_)
    clear hK K
    try simp only [Act.put, List.getElem_toArray, List.getElem_cons_succ, List.getElem_cons_zero, List.setIfInBounds_toArray, List.set_cons_succ, List.set_cons_zero]
    refine wpAnyH_ready (rs := [6]) (by kernel_rfl) (by simp) ?_
    refine AllReadyH.cons rfl (fun K hK => ?_) AllReadyH.nil
    refine step_append_rules (w0 := V) (by rfl) (.tmp 74) (.tmp 76) (by rfl) V.heap.size _ n1 xs1 (by rfl) hownP ra3 rn3 rc3 xs3 (by rfl) (HR3.out.below hbP (Nat.le_refl _)) nA hnA (by omega) (Nat.le_refl _) hbP ?_
    intro aQ cQ wQ2 hownQ hbQ _ _
    have hrsQ : Rs wQ2 aQ nA cQ xsA := Rs.of_owns (by rw [← HXA.out]; exact hownQ) (fun x hx => by
      rw [← HXA.out] at hx
      rcases List.mem_append.1 hx with hx | hx
      · exact (HG1.out.1.2.2.2.1 x hx).below hbQ (Nat.le_refl _)
      · exact (HR3.out.2.2.2.1 x hx).below hbQ (Nat.le_refl _)) (by rw [← HXA.out, List.length_append, HG1.out.1.1, HR3.out.1, hnA])
    refine hK.out _ _ (by first | (first | exact HKEEP.out _ hbQ | exact HKEEP.out _ hbP | exact HKEEP.out _ hd1 | exact HKEEP.out _ hd0) | ((try dsimp only); first | exact HKEEP.out _ hbQ | exact HKEEP.out _ hbP | exact HKEEP.out _ hd1 | exact HKEEP.out _ hd0)) (fun hHeld => ?_)
    clear hK K
    try simp only [Act.put, List.getElem_toArray, List.getElem_cons_succ, List.getElem_cons_zero, List.setIfInBounds_toArray, List.set_cons_succ, List.set_cons_zero]
    refine wpAnyH_take (i := 7) (v := ?vk39) rfl (by kernel_rfl) (by kernel_rfl) (by kernel_rfl) (fun _ _ _ h => h) (Or.inl ⟨by rfl, ?hk39⟩) (by assumption) ?rk39
    case hk39 => intro w hSw; (try dsimp only at hSw); go_simp; try with_reducible rfl
    simp only [Act.put, List.getElem_toArray, List.getElem_cons_succ, List.getElem_cons_zero, List.setIfInBounds_toArray, List.set_cons_succ, List.set_cons_zero]
    refine wpAnyH_done (by kernel_rfl) ?_ _
    have HA := Lib.hid hrsQ
    have hnac := hrsQ.2.1
    have hcqm := hrsQ.2.2.1
    unfold maxLen at hcqm
    have HBQ : Hid (Below w.heap.size w wQ2) := HBV.out.trans (hbQ.mono HBV.out.size)
    have HY2 : Hid (Rs wQ2 p2 n2 c2 xs2) := HG2.out.1.below hbQ (Nat.le_refl _)
    have HKQ : Hid (∀ W, Below wQ2.heap.size wQ2 W → W.cell? ⟨v2.heap.size, 4, none⟩ = some (.slice p1 n1 c1) ∧ W.cell? ⟨v3.heap.size, 4, none⟩ = some (.slice p2 n2 c2)) := fun W hb => by
      have hbb := hbQ.trans (hb.mono hbQ.size)
      have h6 := (hbb.block _ (Array.getElem?_eq_some_iff.1 HP6v.out).1).trans HP6v.out
      have h9 := (hbb.block _ (Array.getElem?_eq_some_iff.1 HP9v.out).1).trans HP9v.out
      exact ⟨by simp [World.cell?, h6], by simp [World.cell?, h9]⟩
    clear hrsQ hownQ hbQ hownP hbP hd1 hd0 hHeld HKEEP
    go_wp2
    go_loopw [16, 17, 18] (fun ix _hv _kx wr => ∃ i : Nat, i ≤ nA ∧ ix = .int .i64 (i : Int) ∧ Hid (Below wQ2.heap.size wQ2 wr)) (fun ix _ _ _ => nA - (intOf ix).toNat)
    case atStart => exact ⟨0, Nat.zero_le _, rfl, Below.refl _ _⟩
    case round =>
      obtain ⟨i, hi, rfl, HB⟩ := hrel
      have hq6 := (HKQ.out wr HB.out).1
      by_cases hlt : i < nA
      · obtain ⟨b1, o1, la, ln, lc, LL, ra, rn, rc, RR, C, rfl, hb1, hx1, hx2, hx3, hsl, hsr, hC0, hC1, hz1⟩ := (HA.out.below HB.out (Nat.le_refl _)).one i hlt
        have hlti : (i : Int) < (nA : Int) := by omega
        have HGO : Hid ((⟨la, ln, lc, LL, ra, rn, rc, RR, C⟩ : Rw).Good wr) := ⟨hsl, hsr, hC0, hC1⟩
        have HQ1 := Lib.hid hx1
        have HQ2 := Lib.hid hx2
        have HQ3 := Lib.hid hx3
        have HZ1 := Lib.hid hz1
        have hb14 := hb1
        have HBO := Lib.hid HB.out
        clear hx1 hx2 hx3 hsl hsr hz1 hb1 HB
        obtain ⟨W1, hW1⟩ : ∃ W1, W1 = wr := ⟨_, rfl⟩
        subst hW1
        go_wp2
        go_loopw [17, 18] (fun hv kx wr => ∃ (k : Nat) (h : Bool), k ≤ n2 ∧ kx = .int .i64 (k : Int) ∧ hv = .bool h ∧ Hid (h = ((ruls xs2).take k).any fun s => decide (s.like ⟨LL, RR, C⟩) && decide (s.C ≤ C)) ∧ Hid (Below W1.heap.size W1 wr)) (fun _ kx _ => n2 - (intOf kx).toNat)
        case atStart => exact ⟨0, false, Nat.zero_le _, rfl, rfl, (by first | exact (trivial : True) | (show false = ((ruls xs2).take 0).any _; rw [List.take_zero, List.any_nil])), Below.refl _ _⟩
        case round =>
          obtain ⟨k, h, hk, rfl, rfl, HH, HB⟩ := hrel
          have hr9 := (HKQ.out wr (HBO.out.trans (HB.out.mono HBO.out.size))).2
          by_cases hkm : k < n2
          · obtain ⟨b2, o2, la', ln', lc', LL', ra', rn', rc', RR', C', rfl, hb2, hy1, hy2, hy3, hsl', hsr', hC0', hC1', hz2⟩ := ((HY2.out.below HBO.out (Nat.le_refl _)).below HB.out (Nat.le_refl _)).one k hkm
            have hkmi : (k : Int) < (n2 : Int) := by omega
            have HZ2 := Lib.hid hz2
            have HNX : Hid (∀ q : Bool, (decide ((⟨LL', RR', C'⟩ : Rul).like ⟨LL, RR, C⟩) && decide (C' ≤ C)) = q → (h || q) = ((ruls xs2).take (k + 1)).any fun s => decide (s.like ⟨LL, RR, C⟩) && decide (s.C ≤ C)) := fun q hq => by
              have hkr : k < (ruls xs2).length := by rw [ruls_length, HY2.out.1]; exact hkm
              have h1 := ruls_at xs2 k
              rw [HZ2.out, List.getD_eq_getElem?_getD, List.getElem?_eq_getElem hkr, Option.getD_some] at h1
              rw [List.take_succ_eq_append_getElem hkr, List.any_append, ← HH.out, h1, ← hq]
              simp [Rw.r]
            cases h
            · have HGX : Hid ((⟨la, ln, lc, LL, ra, rn, rc, RR, 0⟩ : Rw).Good wr) := ⟨HGO.out.1.below HB.out (Nat.le_refl _), HGO.out.2.1.below HB.out (Nat.le_refl _), Int.le_refl _, by show (0 : Int) < _; decide⟩
              have HGY : Hid ((⟨la', ln', lc', LL', ra', rn', rc', RR', 0⟩ : Rw).Good wr) := ⟨hsl', hsr', Int.le_refl _, by show (0 : Int) < _; decide⟩
              have hp1 : wr.cell? ⟨b1, o1 + i * 3, none⟩ = some (.slice la ln lc) := (HB.out.cell (p := ⟨b1, o1 + i * 3, none⟩) hb14).trans HQ1.out
              have hp2 : wr.cell? ⟨b1, o1 + i * 3 + 1, none⟩ = some (.slice ra rn rc) := (HB.out.cell (p := ⟨b1, o1 + i * 3 + 1, none⟩) hb14).trans HQ2.out
              have hp3 : wr.cell? ⟨b1, o1 + i * 3 + 2, none⟩ = some (.int .u64 C) := (HB.out.cell (p := ⟨b1, o1 + i * 3 + 2, none⟩) hb14).trans HQ3.out
              have hbp := cell_lt hp1
              have hb9 := cell_lt hr9
              have KEEP : Hid (∀ W, Below wr.heap.size wr W → (fun W => W.cell? ⟨b1, o1 + i * 3, none⟩ = some (.slice la ln lc) ∧ W.cell? ⟨b1, o1 + i * 3 + 1, none⟩ = some (.slice ra rn rc) ∧ W.cell? ⟨b1, o1 + i * 3 + 2, none⟩ = some (.int .u64 C) ∧ W.cell? ⟨b2, o2 + k * 3, none⟩ = some (.slice la' ln' lc') ∧ W.cell? ⟨b2, o2 + k * 3 + 1, none⟩ = some (.slice ra' rn' rc') ∧ W.cell? ⟨b2, o2 + k * 3 + 2, none⟩ = some (.int .u64 C') ∧ W.cell? ⟨v3.heap.size, 4, none⟩ = some (.slice (some ⟨b2, o2, none⟩) n2 c2)) W) := fun W hb =>
                ⟨(hb.cell (p := ⟨b1, o1 + i * 3, none⟩) hbp).trans hp1, (hb.cell (p := ⟨b1, o1 + i * 3 + 1, none⟩) hbp).trans hp2, (hb.cell (p := ⟨b1, o1 + i * 3 + 2, none⟩) hbp).trans hp3,
                  (hb.cell (p := ⟨b2, o2 + k * 3, none⟩) hb2).trans hy1, (hb.cell (p := ⟨b2, o2 + k * 3 + 1, none⟩) hb2).trans hy2, (hb.cell (p := ⟨b2, o2 + k * 3 + 2, none⟩) hb2).trans hy3, (hb.cell (p := ⟨v3.heap.size, 4, none⟩) hb9).trans hr9⟩
              have BEL0 : Hid (Below wr.heap.size wr wr.drew) := below_drawn (Below.refl _ wr) ⟨1, rfl⟩
              have BEL1 : Hid (∀ o, Below wr.heap.size wr (wr.alloc o)) := fun o => (Below.refl _ wr).alloc (Nat.le_refl _) o
              have BEL2 : Hid (∀ o o', Below wr.heap.size wr ((wr.alloc o).alloc o')) := fun o o' => ((Below.refl _ wr).alloc (Nat.le_refl _) o).alloc (by simp) o'
              have BELD1 : Hid (∀ o, Below wr.heap.size wr (wr.drew.alloc o)) := fun o => BEL0.out.alloc (Nat.le_refl _) o
              have BELD2 : Hid (∀ o o', Below wr.heap.size wr ((wr.drew.alloc o).alloc o')) := fun o o' => (BELD1.out o).alloc (BELD1.out o).size o'
              have hcase := Classical.em ((⟨LL', RR', C'⟩ : Rul).like ⟨LL, RR, C⟩)
              clear hsl' hsr' hz2 hp1 hp2 hp3
              rcases hcase with h1 | h1
              · have HSM : Hid (decide ((⟨LL, RR, 0⟩ : Rul) = ⟨LL', RR', 0⟩) = true) := Lib.hid (decide_eq_true (Rul.ext' h1.1.symm h1.2.symm rfl))
                have HQ : Hid ((decide (C' ≤ C)) = ((ruls xs2).take (k + 1)).any fun s => decide (s.like ⟨LL, RR, C⟩) && decide (s.C ≤ C)) := (Bool.false_or (decide (C' ≤ C))).symm.trans (HNX.out (decide (C' ≤ C)) (by simp [h1]))
                clear h1 HNX
                go_wp2
                go_region_held3 (fun W => W.cell? ⟨b1, o1 + i * 3, none⟩ = some (.slice la ln lc) ∧ W.cell? ⟨b1, o1 + i * 3 + 1, none⟩ = some (.slice ra rn rc) ∧ W.cell? ⟨b1, o1 + i * 3 + 2, none⟩ = some (.int .u64 C) ∧ W.cell? ⟨b2, o2 + k * 3, none⟩ = some (.slice la' ln' lc') ∧ W.cell? ⟨b2, o2 + k * 3 + 1, none⟩ = some (.slice ra' rn' rc') ∧ W.cell? ⟨b2, o2 + k * 3 + 2, none⟩ = some (.int .u64 C') ∧ W.cell? ⟨v3.heap.size, 4, none⟩ = some (.slice (some ⟨b2, o2, none⟩) n2 c2)) (first | exact KEEP.out _ BEL0.out | exact KEEP.out _ (BELD1.out _) | exact KEEP.out _ (BELD2.out _ _) | exact KEEP.out _ (Below.like (BEL1.out _) rfl rfl rfl rfl) | exact KEEP.out _ (Below.like (BEL2.out _ _) rfl rfl rfl rfl) | exact KEEP.out _ hd5) (first
                  | (go_at_call 15; refine (rsames_is (some ⟨_, 0, none⟩) (some ⟨_, 0, none⟩) 1 1 1 1 [⟨la, ln, lc, LL, ra, rn, rc, RR, 0⟩] [⟨la', ln', lc', LL', ra', rn', rc', RR', 0⟩] true _ (by first | exact (Rs.single ((HGX.out.alloc _).alloc _) ((RwAt.new wr ⟨la, ln, lc, LL, ra, rn, rc, RR, 0⟩ _).alloc _)).drew | exact (Rs.single ((HGX.out.alloc _).alloc _) (RwAt.second wr ⟨la, ln, lc, LL, ra, rn, rc, RR, 0⟩ _ _)).drew) (by first | exact (Rs.single ((HGY.out.alloc _).alloc _) (RwAt.second wr ⟨la', ln', lc', LL', ra', rn', rc', RR', 0⟩ _ _)).drew | exact (Rs.single ((HGY.out.alloc _).alloc _) ((RwAt.new wr ⟨la', ln', lc', LL', ra', rn', rc', RR', 0⟩ _).alloc _)).drew) (by rw [← HSM.out, decide_eq_decide]; simp [ruls, Rw.r])).mono ?_; rintro e w5 ⟨rfl, hq⟩; have hd5 : Below wr.heap.size wr w5 := below_drawn (below_drawn (BEL2.out _ _) ⟨1, rfl⟩) hq; clear hq))
                all_goals
                  have HD5 : Hid (Below W1.heap.size W1 w5) := HB.out.trans (hd5.mono HB.out.size)
                  clear hd5
                  go_wp2
                  go_roundw
                  case rel => exact ⟨k + 1, (decide (C' ≤ C)), by omega, by go_num, rfl, HQ.out, HD5.out⟩
                  case measure => simp [intOf]; omega
              · have HSM : Hid (decide ((⟨LL, RR, 0⟩ : Rul) = ⟨LL', RR', 0⟩) = false) := Lib.hid (decide_eq_false (fun h => h1 ⟨(Rul.mk.inj h).1.symm, (Rul.mk.inj h).2.1.symm⟩))
                have HQ : Hid (false = ((ruls xs2).take (k + 1)).any fun s => decide (s.like ⟨LL, RR, C⟩) && decide (s.C ≤ C)) := (Bool.false_or false).symm.trans (HNX.out false (by simp [h1]))
                clear h1 HNX
                go_wp2
                refine wp_region_held_drew (S := (fun W => W.cell? ⟨b1, o1 + i * 3, none⟩ = some (.slice la ln lc) ∧ W.cell? ⟨b1, o1 + i * 3 + 1, none⟩ = some (.slice ra rn rc) ∧ W.cell? ⟨b1, o1 + i * 3 + 2, none⟩ = some (.int .u64 C) ∧ W.cell? ⟨b2, o2 + k * 3, none⟩ = some (.slice la' ln' lc') ∧ W.cell? ⟨b2, o2 + k * 3 + 1, none⟩ = some (.slice ra' rn' rc') ∧ W.cell? ⟨b2, o2 + k * 3 + 2, none⟩ = some (.int .u64 C') ∧ W.cell? ⟨v3.heap.size, 4, none⟩ = some (.slice (some ⟨b2, o2, none⟩) n2 c2))) (by kernel_rfl) (by first | ((first | exact KEEP.out _ BEL0.out | exact KEEP.out _ (BELD1.out _) | exact KEEP.out _ (BELD2.out _ _) | exact KEEP.out _ (Below.like (BEL1.out _) rfl rfl rfl rfl) | exact KEEP.out _ (Below.like (BEL2.out _ _) rfl rfl rfl rfl) | exact KEEP.out _ hd5)) | ((try dsimp only); (first | exact KEEP.out _ BEL0.out | exact KEEP.out _ (BELD1.out _) | exact KEEP.out _ (BELD2.out _ _) | exact KEEP.out _ (Below.like (BEL1.out _) rfl rfl rfl rfl) | exact KEEP.out _ (Below.like (BEL2.out _ _) rfl rfl rfl rfl) | exact KEEP.out _ hd5))) (fun hHeld => ?_)
                refine wpAnyH_take (i := 0) (v := ?vx1) rfl (by kernel_rfl) (by kernel_rfl) (by kernel_rfl) (fun _ _ _ h => h) (Or.inl ⟨by rfl, ?hx1⟩) (by assumption) ?rx1
                case hx1 => intro w hSw; (try dsimp only at hSw); go_simp; try with_reducible rfl
                simp only [Act.put, List.getElem_toArray, List.getElem_cons_succ, List.getElem_cons_zero, List.setIfInBounds_toArray, List.set_cons_succ, List.set_cons_zero]
                refine wpAnyH_take (i := 1) (v := ?vx4) rfl (by kernel_rfl) (by kernel_rfl) (by kernel_rfl) (fun _ _ _ h => h) (Or.inl ⟨by rfl, ?hx4⟩) (by assumption) ?rx4
                case hx4 => intro w hSw; (try dsimp only at hSw); go_simp; try with_reducible rfl
                simp only [Act.put, List.getElem_toArray, List.getElem_cons_succ, List.getElem_cons_zero, List.setIfInBounds_toArray, List.set_cons_succ, List.set_cons_zero]
                refine wpAnyH_take (i := 2) (v := ?vx7) rfl (by kernel_rfl) (by kernel_rfl) (by kernel_rfl) (fun _ _ _ h => h) (Or.inl ⟨by rfl, ?hx7⟩) (by assumption) ?rx7
                case hx7 => intro w hSw; (try dsimp only at hSw); go_simp; try with_reducible rfl
                simp only [Act.put, List.getElem_toArray, List.getElem_cons_succ, List.getElem_cons_zero, List.setIfInBounds_toArray, List.set_cons_succ, List.set_cons_zero]
                refine wpAnyH_take (i := 3) (v := ?vx10) rfl (by kernel_rfl) (by kernel_rfl) (by kernel_rfl) (fun _ _ _ h => h) (Or.inl ⟨by rfl, ?hx10⟩) (by assumption) ?rx10
                case hx10 => intro w hSw; (try dsimp only at hSw); go_simp; try with_reducible rfl
                simp only [Act.put, List.getElem_toArray, List.getElem_cons_succ, List.getElem_cons_zero, List.setIfInBounds_toArray, List.set_cons_succ, List.set_cons_zero]
                refine wpAnyH_take (i := 4) (v := ?vx13) rfl (by kernel_rfl) (by kernel_rfl) (by kernel_rfl) (fun _ _ _ h => h) (Or.inl ⟨by rfl, ?hx13⟩) (by assumption) ?rx13
                case hx13 => intro w hSw; (try dsimp only at hSw); go_simp; try with_reducible rfl
                simp only [Act.put, List.getElem_toArray, List.getElem_cons_succ, List.getElem_cons_zero, List.setIfInBounds_toArray, List.set_cons_succ, List.set_cons_zero]
                refine wpAnyH_take (i := 5) (v := ?vx16) rfl (by kernel_rfl) (by kernel_rfl) (by kernel_rfl) (fun _ _ _ h => h) (Or.inl ⟨by rfl, ?hx16⟩) (by assumption) ?rx16
                case hx16 => intro w hSw; (try dsimp only at hSw); go_simp; try with_reducible rfl
                simp only [Act.put, List.getElem_toArray, List.getElem_cons_succ, List.getElem_cons_zero, List.setIfInBounds_toArray, List.set_cons_succ, List.set_cons_zero]
                refine wpAnyH_take (i := 6) (v := ?vx19) rfl (by kernel_rfl) (by kernel_rfl) (by kernel_rfl) (fun _ _ _ h => h) (Or.inl ⟨by rfl, ?hx19⟩) (by assumption) ?rx19
                case hx19 => intro w hSw; (try dsimp only at hSw); go_simp; try with_reducible rfl
                simp only [Act.put, List.getElem_toArray, List.getElem_cons_succ, List.getElem_cons_zero, List.setIfInBounds_toArray, List.set_cons_succ, List.set_cons_zero]
                refine wpAnyH_take (i := 7) (v := ?vx22) rfl (by kernel_rfl) (by kernel_rfl) (by kernel_rfl) (fun _ _ _ h => h) (Or.inl ⟨by rfl, ?hx22⟩) (by assumption) ?rx22
                case hx22 => intro w hSw; (try dsimp only at hSw); go_simp; try with_reducible rfl
                simp only [Act.put, List.getElem_toArray, List.getElem_cons_succ, List.getElem_cons_zero, List.setIfInBounds_toArray, List.set_cons_succ, List.set_cons_zero]
                refine wpAnyH_take (i := 8) (v := ?vx25) rfl (by kernel_rfl) (by kernel_rfl) (by kernel_rfl) (fun _ _ _ h => h) (Or.inl ⟨by rfl, ?hx25⟩) (by assumption) ?rx25
                case hx25 => intro w hSw; (try dsimp only at hSw); go_simp; try with_reducible rfl
                simp only [Act.put, List.getElem_toArray, List.getElem_cons_succ, List.getElem_cons_zero, List.setIfInBounds_toArray, List.set_cons_succ, List.set_cons_zero]
                refine wpAnyH_take (i := 9) (v := ?vx28) rfl (by kernel_rfl) (by kernel_rfl) (by kernel_rfl) (fun _ _ _ h => h) (Or.inl ⟨by rfl, ?hx28⟩) (by assumption) ?rx28
                case hx28 => intro w hSw; (try dsimp only at hSw); go_simp; try with_reducible rfl
                simp only [Act.put, List.getElem_toArray, List.getElem_cons_succ, List.getElem_cons_zero, List.setIfInBounds_toArray, List.set_cons_succ, List.set_cons_zero]
                refine wpAnyH_take (i := 10) (v := ?vx31) rfl (by kernel_rfl) (by kernel_rfl) (by kernel_rfl) (fun _ _ _ h => h) (Or.inl ⟨by rfl, ?hx31⟩) (by assumption) ?rx31
                case hx31 => intro w hSw; (try dsimp only at hSw); go_simp; try with_reducible rfl
                simp only [Act.put, List.getElem_toArray, List.getElem_cons_succ, List.getElem_cons_zero, List.setIfInBounds_toArray, List.set_cons_succ, List.set_cons_zero]
                refine wpAnyH_take (i := 11) (v := ?vx34) rfl (by kernel_rfl) (by kernel_rfl) (by kernel_rfl) (fun _ _ _ h => h) (Or.inl ⟨by rfl, ?hx34⟩) (by assumption) ?rx34
                case hx34 => intro w hSw; (try dsimp only at hSw); go_simp; try with_reducible rfl
                simp only [Act.put, List.getElem_toArray, List.getElem_cons_succ, List.getElem_cons_zero, List.setIfInBounds_toArray, List.set_cons_succ, List.set_cons_zero]
                refine wpAnyH_take (i := 12) (v := ?vx37) rfl (by kernel_rfl) (by kernel_rfl) (by kernel_rfl) (fun _ _ _ h => h) (Or.inl ⟨by rfl, ?hx37⟩) (by assumption) ?rx37
                case hx37 => intro w hSw; (try dsimp only at hSw); go_simp; try with_reducible rfl
                simp only [Act.put, List.getElem_toArray, List.getElem_cons_succ, List.getElem_cons_zero, List.setIfInBounds_toArray, List.set_cons_succ, List.set_cons_zero]
                refine wpAnyH_take (i := 14) (v := ?vx40) rfl (by kernel_rfl) (by kernel_rfl) (by kernel_rfl) (fun _ _ _ h => h) (Or.inl ⟨by rfl, ?hx40⟩) (by assumption) ?rx40
                case hx40 => intro w hSw; (try dsimp only at hSw); go_simp; try with_reducible rfl
                simp only [Act.put, List.getElem_toArray, List.getElem_cons_succ, List.getElem_cons_zero, List.setIfInBounds_toArray, List.set_cons_succ, List.set_cons_zero]
                refine wpAnyH_take (i := 15) (v := ?vx43) rfl (by kernel_rfl) (by kernel_rfl) (by kernel_rfl) (fun _ _ _ h => h) (Or.inl ⟨by rfl, ?hx43⟩) (by assumption) ?rx43
                case hx43 => intro w hSw; (try dsimp only at hSw); go_simp; try with_reducible rfl
                simp only [Act.put, List.getElem_toArray, List.getElem_cons_succ, List.getElem_cons_zero, List.setIfInBounds_toArray, List.set_cons_succ, List.set_cons_zero]
                refine wpAnyH_take (i := 16) (v := ?vx46) rfl (by kernel_rfl) (by kernel_rfl) (by kernel_rfl) (fun _ _ _ h => h) (Or.inl ⟨by rfl, ?hx46⟩) (by assumption) ?rx46
                case hx46 => intro w hSw; (try dsimp only at hSw); go_simp; try with_reducible rfl
                simp only [Act.put, List.getElem_toArray, List.getElem_cons_succ, List.getElem_cons_zero, List.setIfInBounds_toArray, List.set_cons_succ, List.set_cons_zero]
                refine wpAnyH_take (i := 17) (v := ?vx49) rfl (by kernel_rfl) (by kernel_rfl) (by kernel_rfl) (fun _ _ _ h => h) (Or.inl ⟨by rfl, ?hx49⟩) (by assumption) ?rx49
                case hx49 => intro w hSw; (try dsimp only at hSw); go_simp; try with_reducible rfl
                simp only [Act.put, List.getElem_toArray, List.getElem_cons_succ, List.getElem_cons_zero, List.setIfInBounds_toArray, List.set_cons_succ, List.set_cons_zero]
                refine wpAnyH_take (i := 18) (v := ?vx52) rfl (by kernel_rfl) (by kernel_rfl) (by kernel_rfl) (fun _ _ _ h => h) (Or.inl ⟨by rfl, ?hx52⟩) (by assumption) ?rx52
                case hx52 => intro w hSw; (try dsimp only at hSw); go_simp; try with_reducible rfl
                simp only [Act.put, List.getElem_toArray, List.getElem_cons_succ, List.getElem_cons_zero, List.setIfInBounds_toArray, List.set_cons_succ, List.set_cons_zero]
                refine wpAnyH_take (i := 19) (v := ?vx55) rfl (by kernel_rfl) (by kernel_rfl) (by kernel_rfl) (fun _ _ _ h => h) (Or.inl ⟨by rfl, ?hx55⟩) (by assumption) ?rx55
                case hx55 => intro w hSw; (try dsimp only at hSw); go_simp; try with_reducible rfl
                simp only [Act.put, List.getElem_toArray, List.getElem_cons_succ, List.getElem_cons_zero, List.setIfInBounds_toArray, List.set_cons_succ, List.set_cons_zero]
                refine wpAnyH_take (i := 20) (v := ?vx58) rfl (by kernel_rfl) (by kernel_rfl) (by kernel_rfl) (fun _ _ _ h => h) (Or.inl ⟨by rfl, ?hx58⟩) (by assumption) ?rx58
                case hx58 => intro w hSw; (try dsimp only at hSw); go_simp; try with_reducible rfl
                simp only [Act.put, List.getElem_toArray, List.getElem_cons_succ, List.getElem_cons_zero, List.setIfInBounds_toArray, List.set_cons_succ, List.set_cons_zero]
                refine wpAnyH_take (i := 21) (v := ?vx61) rfl (by kernel_rfl) (by kernel_rfl) (by kernel_rfl) (fun _ _ _ h => h) (Or.inl ⟨by rfl, ?hx61⟩) (by assumption) ?rx61
                case hx61 => intro w hSw; (try dsimp only at hSw); go_simp; try with_reducible rfl
                simp only [Act.put, List.getElem_toArray, List.getElem_cons_succ, List.getElem_cons_zero, List.setIfInBounds_toArray, List.set_cons_succ, List.set_cons_zero]
                refine wpAnyH_take (i := 22) (v := ?vx64) rfl (by kernel_rfl) (by kernel_rfl) (by kernel_rfl) (fun _ _ _ h => h) (Or.inl ⟨by rfl, ?hx64⟩) (by assumption) ?rx64
                case hx64 => intro w hSw; (try dsimp only at hSw); go_simp; try with_reducible rfl
                simp only [Act.put, List.getElem_toArray, List.getElem_cons_succ, List.getElem_cons_zero, List.setIfInBounds_toArray, List.set_cons_succ, List.set_cons_zero]
                refine wpAnyH_take (i := 23) (v := ?vx67) rfl (by kernel_rfl) (by kernel_rfl) (by kernel_rfl) (fun _ _ _ h => h) (Or.inl ⟨by rfl, ?hx67⟩) (by assumption) ?rx67
                case hx67 => intro w hSw; (try dsimp only at hSw); go_simp; try with_reducible rfl
                simp only [Act.put, List.getElem_toArray, List.getElem_cons_succ, List.getElem_cons_zero, List.setIfInBounds_toArray, List.set_cons_succ, List.set_cons_zero]
                refine wpAnyH_take (i := 24) (v := ?vx70) rfl (by kernel_rfl) (by kernel_rfl) (by kernel_rfl) (fun _ _ _ h => h) (Or.inl ⟨by rfl, ?hx70⟩) (by assumption) ?rx70
                case hx70 => intro w hSw; (try dsimp only at hSw); go_simp; try with_reducible rfl
                simp only [Act.put, List.getElem_toArray, List.getElem_cons_succ, List.getElem_cons_zero, List.setIfInBounds_toArray, List.set_cons_succ, List.set_cons_zero]
                refine wpAnyH_take (i := 25) (v := ?vx73) rfl (by kernel_rfl) (by kernel_rfl) (by kernel_rfl) (fun _ _ _ h => h) (Or.inl ⟨by rfl, ?hx73⟩) (by assumption) ?rx73
                case hx73 => intro w hSw; (try dsimp only at hSw); go_simp; try with_reducible rfl
                simp only [Act.put, List.getElem_toArray, List.getElem_cons_succ, List.getElem_cons_zero, List.setIfInBounds_toArray, List.set_cons_succ, List.set_cons_zero]
                refine wpAnyH_take (i := 26) (v := ?vx76) rfl (by kernel_rfl) (by kernel_rfl) (by kernel_rfl) (fun _ _ _ h => h) (Or.inl ⟨by rfl, ?hx76⟩) (by assumption) ?rx76
                case hx76 => intro w hSw; (try dsimp only at hSw); go_simp; try with_reducible rfl
                simp only [Act.put, List.getElem_toArray, List.getElem_cons_succ, List.getElem_cons_zero, List.setIfInBounds_toArray, List.set_cons_succ, List.set_cons_zero]
                refine wpAnyH_ready (rs := [13, 27]) (by kernel_rfl) (by simp) ?_
                refine AllReadyH.cons rfl (fun K hK => ?_) (AllReadyH.cons rfl (fun K hK => ?_) AllReadyH.nil)
                · go_simp
                  refine hK.out _ _ (by first | ((first | exact KEEP.out _ BEL0.out | exact KEEP.out _ (BELD1.out _) | exact KEEP.out _ (BELD2.out _ _) | exact KEEP.out _ (Below.like (BEL1.out _) rfl rfl rfl rfl) | exact KEEP.out _ (Below.like (BEL2.out _ _) rfl rfl rfl rfl) | exact KEEP.out _ hd5)) | ((try dsimp only); (first | exact KEEP.out _ BEL0.out | exact KEEP.out _ (BELD1.out _) | exact KEEP.out _ (BELD2.out _ _) | exact KEEP.out _ (Below.like (BEL1.out _) rfl rfl rfl rfl) | exact KEEP.out _ (Below.like (BEL2.out _ _) rfl rfl rfl rfl) | exact KEEP.out _ hd5))) (fun hHeld => ?_)
                  clear hK K
                  try simp only [Act.put, List.getElem_toArray, List.getElem_cons_succ, List.getElem_cons_zero, List.setIfInBounds_toArray, List.set_cons_succ, List.set_cons_zero]
                  refine wpAnyH_ready (rs := [27]) (by kernel_rfl) (by simp) ?_
                  refine AllReadyH.cons rfl (fun K hK => ?_) AllReadyH.nil
                  go_simp
                  refine hK.out _ _ (by first | ((first | exact KEEP.out _ BEL0.out | exact KEEP.out _ (BELD1.out _) | exact KEEP.out _ (BELD2.out _ _) | exact KEEP.out _ (Below.like (BEL1.out _) rfl rfl rfl rfl) | exact KEEP.out _ (Below.like (BEL2.out _ _) rfl rfl rfl rfl) | exact KEEP.out _ hd5)) | ((try dsimp only); (first | exact KEEP.out _ BEL0.out | exact KEEP.out _ (BELD1.out _) | exact KEEP.out _ (BELD2.out _ _) | exact KEEP.out _ (Below.like (BEL1.out _) rfl rfl rfl rfl) | exact KEEP.out _ (Below.like (BEL2.out _ _) rfl rfl rfl rfl) | exact KEEP.out _ hd5))) (fun hHeld => ?_)
                  clear hK K
                  try simp only [Act.put, List.getElem_toArray, List.getElem_cons_succ, List.getElem_cons_zero, List.setIfInBounds_toArray, List.set_cons_succ, List.set_cons_zero]
                  refine wpAnyH_ready (rs := [28]) (by kernel_rfl) (by simp) ?_
                  refine AllReadyH.cons rfl (fun K hK => ?_) AllReadyH.nil
                  go_simp
                  go_at_call 15
                  refine (rsames_is (some ⟨_, 0, none⟩) (some ⟨_, 0, none⟩) 1 1 1 1 [⟨la, ln, lc, LL, ra, rn, rc, RR, 0⟩] [⟨la', ln', lc', LL', ra', rn', rc', RR', 0⟩] false _ (by first | exact (Rs.single ((HGX.out.alloc _).alloc _) ((RwAt.new wr ⟨la, ln, lc, LL, ra, rn, rc, RR, 0⟩ _).alloc _)).drew | exact (Rs.single ((HGX.out.alloc _).alloc _) (RwAt.second wr ⟨la, ln, lc, LL, ra, rn, rc, RR, 0⟩ _ _)).drew) (by first | exact (Rs.single ((HGY.out.alloc _).alloc _) (RwAt.second wr ⟨la', ln', lc', LL', ra', rn', rc', RR', 0⟩ _ _)).drew | exact (Rs.single ((HGY.out.alloc _).alloc _) ((RwAt.new wr ⟨la', ln', lc', LL', ra', rn', rc', RR', 0⟩ _).alloc _)).drew) (by rw [← HSM.out, decide_eq_decide]; simp [ruls, Rw.r])).mono ?_
                  rintro e w5 ⟨rfl, hq⟩
                  have hd5 : Below wr.heap.size wr w5 := below_drawn (below_drawn (BEL2.out _ _) ⟨1, rfl⟩) hq
                  clear hq
                  go_wp2_with fail
                  refine hK.out _ _ (by first | ((first | exact KEEP.out _ BEL0.out | exact KEEP.out _ (BELD1.out _) | exact KEEP.out _ (BELD2.out _ _) | exact KEEP.out _ (Below.like (BEL1.out _) rfl rfl rfl rfl) | exact KEEP.out _ (Below.like (BEL2.out _ _) rfl rfl rfl rfl) | exact KEEP.out _ hd5)) | ((try dsimp only); (first | exact KEEP.out _ BEL0.out | exact KEEP.out _ (BELD1.out _) | exact KEEP.out _ (BELD2.out _ _) | exact KEEP.out _ (Below.like (BEL1.out _) rfl rfl rfl rfl) | exact KEEP.out _ (Below.like (BEL2.out _ _) rfl rfl rfl rfl) | exact KEEP.out _ hd5))) (fun hHeld => ?_)
                  clear hK K
                  try simp only [Act.put, List.getElem_toArray, List.getElem_cons_succ, List.getElem_cons_zero, List.setIfInBounds_toArray, List.set_cons_succ, List.set_cons_zero]
                  refine wpAnyH_take (i := 29) (v := ?vx103) rfl (by kernel_rfl) (by kernel_rfl) (by kernel_rfl) (fun _ _ _ h => h) (Or.inl ⟨by rfl, ?hx103⟩) (by assumption) ?rx103
                  case hx103 => intro w hSw; (try dsimp only at hSw); go_simp; try with_reducible rfl
                  simp only [Act.put, List.getElem_toArray, List.getElem_cons_succ, List.getElem_cons_zero, List.setIfInBounds_toArray, List.set_cons_succ, List.set_cons_zero]
                  refine wpAnyH_take (i := 30) (v := undef) rfl (by kernel_rfl) (by kernel_rfl) (by kernel_rfl) (fun _ _ _ h => h) (Or.inr ⟨by rfl, rfl⟩) (by assumption) ?_
                  simp only [Act.put, List.getElem_toArray, List.getElem_cons_succ, List.getElem_cons_zero, List.setIfInBounds_toArray, List.set_cons_succ, List.set_cons_zero]
                  refine wpAnyH_take (i := 31) (v := undef) rfl (by kernel_rfl) (by kernel_rfl) (by kernel_rfl) (fun _ _ _ h => h) (Or.inr ⟨by rfl, rfl⟩) (by assumption) ?_
                  simp only [Act.put, List.getElem_toArray, List.getElem_cons_succ, List.getElem_cons_zero, List.setIfInBounds_toArray, List.set_cons_succ, List.set_cons_zero]
                  refine wpAnyH_take (i := 32) (v := undef) rfl (by kernel_rfl) (by kernel_rfl) (by kernel_rfl) (fun _ _ _ h => h) (Or.inr ⟨by rfl, rfl⟩) (by assumption) ?_
                  simp only [Act.put, List.getElem_toArray, List.getElem_cons_succ, List.getElem_cons_zero, List.setIfInBounds_toArray, List.set_cons_succ, List.set_cons_zero]
                  refine wpAnyH_take (i := 33) (v := undef) rfl (by kernel_rfl) (by kernel_rfl) (by kernel_rfl) (fun _ _ _ h => h) (Or.inr ⟨by rfl, rfl⟩) (by assumption) ?_
                  simp only [Act.put, List.getElem_toArray, List.getElem_cons_succ, List.getElem_cons_zero, List.setIfInBounds_toArray, List.set_cons_succ, List.set_cons_zero]
                  refine wpAnyH_take (i := 34) (v := undef) rfl (by kernel_rfl) (by kernel_rfl) (by kernel_rfl) (fun _ _ _ h => h) (Or.inr ⟨by rfl, rfl⟩) (by assumption) ?_
                  simp only [Act.put, List.getElem_toArray, List.getElem_cons_succ, List.getElem_cons_zero, List.setIfInBounds_toArray, List.set_cons_succ, List.set_cons_zero]
                  refine wpAnyH_take (i := 35) (v := undef) rfl (by kernel_rfl) (by kernel_rfl) (by kernel_rfl) (fun _ _ _ h => h) (Or.inr ⟨by rfl, rfl⟩) (by assumption) ?_
                  simp only [Act.put, List.getElem_toArray, List.getElem_cons_succ, List.getElem_cons_zero, List.setIfInBounds_toArray, List.set_cons_succ, List.set_cons_zero]
                  refine wpAnyH_take (i := 36) (v := undef) rfl (by kernel_rfl) (by kernel_rfl) (by kernel_rfl) (fun _ _ _ h => h) (Or.inr ⟨by rfl, rfl⟩) (by assumption) ?_
                  simp only [Act.put, List.getElem_toArray, List.getElem_cons_succ, List.getElem_cons_zero, List.setIfInBounds_toArray, List.set_cons_succ, List.set_cons_zero]
                  refine wpAnyH_take (i := 37) (v := undef) rfl (by kernel_rfl) (by kernel_rfl) (by kernel_rfl) (fun _ _ _ h => h) (Or.inr ⟨by rfl, rfl⟩) (by assumption) ?_
                  simp only [Act.put, List.getElem_toArray, List.getElem_cons_succ, List.getElem_cons_zero, List.setIfInBounds_toArray, List.set_cons_succ, List.set_cons_zero]
                  refine wpAnyH_take (i := 38) (v := undef) rfl (by kernel_rfl) (by kernel_rfl) (by kernel_rfl) (fun _ _ _ h => h) (Or.inr ⟨by rfl, rfl⟩) (by assumption) ?_
                  simp only [Act.put, List.getElem_toArray, List.getElem_cons_succ, List.getElem_cons_zero, List.setIfInBounds_toArray, List.set_cons_succ, List.set_cons_zero]
                  refine wpAnyH_take (i := 39) (v := undef) rfl (by kernel_rfl) (by kernel_rfl) (by kernel_rfl) (fun _ _ _ h => h) (Or.inr ⟨by rfl, rfl⟩) (by assumption) ?_
                  simp only [Act.put, List.getElem_toArray, List.getElem_cons_succ, List.getElem_cons_zero, List.setIfInBounds_toArray, List.set_cons_succ, List.set_cons_zero]
                  refine wpAnyH_take (i := 40) (v := undef) rfl (by kernel_rfl) (by kernel_rfl) (by kernel_rfl) (fun _ _ _ h => h) (Or.inr ⟨by rfl, rfl⟩) (by assumption) ?_
                  simp only [Act.put, List.getElem_toArray, List.getElem_cons_succ, List.getElem_cons_zero, List.setIfInBounds_toArray, List.set_cons_succ, List.set_cons_zero]
                  refine wpAnyH_take (i := 41) (v := undef) rfl (by kernel_rfl) (by kernel_rfl) (by kernel_rfl) (fun _ _ _ h => h) (Or.inr ⟨by rfl, rfl⟩) (by assumption) ?_
                  simp only [Act.put, List.getElem_toArray, List.getElem_cons_succ, List.getElem_cons_zero, List.setIfInBounds_toArray, List.set_cons_succ, List.set_cons_zero]
                  refine wpAnyH_take (i := 42) (v := ?vx130) rfl (by kernel_rfl) (by kernel_rfl) (by kernel_rfl) (fun _ _ _ h => h) (Or.inl ⟨by rfl, ?hx130⟩) (by assumption) ?rx130
                  case hx130 => intro w hSw; (try dsimp only at hSw); go_simp; try with_reducible rfl
                  simp only [Act.put, List.getElem_toArray, List.getElem_cons_succ, List.getElem_cons_zero, List.setIfInBounds_toArray, List.set_cons_succ, List.set_cons_zero]
                  refine wpAnyH_take (i := 43) (v := ?vx133) rfl (by kernel_rfl) (by kernel_rfl) (by kernel_rfl) (fun _ _ _ h => h) (Or.inl ⟨by rfl, ?hx133⟩) (by assumption) ?rx133
                  case hx133 => intro w hSw; (try dsimp only at hSw); go_simp; try with_reducible rfl
                  simp only [Act.put, List.getElem_toArray, List.getElem_cons_succ, List.getElem_cons_zero, List.setIfInBounds_toArray, List.set_cons_succ, List.set_cons_zero]
                  refine wpAnyH_take (i := 44) (v := ?vx136) rfl (by kernel_rfl) (by kernel_rfl) (by kernel_rfl) (fun _ _ _ h => h) (Or.inl ⟨by rfl, ?hx136⟩) (by assumption) ?rx136
                  case hx136 => intro w hSw; (try dsimp only at hSw); go_simp; try with_reducible rfl
                  simp only [Act.put, List.getElem_toArray, List.getElem_cons_succ, List.getElem_cons_zero, List.setIfInBounds_toArray, List.set_cons_succ, List.set_cons_zero]
                  refine wpAnyH_done (by kernel_rfl) ?_ _
                  have HD5 : Hid (Below W1.heap.size W1 w5) := HB.out.trans (hd5.mono HB.out.size)
                  clear hd5
                  go_wp2
                  go_roundw
                  case rel => exact ⟨k + 1, false, by omega, by go_num, rfl, HQ.out, HD5.out⟩
                  case measure => simp [intOf]; omega
                · go_simp
                  refine hK.out _ _ (by first | ((first | exact KEEP.out _ BEL0.out | exact KEEP.out _ (BELD1.out _) | exact KEEP.out _ (BELD2.out _ _) | exact KEEP.out _ (Below.like (BEL1.out _) rfl rfl rfl rfl) | exact KEEP.out _ (Below.like (BEL2.out _ _) rfl rfl rfl rfl) | exact KEEP.out _ hd5)) | ((try dsimp only); (first | exact KEEP.out _ BEL0.out | exact KEEP.out _ (BELD1.out _) | exact KEEP.out _ (BELD2.out _ _) | exact KEEP.out _ (Below.like (BEL1.out _) rfl rfl rfl rfl) | exact KEEP.out _ (Below.like (BEL2.out _ _) rfl rfl rfl rfl) | exact KEEP.out _ hd5))) (fun hHeld => ?_)
                  clear hK K
                  try simp only [Act.put, List.getElem_toArray, List.getElem_cons_succ, List.getElem_cons_zero, List.setIfInBounds_toArray, List.set_cons_succ, List.set_cons_zero]
                  refine wpAnyH_ready (rs := [13]) (by kernel_rfl) (by simp) ?_
                  refine AllReadyH.cons rfl (fun K hK => ?_) AllReadyH.nil
                  go_simp
                  refine hK.out _ _ (by first | ((first | exact KEEP.out _ BEL0.out | exact KEEP.out _ (BELD1.out _) | exact KEEP.out _ (BELD2.out _ _) | exact KEEP.out _ (Below.like (BEL1.out _) rfl rfl rfl rfl) | exact KEEP.out _ (Below.like (BEL2.out _ _) rfl rfl rfl rfl) | exact KEEP.out _ hd5)) | ((try dsimp only); (first | exact KEEP.out _ BEL0.out | exact KEEP.out _ (BELD1.out _) | exact KEEP.out _ (BELD2.out _ _) | exact KEEP.out _ (Below.like (BEL1.out _) rfl rfl rfl rfl) | exact KEEP.out _ (Below.like (BEL2.out _ _) rfl rfl rfl rfl) | exact KEEP.out _ hd5))) (fun hHeld => ?_)
                  clear hK K
                  try simp only [Act.put, List.getElem_toArray, List.getElem_cons_succ, List.getElem_cons_zero, List.setIfInBounds_toArray, List.set_cons_succ, List.set_cons_zero]
                  refine wpAnyH_ready (rs := [28]) (by kernel_rfl) (by simp) ?_
                  refine AllReadyH.cons rfl (fun K hK => ?_) AllReadyH.nil
                  go_simp
                  go_at_call 15
                  refine (rsames_is (some ⟨_, 0, none⟩) (some ⟨_, 0, none⟩) 1 1 1 1 [⟨la, ln, lc, LL, ra, rn, rc, RR, 0⟩] [⟨la', ln', lc', LL', ra', rn', rc', RR', 0⟩] false _ (by first | exact (Rs.single ((HGX.out.alloc _).alloc _) ((RwAt.new wr ⟨la, ln, lc, LL, ra, rn, rc, RR, 0⟩ _).alloc _)).drew | exact (Rs.single ((HGX.out.alloc _).alloc _) (RwAt.second wr ⟨la, ln, lc, LL, ra, rn, rc, RR, 0⟩ _ _)).drew) (by first | exact (Rs.single ((HGY.out.alloc _).alloc _) (RwAt.second wr ⟨la', ln', lc', LL', ra', rn', rc', RR', 0⟩ _ _)).drew | exact (Rs.single ((HGY.out.alloc _).alloc _) ((RwAt.new wr ⟨la', ln', lc', LL', ra', rn', rc', RR', 0⟩ _).alloc _)).drew) (by rw [← HSM.out, decide_eq_decide]; simp [ruls, Rw.r])).mono ?_
                  rintro e w5 ⟨rfl, hq⟩
                  have hd5 : Below wr.heap.size wr w5 := below_drawn (below_drawn (BEL2.out _ _) ⟨1, rfl⟩) hq
                  clear hq
                  go_wp2_with fail
                  refine hK.out _ _ (by first | ((first | exact KEEP.out _ BEL0.out | exact KEEP.out _ (BELD1.out _) | exact KEEP.out _ (BELD2.out _ _) | exact KEEP.out _ (Below.like (BEL1.out _) rfl rfl rfl rfl) | exact KEEP.out _ (Below.like (BEL2.out _ _) rfl rfl rfl rfl) | exact KEEP.out _ hd5)) | ((try dsimp only); (first | exact KEEP.out _ BEL0.out | exact KEEP.out _ (BELD1.out _) | exact KEEP.out _ (BELD2.out _ _) | exact KEEP.out _ (Below.like (BEL1.out _) rfl rfl rfl rfl) | exact KEEP.out _ (Below.like (BEL2.out _ _) rfl rfl rfl rfl) | exact KEEP.out _ hd5))) (fun hHeld => ?_)
                  clear hK K
                  try simp only [Act.put, List.getElem_toArray, List.getElem_cons_succ, List.getElem_cons_zero, List.setIfInBounds_toArray, List.set_cons_succ, List.set_cons_zero]
                  refine wpAnyH_take (i := 29) (v := ?vx168) rfl (by kernel_rfl) (by kernel_rfl) (by kernel_rfl) (fun _ _ _ h => h) (Or.inl ⟨by rfl, ?hx168⟩) (by assumption) ?rx168
                  case hx168 => intro w hSw; (try dsimp only at hSw); go_simp; try with_reducible rfl
                  simp only [Act.put, List.getElem_toArray, List.getElem_cons_succ, List.getElem_cons_zero, List.setIfInBounds_toArray, List.set_cons_succ, List.set_cons_zero]
                  refine wpAnyH_take (i := 30) (v := undef) rfl (by kernel_rfl) (by kernel_rfl) (by kernel_rfl) (fun _ _ _ h => h) (Or.inr ⟨by rfl, rfl⟩) (by assumption) ?_
                  simp only [Act.put, List.getElem_toArray, List.getElem_cons_succ, List.getElem_cons_zero, List.setIfInBounds_toArray, List.set_cons_succ, List.set_cons_zero]
                  refine wpAnyH_take (i := 31) (v := undef) rfl (by kernel_rfl) (by kernel_rfl) (by kernel_rfl) (fun _ _ _ h => h) (Or.inr ⟨by rfl, rfl⟩) (by assumption) ?_
                  simp only [Act.put, List.getElem_toArray, List.getElem_cons_succ, List.getElem_cons_zero, List.setIfInBounds_toArray, List.set_cons_succ, List.set_cons_zero]
                  refine wpAnyH_take (i := 32) (v := undef) rfl (by kernel_rfl) (by kernel_rfl) (by kernel_rfl) (fun _ _ _ h => h) (Or.inr ⟨by rfl, rfl⟩) (by assumption) ?_
                  simp only [Act.put, List.getElem_toArray, List.getElem_cons_succ, List.getElem_cons_zero, List.setIfInBounds_toArray, List.set_cons_succ, List.set_cons_zero]
                  refine wpAnyH_take (i := 33) (v := undef) rfl (by kernel_rfl) (by kernel_rfl) (by kernel_rfl) (fun _ _ _ h => h) (Or.inr ⟨by rfl, rfl⟩) (by assumption) ?_
                  simp only [Act.put, List.getElem_toArray, List.getElem_cons_succ, List.getElem_cons_zero, List.setIfInBounds_toArray, List.set_cons_succ, List.set_cons_zero]
                  refine wpAnyH_take (i := 34) (v := undef) rfl (by kernel_rfl) (by kernel_rfl) (by kernel_rfl) (fun _ _ _ h => h) (Or.inr ⟨by rfl, rfl⟩) (by assumption) ?_
                  simp only [Act.put, List.getElem_toArray, List.getElem_cons_succ, List.getElem_cons_zero, List.setIfInBounds_toArray, List.set_cons_succ, List.set_cons_zero]
                  refine wpAnyH_take (i := 35) (v := undef) rfl (by kernel_rfl) (by kernel_rfl) (by kernel_rfl) (fun _ _ _ h => h) (Or.inr ⟨by rfl, rfl⟩) (by assumption) ?_
                  simp only [Act.put, List.getElem_toArray, List.getElem_cons_succ, List.getElem_cons_zero, List.setIfInBounds_toArray, List.set_cons_succ, List.set_cons_zero]
                  refine wpAnyH_take (i := 36) (v := undef) rfl (by kernel_rfl) (by kernel_rfl) (by kernel_rfl) (fun _ _ _ h => h) (Or.inr ⟨by rfl, rfl⟩) (by assumption) ?_
                  simp only [Act.put, List.getElem_toArray, List.getElem_cons_succ, List.getElem_cons_zero, List.setIfInBounds_toArray, List.set_cons_succ, List.set_cons_zero]
                  refine wpAnyH_take (i := 37) (v := undef) rfl (by kernel_rfl) (by kernel_rfl) (by kernel_rfl) (fun _ _ _ h => h) (Or.inr ⟨by rfl, rfl⟩) (by assumption) ?_
                  simp only [Act.put, List.getElem_toArray, List.getElem_cons_succ, List.getElem_cons_zero, List.setIfInBounds_toArray, List.set_cons_succ, List.set_cons_zero]
                  refine wpAnyH_take (i := 38) (v := undef) rfl (by kernel_rfl) (by kernel_rfl) (by kernel_rfl) (fun _ _ _ h => h) (Or.inr ⟨by rfl, rfl⟩) (by assumption) ?_
                  simp only [Act.put, List.getElem_toArray, List.getElem_cons_succ, List.getElem_cons_zero, List.setIfInBounds_toArray, List.set_cons_succ, List.set_cons_zero]
                  refine wpAnyH_take (i := 39) (v := undef) rfl (by kernel_rfl) (by kernel_rfl) (by kernel_rfl) (fun _ _ _ h => h) (Or.inr ⟨by rfl, rfl⟩) (by assumption) ?_
                  simp only [Act.put, List.getElem_toArray, List.getElem_cons_succ, List.getElem_cons_zero, List.setIfInBounds_toArray, List.set_cons_succ, List.set_cons_zero]
                  refine wpAnyH_take (i := 40) (v := undef) rfl (by kernel_rfl) (by kernel_rfl) (by kernel_rfl) (fun _ _ _ h => h) (Or.inr ⟨by rfl, rfl⟩) (by assumption) ?_
                  simp only [Act.put, List.getElem_toArray, List.getElem_cons_succ, List.getElem_cons_zero, List.setIfInBounds_toArray, List.set_cons_succ, List.set_cons_zero]
                  refine wpAnyH_take (i := 41) (v := undef) rfl (by kernel_rfl) (by kernel_rfl) (by kernel_rfl) (fun _ _ _ h => h) (Or.inr ⟨by rfl, rfl⟩) (by assumption) ?_
                  simp only [Act.put, List.getElem_toArray, List.getElem_cons_succ, List.getElem_cons_zero, List.setIfInBounds_toArray, List.set_cons_succ, List.set_cons_zero]
                  refine wpAnyH_take (i := 42) (v := ?vx195) rfl (by kernel_rfl) (by kernel_rfl) (by kernel_rfl) (fun _ _ _ h => h) (Or.inl ⟨by rfl, ?hx195⟩) (by assumption) ?rx195
                  case hx195 => intro w hSw; (try dsimp only at hSw); go_simp; try with_reducible rfl
                  simp only [Act.put, List.getElem_toArray, List.getElem_cons_succ, List.getElem_cons_zero, List.setIfInBounds_toArray, List.set_cons_succ, List.set_cons_zero]
                  refine wpAnyH_take (i := 43) (v := ?vx198) rfl (by kernel_rfl) (by kernel_rfl) (by kernel_rfl) (fun _ _ _ h => h) (Or.inl ⟨by rfl, ?hx198⟩) (by assumption) ?rx198
                  case hx198 => intro w hSw; (try dsimp only at hSw); go_simp; try with_reducible rfl
                  simp only [Act.put, List.getElem_toArray, List.getElem_cons_succ, List.getElem_cons_zero, List.setIfInBounds_toArray, List.set_cons_succ, List.set_cons_zero]
                  refine wpAnyH_take (i := 44) (v := ?vx201) rfl (by kernel_rfl) (by kernel_rfl) (by kernel_rfl) (fun _ _ _ h => h) (Or.inl ⟨by rfl, ?hx201⟩) (by assumption) ?rx201
                  case hx201 => intro w hSw; (try dsimp only at hSw); go_simp; try with_reducible rfl
                  simp only [Act.put, List.getElem_toArray, List.getElem_cons_succ, List.getElem_cons_zero, List.setIfInBounds_toArray, List.set_cons_succ, List.set_cons_zero]
                  refine wpAnyH_done (by kernel_rfl) ?_ _
                  have HD5 : Hid (Below W1.heap.size W1 w5) := HB.out.trans (hd5.mono HB.out.size)
                  clear hd5
                  go_wp2
                  go_roundw
                  case rel => exact ⟨k + 1, false, by omega, by go_num, rfl, HQ.out, HD5.out⟩
                  case measure => simp [intOf]; omega

            · have HQ : Hid (true = ((ruls xs2).take (k + 1)).any fun s => decide (s.like ⟨LL, RR, C⟩) && decide (s.C ≤ C)) := by
                have h := HNX.out _ rfl
                rwa [Bool.true_or] at h
              clear hsl' hsr' hz2 HNX hy1 hy2 hy3
              go_wp2
              go_quiet (fail)
              go_wp2
              go_roundw
              case rel => exact ⟨k + 1, true, by omega, by go_num, rfl, HQ.out, (by exact below_drawn HB.out ⟨_, rfl⟩)⟩
              case measure => simp [intOf]; omega
          · obtain rfl : k = n2 := by omega
            have hh : h = true := by
              rw [HH.out, List.take_of_length_le (by rw [ruls_length, HY2.out.1]; exact Nat.le_refl _), List.any_eq_true]
              have hjl : i < (ruls xsA).length := by rw [ruls_length, HA.out.1]; exact hlt
              have h1 := ruls_at xsA i
              rw [HZ1.out, List.getD_eq_getElem?_getD, List.getElem?_eq_getElem hjl, Option.getD_some] at h1
              obtain ⟨s, hs, hsl, hsC⟩ := HALL.out ⟨LL, RR, C⟩ (by rw [← show _ = (⟨LL, RR, C⟩ : Rul) from h1]; exact List.getElem_mem _)
              exact ⟨s, hs, by simp [hsl]; exact hsC⟩
            subst hh
            have HB5 : Hid (Below wQ2.heap.size wQ2 wr) := HBO.out.trans (HB.out.mono HBO.out.size)
            clear HB HH
            go_wp2
            go_roundw
            case rel => exact ⟨i + 1, by omega, by go_num, HB5.out⟩
            case measure => simp [intOf]; omega
      · obtain rfl : i = nA := by omega
        have hdd : Below wQ2.heap.size wQ2 wr.drew := below_drawn HB.out ⟨1, rfl⟩
        go_wp2
        refine wp_region_held_drew (S := (fun W => W.cell? ⟨v3.heap.size, 4, none⟩ = some (.slice p2 n2 c2))) (by kernel_rfl) (by first | (first | exact (HKQ.out _ hd10).2 | exact (HKQ.out _ hd9).2 | exact (HKQ.out _ hdd).2) | ((try dsimp only); first | exact (HKQ.out _ hd10).2 | exact (HKQ.out _ hd9).2 | exact (HKQ.out _ hdd).2)) (fun hHeld => ?_)
        refine wpAnyH_take (i := 0) (v := ?vy1) rfl (by kernel_rfl) (by kernel_rfl) (by kernel_rfl) (fun _ _ _ h => h) (Or.inl ⟨by rfl, ?hy1⟩) (by assumption) ?ry1
        case hy1 => intro w hSw; (try dsimp only at hSw); go_simp; try with_reducible rfl
        simp only [Act.put, List.getElem_toArray, List.getElem_cons_succ, List.getElem_cons_zero, List.setIfInBounds_toArray, List.set_cons_succ, List.set_cons_zero]
        refine wpAnyH_take (i := 1) (v := ?vy4) rfl (by kernel_rfl) (by kernel_rfl) (by kernel_rfl) (fun _ _ _ h => h) (Or.inl ⟨by rfl, ?hy4⟩) (by assumption) ?ry4
        case hy4 => intro w hSw; (try dsimp only at hSw); go_simp; try with_reducible rfl
        simp only [Act.put, List.getElem_toArray, List.getElem_cons_succ, List.getElem_cons_zero, List.setIfInBounds_toArray, List.set_cons_succ, List.set_cons_zero]
        refine wpAnyH_take (i := 2) (v := ?vy7) rfl (by kernel_rfl) (by kernel_rfl) (by kernel_rfl) (fun _ _ _ h => h) (Or.inl ⟨by rfl, ?hy7⟩) (by assumption) ?ry7
        case hy7 => intro w hSw; (try dsimp only at hSw); go_simp; try with_reducible rfl
        simp only [Act.put, List.getElem_toArray, List.getElem_cons_succ, List.getElem_cons_zero, List.setIfInBounds_toArray, List.set_cons_succ, List.set_cons_zero]
        refine wpAnyH_take (i := 3) (v := ?vy10) rfl (by kernel_rfl) (by kernel_rfl) (by kernel_rfl) (fun _ _ _ h => h) (Or.inl ⟨by rfl, ?hy10⟩) (by assumption) ?ry10
        case hy10 => intro w hSw; (try dsimp only at hSw); go_simp; try with_reducible rfl
        simp only [Act.put, List.getElem_toArray, List.getElem_cons_succ, List.getElem_cons_zero, List.setIfInBounds_toArray, List.set_cons_succ, List.set_cons_zero]
        refine wpAnyH_take (i := 4) (v := ?vy13) rfl (by kernel_rfl) (by kernel_rfl) (by kernel_rfl) (fun _ _ _ h => h) (Or.inl ⟨by rfl, ?hy13⟩) (by assumption) ?ry13
        case hy13 => intro w hSw; (try dsimp only at hSw); go_simp; try with_reducible rfl
        simp only [Act.put, List.getElem_toArray, List.getElem_cons_succ, List.getElem_cons_zero, List.setIfInBounds_toArray, List.set_cons_succ, List.set_cons_zero]
        refine wpAnyH_take (i := 5) (v := ?vy16) rfl (by kernel_rfl) (by kernel_rfl) (by kernel_rfl) (fun _ _ _ h => h) (Or.inl ⟨by rfl, ?hy16⟩) (by assumption) ?ry16
        case hy16 => intro w hSw; (try dsimp only at hSw); go_simp; try with_reducible rfl
        simp only [Act.put, List.getElem_toArray, List.getElem_cons_succ, List.getElem_cons_zero, List.setIfInBounds_toArray, List.set_cons_succ, List.set_cons_zero]
        refine wpAnyH_take (i := 7) (v := ?vy19) rfl (by kernel_rfl) (by kernel_rfl) (by kernel_rfl) (fun _ _ _ h => h) (Or.inl ⟨by rfl, ?hy19⟩) (by assumption) ?ry19
        case hy19 => intro w hSw; (try dsimp only at hSw); go_simp; try with_reducible rfl
        simp only [Act.put, List.getElem_toArray, List.getElem_cons_succ, List.getElem_cons_zero, List.setIfInBounds_toArray, List.set_cons_succ, List.set_cons_zero]
        refine wpAnyH_take (i := 8) (v := ?vy22) rfl (by kernel_rfl) (by kernel_rfl) (by kernel_rfl) (fun _ _ _ h => h) (Or.inl ⟨by rfl, ?hy22⟩) (by assumption) ?ry22
        case hy22 => intro w hSw; (try dsimp only at hSw); go_simp; try with_reducible rfl
        simp only [Act.put, List.getElem_toArray, List.getElem_cons_succ, List.getElem_cons_zero, List.setIfInBounds_toArray, List.set_cons_succ, List.set_cons_zero]
        refine wpAnyH_ready (rs := [6]) (by kernel_rfl) (by simp) ?_
        refine AllReadyH.cons rfl (fun K hK => ?_) AllReadyH.nil
        go_simp
        go_at_call 16
        refine (norm_any aQ i cQ xsA _ (HA.out.below hdd (Nat.le_refl _)) (by omega)).mono ?_
        rintro e v9 ⟨aa, na, ca, oa, rfl, hrs, hra, hna, _, hbN⟩
        have hd9 : Below wQ2.heap.size wQ2 v9 := hdd.trans (hbN.mono hdd.size)
        go_wp2_with fail
        refine hK.out _ _ (by first | (first | exact (HKQ.out _ hd10).2 | exact (HKQ.out _ hd9).2 | exact (HKQ.out _ hdd).2) | ((try dsimp only); first | exact (HKQ.out _ hd10).2 | exact (HKQ.out _ hd9).2 | exact (HKQ.out _ hdd).2)) (fun hHeld => ?_)
        clear hK K
        try simp only [Act.put, List.getElem_toArray, List.getElem_cons_succ, List.getElem_cons_zero, List.setIfInBounds_toArray, List.set_cons_succ, List.set_cons_zero]
        refine wpAnyH_ready (rs := [9]) (by kernel_rfl) (by simp) ?_
        refine AllReadyH.cons rfl (fun K hK => ?_) AllReadyH.nil
        go_simp
        go_at_call 15
        refine (rsames_is aa p2 na n2 ca c2 oa xs2 true v9 hrs (HY2.out.below hd9 (Nat.le_refl _)) (decide_eq_true (hra.trans HNRM.out))).mono ?_
        rintro e v10 ⟨rfl, q10, rfl⟩
        have hd10 : Below wQ2.heap.size wQ2 (v9.drewN q10) := below_drawn hd9 ⟨_, rfl⟩
        go_wp2_with fail
        refine hK.out _ _ (by first | (first | exact (HKQ.out _ hd10).2 | exact (HKQ.out _ hd9).2 | exact (HKQ.out _ hdd).2) | ((try dsimp only); first | exact (HKQ.out _ hd10).2 | exact (HKQ.out _ hd9).2 | exact (HKQ.out _ hdd).2)) (fun hHeld => ?_)
        clear hK K
        try simp only [Act.put, List.getElem_toArray, List.getElem_cons_succ, List.getElem_cons_zero, List.setIfInBounds_toArray, List.set_cons_succ, List.set_cons_zero]
        refine wpAnyH_take (i := 10) (v := ?vy47) rfl (by kernel_rfl) (by kernel_rfl) (by kernel_rfl) (fun _ _ _ h => h) (Or.inl ⟨by rfl, ?hy47⟩) (by assumption) ?ry47
        case hy47 => intro w hSw; (try dsimp only at hSw); go_simp; try with_reducible rfl
        simp only [Act.put, List.getElem_toArray, List.getElem_cons_succ, List.getElem_cons_zero, List.setIfInBounds_toArray, List.set_cons_succ, List.set_cons_zero]
        refine wpAnyH_take (i := 11) (v := ?vy50) rfl (by kernel_rfl) (by kernel_rfl) (by kernel_rfl) (fun _ _ _ h => h) (Or.inl ⟨by rfl, ?hy50⟩) (by assumption) ?ry50
        case hy50 => intro w hSw; (try dsimp only at hSw); go_simp; try with_reducible rfl
        simp only [Act.put, List.getElem_toArray, List.getElem_cons_succ, List.getElem_cons_zero, List.setIfInBounds_toArray, List.set_cons_succ, List.set_cons_zero]
        refine wpAnyH_take (i := 12) (v := ?vy53) rfl (by kernel_rfl) (by kernel_rfl) (by kernel_rfl) (fun _ _ _ h => h) (Or.inl ⟨by rfl, ?hy53⟩) (by assumption) ?ry53
        case hy53 => intro w hSw; (try dsimp only at hSw); go_simp; try with_reducible rfl
        simp only [Act.put, List.getElem_toArray, List.getElem_cons_succ, List.getElem_cons_zero, List.setIfInBounds_toArray, List.set_cons_succ, List.set_cons_zero]
        refine wpAnyH_done (by kernel_rfl) ?_ _
        have HBF : Hid (Below w.heap.size w (v9.drewN q10)) := HBQ.out.trans (hd10.mono HBQ.out.size)
        clear hd10 hd9 hdd hrs hra
        go_wp2
        go_ret
        exact ⟨rfl, HBF.out⟩


  · have hone : ((M : Int) == 1) = false := by
      have : ¬ (M : Int) = 1 := by omega
      simpa using this
    go_wp2
    obtain ⟨V, hV⟩ : ∃ V, V = v4.alloc (.cells #[Value.slice none 0 0, Value.slice none 0 0] 41 (0, 0)) := ⟨_, rfl⟩
    have hbV : Below v4.heap.size v4 V := by rw [hV]; exact (HVA _).out.1
    have HBV : Hid (Below w.heap.size w V) := HB5.out.trans (hbV.mono HB5.out.size)
    have HC14 : Hid (V.cell? ⟨v4.heap.size, 1, none⟩ = some (.slice none 0 0)) := by
      have h : V.heap[v4.heap.size]? = some (.cells #[Value.slice none 0 0, Value.slice none 0 0] 41 (0, 0)) := by rw [hV]; exact (HVA _).out.2.1
      show _ = _
      simp [World.cell?, h]
    have HR3 : Hid (Rs V none 0 0 ([] : List Rw)) := Rs.nil
    have HP6v' := (hbV.block _ HZ6.out.1).trans HP6.out
    have HP9v' := (hbV.block _ HZ6.out.2).trans HP9.out
    have HG1 := Lib.hid (HG1.out.below hbV (Nat.le_refl _))
    have HG2 := Lib.hid (HG2.out.below hbV (Nat.le_refl _))
    have HALA : Hid (∀ r ∈ ruls xs1, ∃ s ∈ ruls xs2, s.like r ∧ s.C ≤ r.C) := fun r hr => by
      have h := HMM.out.1 r (by rw [← HC1.out]; exact hr)
      rw [← HC2.out] at h; exact h
    have HALB : Hid (∀ r ∈ ruls ([] : List Rw), ∃ s ∈ ruls xs2, s.like r ∧ s.C ≤ r.C) := fun r hr => by simp [ruls] at hr
    rw [← hV]
    clear hV hbV HMM HP6 HP9 HVA HZ6
    have HP6v := Lib.hid HP6v'
    have HP9v := Lib.hid HP9v'
    obtain ⟨nA, hnA⟩ : ∃ q, n1 + 0 = q := ⟨_, rfl⟩
    obtain ⟨xsA, hxA⟩ : ∃ q, xs1 ++ ([] : List Rw) = q := ⟨_, rfl⟩
    have HXA := Lib.hid hxA
    have HALL : Hid (∀ r ∈ ruls xsA, ∃ s ∈ ruls xs2, s.like r ∧ s.C ≤ r.C) := fun r hr => by
      rw [← hxA, ruls_app] at hr
      rcases List.mem_append.1 hr with hr | hr
      · exact HALA.out r hr
      · exact HALB.out r hr
    clear hxA HP6v' HP9v'
    have hd0 : Below V.heap.size V V.drew := below_drawn (Below.refl _ V) ⟨1, rfl⟩
    have hd1 : Below V.heap.size V (V.drew.alloc (.cells #[] 48)) := hd0.alloc hd0.size _
    have HKEEP : Hid (∀ W, Below V.heap.size V W → W.cell? ⟨v2.heap.size, 4, none⟩ = some (.slice p1 n1 c1) ∧ W.cell? ⟨v4.heap.size, 1, none⟩ = some (.slice none 0 0)) := fun W hb => by
      have h6 := (hb.block _ (Array.getElem?_eq_some_iff.1 HP6v.out).1).trans HP6v.out
      exact ⟨by simp [World.cell?, h6], by rw [hb.cell (p := ⟨v4.heap.size, 1, none⟩) (cell_lt HC14.out)]; exact HC14.out⟩
    refine wp_region_held_drew (S := (fun W => W.cell? ⟨v2.heap.size, 4, none⟩ = some (.slice p1 n1 c1) ∧ W.cell? ⟨v4.heap.size, 1, none⟩ = some (.slice none 0 0))) (by kernel_rfl) (by first | (first | exact HKEEP.out _ hbQ | exact HKEEP.out _ hbP | exact HKEEP.out _ hd1 | exact HKEEP.out _ hd0) | ((try dsimp only); first | exact HKEEP.out _ hbQ | exact HKEEP.out _ hbP | exact HKEEP.out _ hd1 | exact HKEEP.out _ hd0)) (fun hHeld => ?_)
    refine wpAnyH_take (i := 1) (v := ?vj1) rfl (by kernel_rfl) (by kernel_rfl) (by kernel_rfl) (fun _ _ _ h => h) (Or.inl ⟨by rfl, ?hj1⟩) (by assumption) ?rj1
    case hj1 => intro w hSw; (try dsimp only at hSw); go_simp; try with_reducible rfl
    simp only [Act.put, List.getElem_toArray, List.getElem_cons_succ, List.getElem_cons_zero, List.setIfInBounds_toArray, List.set_cons_succ, List.set_cons_zero]
    refine wpAnyH_take (i := 2) (v := ?vj4) rfl (by kernel_rfl) (by kernel_rfl) (by kernel_rfl) (fun _ _ _ h => h) (Or.inl ⟨by rfl, ?hj4⟩) (by assumption) ?rj4
    case hj4 => intro w hSw; (try dsimp only at hSw); go_simp; try with_reducible rfl
    simp only [Act.put, List.getElem_toArray, List.getElem_cons_succ, List.getElem_cons_zero, List.setIfInBounds_toArray, List.set_cons_succ, List.set_cons_zero]
    refine wpAnyH_take (i := 4) (v := ?vj7) rfl (by kernel_rfl) (by kernel_rfl) (by kernel_rfl) (fun _ _ _ h => h) (Or.inl ⟨by rfl, ?hj7⟩) (by assumption) ?rj7
    case hj7 => intro w hSw; (try dsimp only at hSw); go_simp; try with_reducible rfl
    simp only [Act.put, List.getElem_toArray, List.getElem_cons_succ, List.getElem_cons_zero, List.setIfInBounds_toArray, List.set_cons_succ, List.set_cons_zero]
    refine wpAnyH_take (i := 5) (v := ?vj10) rfl (by kernel_rfl) (by kernel_rfl) (by kernel_rfl) (fun _ _ _ h => h) (Or.inl ⟨by rfl, ?hj10⟩) (by assumption) ?rj10
    case hj10 => intro w hSw; (try dsimp only at hSw); go_simp; try with_reducible rfl
    simp only [Act.put, List.getElem_toArray, List.getElem_cons_succ, List.getElem_cons_zero, List.setIfInBounds_toArray, List.set_cons_succ, List.set_cons_zero]
    refine wpAnyH_ready (rs := [0]) (by kernel_rfl) (by simp) ?_
    refine AllReadyH.cons rfl (fun K hK => ?_) AllReadyH.nil
    go_simp
    refine hK.out _ _ (by first | (first | exact HKEEP.out _ hbQ | exact HKEEP.out _ hbP | exact HKEEP.out _ hd1 | exact HKEEP.out _ hd0) | ((try dsimp only); first | exact HKEEP.out _ hbQ | exact HKEEP.out _ hbP | exact HKEEP.out _ hd1 | exact HKEEP.out _ hd0)) (fun hHeld => ?_)
    clear hK K
    try simp only [Act.put, List.getElem_toArray, List.getElem_cons_succ, List.getElem_cons_zero, List.setIfInBounds_toArray, List.set_cons_succ, List.set_cons_zero]
    refine wpAnyH_ready (rs := [3]) (by kernel_rfl) (by simp) ?_
    refine AllReadyH.cons rfl (fun K hK => ?_) AllReadyH.nil
    refine step_append_rules (w0 := V) (by rfl) (.tmp 71) (.tmp 73) (by rfl) V.heap.size _ 0 [] (by rfl) (owns0_rules V.drew) p1 n1 c1 xs1 (by rfl) ((HG1.out.1.below hd0 (Nat.le_refl _)).alloc _) n1 (by omega) (by omega) (Nat.le_refl _) hd1 ?_
    intro aP cP wP hownP hbP _ _
    simp only [List.nil_append] at hownP
    refine hK.out _ _ (by first | (first | exact HKEEP.out _ hbQ | exact HKEEP.out _ hbP | exact HKEEP.out _ hd1 | exact HKEEP.out _ hd0) | ((try dsimp only); first | exact HKEEP.out _ hbQ | exact HKEEP.out _ hbP | exact HKEEP.out _ hd1 | exact HKEEP.out _ hd0)) (fun hHeld => ?_)
    clear hK K
    try simp only [Act.put, List.getElem_toArray, List.getElem_cons_succ, List.getElem_cons_zero, List.setIfInBounds_toArray, List.set_cons_succ, List.set_cons_zero]
    refine wpAnyH_ready (rs := [6]) (by kernel_rfl) (by simp) ?_
    refine AllReadyH.cons rfl (fun K hK => ?_) AllReadyH.nil
    refine step_append_rules (w0 := V) (by rfl) (.tmp 74) (.tmp 76) (by rfl) V.heap.size _ n1 xs1 (by rfl) hownP none 0 0 ([] : List Rw) (by rfl) (HR3.out.below hbP (Nat.le_refl _)) nA hnA (by omega) (Nat.le_refl _) hbP ?_
    intro aQ cQ wQ2 hownQ hbQ _ _
    have hrsQ : Rs wQ2 aQ nA cQ xsA := Rs.of_owns (by rw [← HXA.out]; exact hownQ) (fun x hx => by
      rw [← HXA.out] at hx
      rcases List.mem_append.1 hx with hx | hx
      · exact (HG1.out.1.2.2.2.1 x hx).below hbQ (Nat.le_refl _)
      · exact (HR3.out.2.2.2.1 x hx).below hbQ (Nat.le_refl _)) (by rw [← HXA.out, List.length_append, HG1.out.1.1, HR3.out.1, hnA])
    refine hK.out _ _ (by first | (first | exact HKEEP.out _ hbQ | exact HKEEP.out _ hbP | exact HKEEP.out _ hd1 | exact HKEEP.out _ hd0) | ((try dsimp only); first | exact HKEEP.out _ hbQ | exact HKEEP.out _ hbP | exact HKEEP.out _ hd1 | exact HKEEP.out _ hd0)) (fun hHeld => ?_)
    clear hK K
    try simp only [Act.put, List.getElem_toArray, List.getElem_cons_succ, List.getElem_cons_zero, List.setIfInBounds_toArray, List.set_cons_succ, List.set_cons_zero]
    refine wpAnyH_take (i := 7) (v := ?vj39) rfl (by kernel_rfl) (by kernel_rfl) (by kernel_rfl) (fun _ _ _ h => h) (Or.inl ⟨by rfl, ?hj39⟩) (by assumption) ?rj39
    case hj39 => intro w hSw; (try dsimp only at hSw); go_simp; try with_reducible rfl
    simp only [Act.put, List.getElem_toArray, List.getElem_cons_succ, List.getElem_cons_zero, List.setIfInBounds_toArray, List.set_cons_succ, List.set_cons_zero]
    refine wpAnyH_done (by kernel_rfl) ?_ _
    have HA := Lib.hid hrsQ
    have hnac := hrsQ.2.1
    have hcqm := hrsQ.2.2.1
    unfold maxLen at hcqm
    have HBQ : Hid (Below w.heap.size w wQ2) := HBV.out.trans (hbQ.mono HBV.out.size)
    have HY2 : Hid (Rs wQ2 p2 n2 c2 xs2) := HG2.out.1.below hbQ (Nat.le_refl _)
    have HKQ : Hid (∀ W, Below wQ2.heap.size wQ2 W → W.cell? ⟨v2.heap.size, 4, none⟩ = some (.slice p1 n1 c1) ∧ W.cell? ⟨v3.heap.size, 4, none⟩ = some (.slice p2 n2 c2)) := fun W hb => by
      have hbb := hbQ.trans (hb.mono hbQ.size)
      have h6 := (hbb.block _ (Array.getElem?_eq_some_iff.1 HP6v.out).1).trans HP6v.out
      have h9 := (hbb.block _ (Array.getElem?_eq_some_iff.1 HP9v.out).1).trans HP9v.out
      exact ⟨by simp [World.cell?, h6], by simp [World.cell?, h9]⟩
    clear hrsQ hownQ hbQ hownP hbP hd1 hd0 hHeld HKEEP
    go_wp2
    go_loopw [16, 17, 18] (fun ix _hv _kx wr => ∃ i : Nat, i ≤ nA ∧ ix = .int .i64 (i : Int) ∧ Hid (Below wQ2.heap.size wQ2 wr)) (fun ix _ _ _ => nA - (intOf ix).toNat)
    case atStart => exact ⟨0, Nat.zero_le _, rfl, Below.refl _ _⟩
    case round =>
      obtain ⟨i, hi, rfl, HB⟩ := hrel
      have hq6 := (HKQ.out wr HB.out).1
      by_cases hlt : i < nA
      · obtain ⟨b1, o1, la, ln, lc, LL, ra, rn, rc, RR, C, rfl, hb1, hx1, hx2, hx3, hsl, hsr, hC0, hC1, hz1⟩ := (HA.out.below HB.out (Nat.le_refl _)).one i hlt
        have hlti : (i : Int) < (nA : Int) := by omega
        have hltn : (i : Int) < (n1 : Int) := by omega
        have HGO : Hid ((⟨la, ln, lc, LL, ra, rn, rc, RR, C⟩ : Rw).Good wr) := ⟨hsl, hsr, hC0, hC1⟩
        have HQ1 := Lib.hid hx1
        have HQ2 := Lib.hid hx2
        have HQ3 := Lib.hid hx3
        have HZ1 := Lib.hid hz1
        have hb14 := hb1
        have HBO := Lib.hid HB.out
        clear hx1 hx2 hx3 hsl hsr hz1 hb1 HB
        obtain ⟨W1, hW1⟩ : ∃ W1, W1 = wr := ⟨_, rfl⟩
        subst hW1
        go_wp2
        go_loopw [17, 18] (fun hv kx wr => ∃ (k : Nat) (h : Bool), k ≤ n2 ∧ kx = .int .i64 (k : Int) ∧ hv = .bool h ∧ Hid (h = ((ruls xs2).take k).any fun s => decide (s.like ⟨LL, RR, C⟩) && decide (s.C ≤ C)) ∧ Hid (Below W1.heap.size W1 wr)) (fun _ kx _ => n2 - (intOf kx).toNat)
        case atStart => exact ⟨0, false, Nat.zero_le _, rfl, rfl, (by first | exact (trivial : True) | (show false = ((ruls xs2).take 0).any _; rw [List.take_zero, List.any_nil])), Below.refl _ _⟩
        case round =>
          obtain ⟨k, h, hk, rfl, rfl, HH, HB⟩ := hrel
          have hr9 := (HKQ.out wr (HBO.out.trans (HB.out.mono HBO.out.size))).2
          by_cases hkm : k < n2
          · obtain ⟨b2, o2, la', ln', lc', LL', ra', rn', rc', RR', C', rfl, hb2, hy1, hy2, hy3, hsl', hsr', hC0', hC1', hz2⟩ := ((HY2.out.below HBO.out (Nat.le_refl _)).below HB.out (Nat.le_refl _)).one k hkm
            have hkmi : (k : Int) < (n2 : Int) := by omega
            have HZ2 := Lib.hid hz2
            have HNX : Hid (∀ q : Bool, (decide ((⟨LL', RR', C'⟩ : Rul).like ⟨LL, RR, C⟩) && decide (C' ≤ C)) = q → (h || q) = ((ruls xs2).take (k + 1)).any fun s => decide (s.like ⟨LL, RR, C⟩) && decide (s.C ≤ C)) := fun q hq => by
              have hkr : k < (ruls xs2).length := by rw [ruls_length, HY2.out.1]; exact hkm
              have h1 := ruls_at xs2 k
              rw [HZ2.out, List.getD_eq_getElem?_getD, List.getElem?_eq_getElem hkr, Option.getD_some] at h1
              rw [List.take_succ_eq_append_getElem hkr, List.any_append, ← HH.out, h1, ← hq]
              simp [Rw.r]
            cases h
            · have HGX : Hid ((⟨la, ln, lc, LL, ra, rn, rc, RR, 0⟩ : Rw).Good wr) := ⟨HGO.out.1.below HB.out (Nat.le_refl _), HGO.out.2.1.below HB.out (Nat.le_refl _), Int.le_refl _, by show (0 : Int) < _; decide⟩
              have HGY : Hid ((⟨la', ln', lc', LL', ra', rn', rc', RR', 0⟩ : Rw).Good wr) := ⟨hsl', hsr', Int.le_refl _, by show (0 : Int) < _; decide⟩
              have hp1 : wr.cell? ⟨b1, o1 + i * 3, none⟩ = some (.slice la ln lc) := (HB.out.cell (p := ⟨b1, o1 + i * 3, none⟩) hb14).trans HQ1.out
              have hp2 : wr.cell? ⟨b1, o1 + i * 3 + 1, none⟩ = some (.slice ra rn rc) := (HB.out.cell (p := ⟨b1, o1 + i * 3 + 1, none⟩) hb14).trans HQ2.out
              have hp3 : wr.cell? ⟨b1, o1 + i * 3 + 2, none⟩ = some (.int .u64 C) := (HB.out.cell (p := ⟨b1, o1 + i * 3 + 2, none⟩) hb14).trans HQ3.out
              have hbp := cell_lt hp1
              have hb9 := cell_lt hr9
              have KEEP : Hid (∀ W, Below wr.heap.size wr W → (fun W => W.cell? ⟨b1, o1 + i * 3, none⟩ = some (.slice la ln lc) ∧ W.cell? ⟨b1, o1 + i * 3 + 1, none⟩ = some (.slice ra rn rc) ∧ W.cell? ⟨b1, o1 + i * 3 + 2, none⟩ = some (.int .u64 C) ∧ W.cell? ⟨b2, o2 + k * 3, none⟩ = some (.slice la' ln' lc') ∧ W.cell? ⟨b2, o2 + k * 3 + 1, none⟩ = some (.slice ra' rn' rc') ∧ W.cell? ⟨b2, o2 + k * 3 + 2, none⟩ = some (.int .u64 C') ∧ W.cell? ⟨v3.heap.size, 4, none⟩ = some (.slice (some ⟨b2, o2, none⟩) n2 c2)) W) := fun W hb =>
                ⟨(hb.cell (p := ⟨b1, o1 + i * 3, none⟩) hbp).trans hp1, (hb.cell (p := ⟨b1, o1 + i * 3 + 1, none⟩) hbp).trans hp2, (hb.cell (p := ⟨b1, o1 + i * 3 + 2, none⟩) hbp).trans hp3,
                  (hb.cell (p := ⟨b2, o2 + k * 3, none⟩) hb2).trans hy1, (hb.cell (p := ⟨b2, o2 + k * 3 + 1, none⟩) hb2).trans hy2, (hb.cell (p := ⟨b2, o2 + k * 3 + 2, none⟩) hb2).trans hy3, (hb.cell (p := ⟨v3.heap.size, 4, none⟩) hb9).trans hr9⟩
              have BEL0 : Hid (Below wr.heap.size wr wr.drew) := below_drawn (Below.refl _ wr) ⟨1, rfl⟩
              have BEL1 : Hid (∀ o, Below wr.heap.size wr (wr.alloc o)) := fun o => (Below.refl _ wr).alloc (Nat.le_refl _) o
              have BEL2 : Hid (∀ o o', Below wr.heap.size wr ((wr.alloc o).alloc o')) := fun o o' => ((Below.refl _ wr).alloc (Nat.le_refl _) o).alloc (by simp) o'
              have BELD1 : Hid (∀ o, Below wr.heap.size wr (wr.drew.alloc o)) := fun o => BEL0.out.alloc (Nat.le_refl _) o
              have BELD2 : Hid (∀ o o', Below wr.heap.size wr ((wr.drew.alloc o).alloc o')) := fun o o' => (BELD1.out o).alloc (BELD1.out o).size o'
              have hcase := Classical.em ((⟨LL', RR', C'⟩ : Rul).like ⟨LL, RR, C⟩)
              clear hsl' hsr' hz2 hp1 hp2 hp3
              rcases hcase with h1 | h1
              · have HSM : Hid (decide ((⟨LL, RR, 0⟩ : Rul) = ⟨LL', RR', 0⟩) = true) := Lib.hid (decide_eq_true (Rul.ext' h1.1.symm h1.2.symm rfl))
                have HQ : Hid ((decide (C' ≤ C)) = ((ruls xs2).take (k + 1)).any fun s => decide (s.like ⟨LL, RR, C⟩) && decide (s.C ≤ C)) := (Bool.false_or (decide (C' ≤ C))).symm.trans (HNX.out (decide (C' ≤ C)) (by simp [h1]))
                clear h1 HNX
                go_wp2
                go_region_held3 (fun W => W.cell? ⟨b1, o1 + i * 3, none⟩ = some (.slice la ln lc) ∧ W.cell? ⟨b1, o1 + i * 3 + 1, none⟩ = some (.slice ra rn rc) ∧ W.cell? ⟨b1, o1 + i * 3 + 2, none⟩ = some (.int .u64 C) ∧ W.cell? ⟨b2, o2 + k * 3, none⟩ = some (.slice la' ln' lc') ∧ W.cell? ⟨b2, o2 + k * 3 + 1, none⟩ = some (.slice ra' rn' rc') ∧ W.cell? ⟨b2, o2 + k * 3 + 2, none⟩ = some (.int .u64 C') ∧ W.cell? ⟨v3.heap.size, 4, none⟩ = some (.slice (some ⟨b2, o2, none⟩) n2 c2)) (first | exact KEEP.out _ BEL0.out | exact KEEP.out _ (BELD1.out _) | exact KEEP.out _ (BELD2.out _ _) | exact KEEP.out _ (Below.like (BEL1.out _) rfl rfl rfl rfl) | exact KEEP.out _ (Below.like (BEL2.out _ _) rfl rfl rfl rfl) | exact KEEP.out _ hd5) (first
                  | (go_at_call 15; refine (rsames_is (some ⟨_, 0, none⟩) (some ⟨_, 0, none⟩) 1 1 1 1 [⟨la, ln, lc, LL, ra, rn, rc, RR, 0⟩] [⟨la', ln', lc', LL', ra', rn', rc', RR', 0⟩] true _ (by first | exact (Rs.single ((HGX.out.alloc _).alloc _) ((RwAt.new wr ⟨la, ln, lc, LL, ra, rn, rc, RR, 0⟩ _).alloc _)).drew | exact (Rs.single ((HGX.out.alloc _).alloc _) (RwAt.second wr ⟨la, ln, lc, LL, ra, rn, rc, RR, 0⟩ _ _)).drew) (by first | exact (Rs.single ((HGY.out.alloc _).alloc _) (RwAt.second wr ⟨la', ln', lc', LL', ra', rn', rc', RR', 0⟩ _ _)).drew | exact (Rs.single ((HGY.out.alloc _).alloc _) ((RwAt.new wr ⟨la', ln', lc', LL', ra', rn', rc', RR', 0⟩ _).alloc _)).drew) (by rw [← HSM.out, decide_eq_decide]; simp [ruls, Rw.r])).mono ?_; rintro e w5 ⟨rfl, hq⟩; have hd5 : Below wr.heap.size wr w5 := below_drawn (below_drawn (BEL2.out _ _) ⟨1, rfl⟩) hq; clear hq))
                all_goals
                  have HD5 : Hid (Below W1.heap.size W1 w5) := HB.out.trans (hd5.mono HB.out.size)
                  clear hd5
                  go_wp2
                  go_roundw
                  case rel => exact ⟨k + 1, (decide (C' ≤ C)), by omega, by go_num, rfl, HQ.out, HD5.out⟩
                  case measure => simp [intOf]; omega
              · have HSM : Hid (decide ((⟨LL, RR, 0⟩ : Rul) = ⟨LL', RR', 0⟩) = false) := Lib.hid (decide_eq_false (fun h => h1 ⟨(Rul.mk.inj h).1.symm, (Rul.mk.inj h).2.1.symm⟩))
                have HQ : Hid (false = ((ruls xs2).take (k + 1)).any fun s => decide (s.like ⟨LL, RR, C⟩) && decide (s.C ≤ C)) := (Bool.false_or false).symm.trans (HNX.out false (by simp [h1]))
                clear h1 HNX
                go_wp2
                refine wp_region_held_drew (S := (fun W => W.cell? ⟨b1, o1 + i * 3, none⟩ = some (.slice la ln lc) ∧ W.cell? ⟨b1, o1 + i * 3 + 1, none⟩ = some (.slice ra rn rc) ∧ W.cell? ⟨b1, o1 + i * 3 + 2, none⟩ = some (.int .u64 C) ∧ W.cell? ⟨b2, o2 + k * 3, none⟩ = some (.slice la' ln' lc') ∧ W.cell? ⟨b2, o2 + k * 3 + 1, none⟩ = some (.slice ra' rn' rc') ∧ W.cell? ⟨b2, o2 + k * 3 + 2, none⟩ = some (.int .u64 C') ∧ W.cell? ⟨v3.heap.size, 4, none⟩ = some (.slice (some ⟨b2, o2, none⟩) n2 c2))) (by kernel_rfl) (by first | ((first | exact KEEP.out _ BEL0.out | exact KEEP.out _ (BELD1.out _) | exact KEEP.out _ (BELD2.out _ _) | exact KEEP.out _ (Below.like (BEL1.out _) rfl rfl rfl rfl) | exact KEEP.out _ (Below.like (BEL2.out _ _) rfl rfl rfl rfl) | exact KEEP.out _ hd5)) | ((try dsimp only); (first | exact KEEP.out _ BEL0.out | exact KEEP.out _ (BELD1.out _) | exact KEEP.out _ (BELD2.out _ _) | exact KEEP.out _ (Below.like (BEL1.out _) rfl rfl rfl rfl) | exact KEEP.out _ (Below.like (BEL2.out _ _) rfl rfl rfl rfl) | exact KEEP.out _ hd5))) (fun hHeld => ?_)
                refine wpAnyH_take (i := 0) (v := ?vz1) rfl (by kernel_rfl) (by kernel_rfl) (by kernel_rfl) (fun _ _ _ h => h) (Or.inl ⟨by rfl, ?hz1⟩) (by assumption) ?rz1
                case hz1 => intro w hSw; (try dsimp only at hSw); go_simp; try with_reducible rfl
                simp only [Act.put, List.getElem_toArray, List.getElem_cons_succ, List.getElem_cons_zero, List.setIfInBounds_toArray, List.set_cons_succ, List.set_cons_zero]
                refine wpAnyH_take (i := 1) (v := ?vz4) rfl (by kernel_rfl) (by kernel_rfl) (by kernel_rfl) (fun _ _ _ h => h) (Or.inl ⟨by rfl, ?hz4⟩) (by assumption) ?rz4
                case hz4 => intro w hSw; (try dsimp only at hSw); go_simp; try with_reducible rfl
                simp only [Act.put, List.getElem_toArray, List.getElem_cons_succ, List.getElem_cons_zero, List.setIfInBounds_toArray, List.set_cons_succ, List.set_cons_zero]
                refine wpAnyH_take (i := 2) (v := ?vz7) rfl (by kernel_rfl) (by kernel_rfl) (by kernel_rfl) (fun _ _ _ h => h) (Or.inl ⟨by rfl, ?hz7⟩) (by assumption) ?rz7
                case hz7 => intro w hSw; (try dsimp only at hSw); go_simp; try with_reducible rfl
                simp only [Act.put, List.getElem_toArray, List.getElem_cons_succ, List.getElem_cons_zero, List.setIfInBounds_toArray, List.set_cons_succ, List.set_cons_zero]
                refine wpAnyH_take (i := 3) (v := ?vz10) rfl (by kernel_rfl) (by kernel_rfl) (by kernel_rfl) (fun _ _ _ h => h) (Or.inl ⟨by rfl, ?hz10⟩) (by assumption) ?rz10
                case hz10 => intro w hSw; (try dsimp only at hSw); go_simp; try with_reducible rfl
                simp only [Act.put, List.getElem_toArray, List.getElem_cons_succ, List.getElem_cons_zero, List.setIfInBounds_toArray, List.set_cons_succ, List.set_cons_zero]
                refine wpAnyH_take (i := 4) (v := ?vz13) rfl (by kernel_rfl) (by kernel_rfl) (by kernel_rfl) (fun _ _ _ h => h) (Or.inl ⟨by rfl, ?hz13⟩) (by assumption) ?rz13
                case hz13 => intro w hSw; (try dsimp only at hSw); go_simp; try with_reducible rfl
                simp only [Act.put, List.getElem_toArray, List.getElem_cons_succ, List.getElem_cons_zero, List.setIfInBounds_toArray, List.set_cons_succ, List.set_cons_zero]
                refine wpAnyH_take (i := 5) (v := ?vz16) rfl (by kernel_rfl) (by kernel_rfl) (by kernel_rfl) (fun _ _ _ h => h) (Or.inl ⟨by rfl, ?hz16⟩) (by assumption) ?rz16
                case hz16 => intro w hSw; (try dsimp only at hSw); go_simp; try with_reducible rfl
                simp only [Act.put, List.getElem_toArray, List.getElem_cons_succ, List.getElem_cons_zero, List.setIfInBounds_toArray, List.set_cons_succ, List.set_cons_zero]
                refine wpAnyH_take (i := 6) (v := ?vz19) rfl (by kernel_rfl) (by kernel_rfl) (by kernel_rfl) (fun _ _ _ h => h) (Or.inl ⟨by rfl, ?hz19⟩) (by assumption) ?rz19
                case hz19 => intro w hSw; (try dsimp only at hSw); go_simp; try with_reducible rfl
                simp only [Act.put, List.getElem_toArray, List.getElem_cons_succ, List.getElem_cons_zero, List.setIfInBounds_toArray, List.set_cons_succ, List.set_cons_zero]
                refine wpAnyH_take (i := 7) (v := ?vz22) rfl (by kernel_rfl) (by kernel_rfl) (by kernel_rfl) (fun _ _ _ h => h) (Or.inl ⟨by rfl, ?hz22⟩) (by assumption) ?rz22
                case hz22 => intro w hSw; (try dsimp only at hSw); go_simp; try with_reducible rfl
                simp only [Act.put, List.getElem_toArray, List.getElem_cons_succ, List.getElem_cons_zero, List.setIfInBounds_toArray, List.set_cons_succ, List.set_cons_zero]
                refine wpAnyH_take (i := 8) (v := ?vz25) rfl (by kernel_rfl) (by kernel_rfl) (by kernel_rfl) (fun _ _ _ h => h) (Or.inl ⟨by rfl, ?hz25⟩) (by assumption) ?rz25
                case hz25 => intro w hSw; (try dsimp only at hSw); go_simp; try with_reducible rfl
                simp only [Act.put, List.getElem_toArray, List.getElem_cons_succ, List.getElem_cons_zero, List.setIfInBounds_toArray, List.set_cons_succ, List.set_cons_zero]
                refine wpAnyH_take (i := 9) (v := ?vz28) rfl (by kernel_rfl) (by kernel_rfl) (by kernel_rfl) (fun _ _ _ h => h) (Or.inl ⟨by rfl, ?hz28⟩) (by assumption) ?rz28
                case hz28 => intro w hSw; (try dsimp only at hSw); go_simp; try with_reducible rfl
                simp only [Act.put, List.getElem_toArray, List.getElem_cons_succ, List.getElem_cons_zero, List.setIfInBounds_toArray, List.set_cons_succ, List.set_cons_zero]
                refine wpAnyH_take (i := 10) (v := ?vz31) rfl (by kernel_rfl) (by kernel_rfl) (by kernel_rfl) (fun _ _ _ h => h) (Or.inl ⟨by rfl, ?hz31⟩) (by assumption) ?rz31
                case hz31 => intro w hSw; (try dsimp only at hSw); go_simp; try with_reducible rfl
                simp only [Act.put, List.getElem_toArray, List.getElem_cons_succ, List.getElem_cons_zero, List.setIfInBounds_toArray, List.set_cons_succ, List.set_cons_zero]
                refine wpAnyH_take (i := 11) (v := ?vz34) rfl (by kernel_rfl) (by kernel_rfl) (by kernel_rfl) (fun _ _ _ h => h) (Or.inl ⟨by rfl, ?hz34⟩) (by assumption) ?rz34
                case hz34 => intro w hSw; (try dsimp only at hSw); go_simp; try with_reducible rfl
                simp only [Act.put, List.getElem_toArray, List.getElem_cons_succ, List.getElem_cons_zero, List.setIfInBounds_toArray, List.set_cons_succ, List.set_cons_zero]
                refine wpAnyH_take (i := 12) (v := ?vz37) rfl (by kernel_rfl) (by kernel_rfl) (by kernel_rfl) (fun _ _ _ h => h) (Or.inl ⟨by rfl, ?hz37⟩) (by assumption) ?rz37
                case hz37 => intro w hSw; (try dsimp only at hSw); go_simp; try with_reducible rfl
                simp only [Act.put, List.getElem_toArray, List.getElem_cons_succ, List.getElem_cons_zero, List.setIfInBounds_toArray, List.set_cons_succ, List.set_cons_zero]
                refine wpAnyH_take (i := 14) (v := ?vz40) rfl (by kernel_rfl) (by kernel_rfl) (by kernel_rfl) (fun _ _ _ h => h) (Or.inl ⟨by rfl, ?hz40⟩) (by assumption) ?rz40
                case hz40 => intro w hSw; (try dsimp only at hSw); go_simp; try with_reducible rfl
                simp only [Act.put, List.getElem_toArray, List.getElem_cons_succ, List.getElem_cons_zero, List.setIfInBounds_toArray, List.set_cons_succ, List.set_cons_zero]
                refine wpAnyH_take (i := 15) (v := ?vz43) rfl (by kernel_rfl) (by kernel_rfl) (by kernel_rfl) (fun _ _ _ h => h) (Or.inl ⟨by rfl, ?hz43⟩) (by assumption) ?rz43
                case hz43 => intro w hSw; (try dsimp only at hSw); go_simp; try with_reducible rfl
                simp only [Act.put, List.getElem_toArray, List.getElem_cons_succ, List.getElem_cons_zero, List.setIfInBounds_toArray, List.set_cons_succ, List.set_cons_zero]
                refine wpAnyH_take (i := 16) (v := ?vz46) rfl (by kernel_rfl) (by kernel_rfl) (by kernel_rfl) (fun _ _ _ h => h) (Or.inl ⟨by rfl, ?hz46⟩) (by assumption) ?rz46
                case hz46 => intro w hSw; (try dsimp only at hSw); go_simp; try with_reducible rfl
                simp only [Act.put, List.getElem_toArray, List.getElem_cons_succ, List.getElem_cons_zero, List.setIfInBounds_toArray, List.set_cons_succ, List.set_cons_zero]
                refine wpAnyH_take (i := 17) (v := ?vz49) rfl (by kernel_rfl) (by kernel_rfl) (by kernel_rfl) (fun _ _ _ h => h) (Or.inl ⟨by rfl, ?hz49⟩) (by assumption) ?rz49
                case hz49 => intro w hSw; (try dsimp only at hSw); go_simp; try with_reducible rfl
                simp only [Act.put, List.getElem_toArray, List.getElem_cons_succ, List.getElem_cons_zero, List.setIfInBounds_toArray, List.set_cons_succ, List.set_cons_zero]
                refine wpAnyH_take (i := 18) (v := ?vz52) rfl (by kernel_rfl) (by kernel_rfl) (by kernel_rfl) (fun _ _ _ h => h) (Or.inl ⟨by rfl, ?hz52⟩) (by assumption) ?rz52
                case hz52 => intro w hSw; (try dsimp only at hSw); go_simp; try with_reducible rfl
                simp only [Act.put, List.getElem_toArray, List.getElem_cons_succ, List.getElem_cons_zero, List.setIfInBounds_toArray, List.set_cons_succ, List.set_cons_zero]
                refine wpAnyH_take (i := 19) (v := ?vz55) rfl (by kernel_rfl) (by kernel_rfl) (by kernel_rfl) (fun _ _ _ h => h) (Or.inl ⟨by rfl, ?hz55⟩) (by assumption) ?rz55
                case hz55 => intro w hSw; (try dsimp only at hSw); go_simp; try with_reducible rfl
                simp only [Act.put, List.getElem_toArray, List.getElem_cons_succ, List.getElem_cons_zero, List.setIfInBounds_toArray, List.set_cons_succ, List.set_cons_zero]
                refine wpAnyH_take (i := 20) (v := ?vz58) rfl (by kernel_rfl) (by kernel_rfl) (by kernel_rfl) (fun _ _ _ h => h) (Or.inl ⟨by rfl, ?hz58⟩) (by assumption) ?rz58
                case hz58 => intro w hSw; (try dsimp only at hSw); go_simp; try with_reducible rfl
                simp only [Act.put, List.getElem_toArray, List.getElem_cons_succ, List.getElem_cons_zero, List.setIfInBounds_toArray, List.set_cons_succ, List.set_cons_zero]
                refine wpAnyH_take (i := 21) (v := ?vz61) rfl (by kernel_rfl) (by kernel_rfl) (by kernel_rfl) (fun _ _ _ h => h) (Or.inl ⟨by rfl, ?hz61⟩) (by assumption) ?rz61
                case hz61 => intro w hSw; (try dsimp only at hSw); go_simp; try with_reducible rfl
                simp only [Act.put, List.getElem_toArray, List.getElem_cons_succ, List.getElem_cons_zero, List.setIfInBounds_toArray, List.set_cons_succ, List.set_cons_zero]
                refine wpAnyH_take (i := 22) (v := ?vz64) rfl (by kernel_rfl) (by kernel_rfl) (by kernel_rfl) (fun _ _ _ h => h) (Or.inl ⟨by rfl, ?hz64⟩) (by assumption) ?rz64
                case hz64 => intro w hSw; (try dsimp only at hSw); go_simp; try with_reducible rfl
                simp only [Act.put, List.getElem_toArray, List.getElem_cons_succ, List.getElem_cons_zero, List.setIfInBounds_toArray, List.set_cons_succ, List.set_cons_zero]
                refine wpAnyH_take (i := 23) (v := ?vz67) rfl (by kernel_rfl) (by kernel_rfl) (by kernel_rfl) (fun _ _ _ h => h) (Or.inl ⟨by rfl, ?hz67⟩) (by assumption) ?rz67
                case hz67 => intro w hSw; (try dsimp only at hSw); go_simp; try with_reducible rfl
                simp only [Act.put, List.getElem_toArray, List.getElem_cons_succ, List.getElem_cons_zero, List.setIfInBounds_toArray, List.set_cons_succ, List.set_cons_zero]
                refine wpAnyH_take (i := 24) (v := ?vz70) rfl (by kernel_rfl) (by kernel_rfl) (by kernel_rfl) (fun _ _ _ h => h) (Or.inl ⟨by rfl, ?hz70⟩) (by assumption) ?rz70
                case hz70 => intro w hSw; (try dsimp only at hSw); go_simp; try with_reducible rfl
                simp only [Act.put, List.getElem_toArray, List.getElem_cons_succ, List.getElem_cons_zero, List.setIfInBounds_toArray, List.set_cons_succ, List.set_cons_zero]
                refine wpAnyH_take (i := 25) (v := ?vz73) rfl (by kernel_rfl) (by kernel_rfl) (by kernel_rfl) (fun _ _ _ h => h) (Or.inl ⟨by rfl, ?hz73⟩) (by assumption) ?rz73
                case hz73 => intro w hSw; (try dsimp only at hSw); go_simp; try with_reducible rfl
                simp only [Act.put, List.getElem_toArray, List.getElem_cons_succ, List.getElem_cons_zero, List.setIfInBounds_toArray, List.set_cons_succ, List.set_cons_zero]
                refine wpAnyH_take (i := 26) (v := ?vz76) rfl (by kernel_rfl) (by kernel_rfl) (by kernel_rfl) (fun _ _ _ h => h) (Or.inl ⟨by rfl, ?hz76⟩) (by assumption) ?rz76
                case hz76 => intro w hSw; (try dsimp only at hSw); go_simp; try with_reducible rfl
                simp only [Act.put, List.getElem_toArray, List.getElem_cons_succ, List.getElem_cons_zero, List.setIfInBounds_toArray, List.set_cons_succ, List.set_cons_zero]
                refine wpAnyH_ready (rs := [13, 27]) (by kernel_rfl) (by simp) ?_
                refine AllReadyH.cons rfl (fun K hK => ?_) (AllReadyH.cons rfl (fun K hK => ?_) AllReadyH.nil)
                · go_simp
                  refine hK.out _ _ (by first | ((first | exact KEEP.out _ BEL0.out | exact KEEP.out _ (BELD1.out _) | exact KEEP.out _ (BELD2.out _ _) | exact KEEP.out _ (Below.like (BEL1.out _) rfl rfl rfl rfl) | exact KEEP.out _ (Below.like (BEL2.out _ _) rfl rfl rfl rfl) | exact KEEP.out _ hd5)) | ((try dsimp only); (first | exact KEEP.out _ BEL0.out | exact KEEP.out _ (BELD1.out _) | exact KEEP.out _ (BELD2.out _ _) | exact KEEP.out _ (Below.like (BEL1.out _) rfl rfl rfl rfl) | exact KEEP.out _ (Below.like (BEL2.out _ _) rfl rfl rfl rfl) | exact KEEP.out _ hd5))) (fun hHeld => ?_)
                  clear hK K
                  try simp only [Act.put, List.getElem_toArray, List.getElem_cons_succ, List.getElem_cons_zero, List.setIfInBounds_toArray, List.set_cons_succ, List.set_cons_zero]
                  refine wpAnyH_ready (rs := [27]) (by kernel_rfl) (by simp) ?_
                  refine AllReadyH.cons rfl (fun K hK => ?_) AllReadyH.nil
                  go_simp
                  refine hK.out _ _ (by first | ((first | exact KEEP.out _ BEL0.out | exact KEEP.out _ (BELD1.out _) | exact KEEP.out _ (BELD2.out _ _) | exact KEEP.out _ (Below.like (BEL1.out _) rfl rfl rfl rfl) | exact KEEP.out _ (Below.like (BEL2.out _ _) rfl rfl rfl rfl) | exact KEEP.out _ hd5)) | ((try dsimp only); (first | exact KEEP.out _ BEL0.out | exact KEEP.out _ (BELD1.out _) | exact KEEP.out _ (BELD2.out _ _) | exact KEEP.out _ (Below.like (BEL1.out _) rfl rfl rfl rfl) | exact KEEP.out _ (Below.like (BEL2.out _ _) rfl rfl rfl rfl) | exact KEEP.out _ hd5))) (fun hHeld => ?_)
                  clear hK K
                  try simp only [Act.put, List.getElem_toArray, List.getElem_cons_succ, List.getElem_cons_zero, List.setIfInBounds_toArray, List.set_cons_succ, List.set_cons_zero]
                  refine wpAnyH_ready (rs := [28]) (by kernel_rfl) (by simp) ?_
                  refine AllReadyH.cons rfl (fun K hK => ?_) AllReadyH.nil
                  go_simp
                  go_at_call 15
                  refine (rsames_is (some ⟨_, 0, none⟩) (some ⟨_, 0, none⟩) 1 1 1 1 [⟨la, ln, lc, LL, ra, rn, rc, RR, 0⟩] [⟨la', ln', lc', LL', ra', rn', rc', RR', 0⟩] false _ (by first | exact (Rs.single ((HGX.out.alloc _).alloc _) ((RwAt.new wr ⟨la, ln, lc, LL, ra, rn, rc, RR, 0⟩ _).alloc _)).drew | exact (Rs.single ((HGX.out.alloc _).alloc _) (RwAt.second wr ⟨la, ln, lc, LL, ra, rn, rc, RR, 0⟩ _ _)).drew) (by first | exact (Rs.single ((HGY.out.alloc _).alloc _) (RwAt.second wr ⟨la', ln', lc', LL', ra', rn', rc', RR', 0⟩ _ _)).drew | exact (Rs.single ((HGY.out.alloc _).alloc _) ((RwAt.new wr ⟨la', ln', lc', LL', ra', rn', rc', RR', 0⟩ _).alloc _)).drew) (by rw [← HSM.out, decide_eq_decide]; simp [ruls, Rw.r])).mono ?_
                  rintro e w5 ⟨rfl, hq⟩
                  have hd5 : Below wr.heap.size wr w5 := below_drawn (below_drawn (BEL2.out _ _) ⟨1, rfl⟩) hq
                  clear hq
                  go_wp2_with fail
                  refine hK.out _ _ (by first | ((first | exact KEEP.out _ BEL0.out | exact KEEP.out _ (BELD1.out _) | exact KEEP.out _ (BELD2.out _ _) | exact KEEP.out _ (Below.like (BEL1.out _) rfl rfl rfl rfl) | exact KEEP.out _ (Below.like (BEL2.out _ _) rfl rfl rfl rfl) | exact KEEP.out _ hd5)) | ((try dsimp only); (first | exact KEEP.out _ BEL0.out | exact KEEP.out _ (BELD1.out _) | exact KEEP.out _ (BELD2.out _ _) | exact KEEP.out _ (Below.like (BEL1.out _) rfl rfl rfl rfl) | exact KEEP.out _ (Below.like (BEL2.out _ _) rfl rfl rfl rfl) | exact KEEP.out _ hd5))) (fun hHeld => ?_)
                  clear hK K
                  try simp only [Act.put, List.getElem_toArray, List.getElem_cons_succ, List.getElem_cons_zero, List.setIfInBounds_toArray, List.set_cons_succ, List.set_cons_zero]
                  refine wpAnyH_take (i := 29) (v := ?vz103) rfl (by kernel_rfl) (by kernel_rfl) (by kernel_rfl) (fun _ _ _ h => h) (Or.inl ⟨by rfl, ?hz103⟩) (by assumption) ?rz103
                  case hz103 => intro w hSw; (try dsimp only at hSw); go_simp; try with_reducible rfl
                  simp only [Act.put, List.getElem_toArray, List.getElem_cons_succ, List.getElem_cons_zero, List.setIfInBounds_toArray, List.set_cons_succ, List.set_cons_zero]
                  refine wpAnyH_take (i := 30) (v := undef) rfl (by kernel_rfl) (by kernel_rfl) (by kernel_rfl) (fun _ _ _ h => h) (Or.inr ⟨by rfl, rfl⟩) (by assumption) ?_
                  simp only [Act.put, List.getElem_toArray, List.getElem_cons_succ, List.getElem_cons_zero, List.setIfInBounds_toArray, List.set_cons_succ, List.set_cons_zero]
                  refine wpAnyH_take (i := 31) (v := undef) rfl (by kernel_rfl) (by kernel_rfl) (by kernel_rfl) (fun _ _ _ h => h) (Or.inr ⟨by rfl, rfl⟩) (by assumption) ?_
                  simp only [Act.put, List.getElem_toArray, List.getElem_cons_succ, List.getElem_cons_zero, List.setIfInBounds_toArray, List.set_cons_succ, List.set_cons_zero]
                  refine wpAnyH_take (i := 32) (v := undef) rfl (by kernel_rfl) (by kernel_rfl) (by kernel_rfl) (fun _ _ _ h => h) (Or.inr ⟨by rfl, rfl⟩) (by assumption) ?_
                  simp only [Act.put, List.getElem_toArray, List.getElem_cons_succ, List.getElem_cons_zero, List.setIfInBounds_toArray, List.set_cons_succ, List.set_cons_zero]
                  refine wpAnyH_take (i := 33) (v := undef) rfl (by kernel_rfl) (by kernel_rfl) (by kernel_rfl) (fun _ _ _ h => h) (Or.inr ⟨by rfl, rfl⟩) (by assumption) ?_
                  simp only [Act.put, List.getElem_toArray, List.getElem_cons_succ, List.getElem_cons_zero, List.setIfInBounds_toArray, List.set_cons_succ, List.set_cons_zero]
                  refine wpAnyH_take (i := 34) (v := undef) rfl (by kernel_rfl) (by kernel_rfl) (by kernel_rfl) (fun _ _ _ h => h) (Or.inr ⟨by rfl, rfl⟩) (by assumption) ?_
                  simp only [Act.put, List.getElem_toArray, List.getElem_cons_succ, List.getElem_cons_zero, List.setIfInBounds_toArray, List.set_cons_succ, List.set_cons_zero]
                  refine wpAnyH_take (i := 35) (v := undef) rfl (by kernel_rfl) (by kernel_rfl) (by kernel_rfl) (fun _ _ _ h => h) (Or.inr ⟨by rfl, rfl⟩) (by assumption) ?_
                  simp only [Act.put, List.getElem_toArray, List.getElem_cons_succ, List.getElem_cons_zero, List.setIfInBounds_toArray, List.set_cons_succ, List.set_cons_zero]
                  refine wpAnyH_take (i := 36) (v := undef) rfl (by kernel_rfl) (by kernel_rfl) (by kernel_rfl) (fun _ _ _ h => h) (Or.inr ⟨by rfl, rfl⟩) (by assumption) ?_
                  simp only [Act.put, List.getElem_toArray, List.getElem_cons_succ, List.getElem_cons_zero, List.setIfInBounds_toArray, List.set_cons_succ, List.set_cons_zero]
                  refine wpAnyH_take (i := 37) (v := undef) rfl (by kernel_rfl) (by kernel_rfl) (by kernel_rfl) (fun _ _ _ h => h) (Or.inr ⟨by rfl, rfl⟩) (by assumption) ?_
                  simp only [Act.put, List.getElem_toArray, List.getElem_cons_succ, List.getElem_cons_zero, List.setIfInBounds_toArray, List.set_cons_succ, List.set_cons_zero]
                  refine wpAnyH_take (i := 38) (v := undef) rfl (by kernel_rfl) (by kernel_rfl) (by kernel_rfl) (fun _ _ _ h => h) (Or.inr ⟨by rfl, rfl⟩) (by assumption) ?_
                  simp only [Act.put, List.getElem_toArray, List.getElem_cons_succ, List.getElem_cons_zero, List.setIfInBounds_toArray, List.set_cons_succ, List.set_cons_zero]
                  refine wpAnyH_take (i := 39) (v := undef) rfl (by kernel_rfl) (by kernel_rfl) (by kernel_rfl) (fun _ _ _ h => h) (Or.inr ⟨by rfl, rfl⟩) (by assumption) ?_
                  simp only [Act.put, List.getElem_toArray, List.getElem_cons_succ, List.getElem_cons_zero, List.setIfInBounds_toArray, List.set_cons_succ, List.set_cons_zero]
                  refine wpAnyH_take (i := 40) (v := undef) rfl (by kernel_rfl) (by kernel_rfl) (by kernel_rfl) (fun _ _ _ h => h) (Or.inr ⟨by rfl, rfl⟩) (by assumption) ?_
                  simp only [Act.put, List.getElem_toArray, List.getElem_cons_succ, List.getElem_cons_zero, List.setIfInBounds_toArray, List.set_cons_succ, List.set_cons_zero]
                  refine wpAnyH_take (i := 41) (v := undef) rfl (by kernel_rfl) (by kernel_rfl) (by kernel_rfl) (fun _ _ _ h => h) (Or.inr ⟨by rfl, rfl⟩) (by assumption) ?_
                  simp only [Act.put, List.getElem_toArray, List.getElem_cons_succ, List.getElem_cons_zero, List.setIfInBounds_toArray, List.set_cons_succ, List.set_cons_zero]
                  refine wpAnyH_take (i := 42) (v := ?vz130) rfl (by kernel_rfl) (by kernel_rfl) (by kernel_rfl) (fun _ _ _ h => h) (Or.inl ⟨by rfl, ?hz130⟩) (by assumption) ?rz130
                  case hz130 => intro w hSw; (try dsimp only at hSw); go_simp; try with_reducible rfl
                  simp only [Act.put, List.getElem_toArray, List.getElem_cons_succ, List.getElem_cons_zero, List.setIfInBounds_toArray, List.set_cons_succ, List.set_cons_zero]
                  refine wpAnyH_take (i := 43) (v := ?vz133) rfl (by kernel_rfl) (by kernel_rfl) (by kernel_rfl) (fun _ _ _ h => h) (Or.inl ⟨by rfl, ?hz133⟩) (by assumption) ?rz133
                  case hz133 => intro w hSw; (try dsimp only at hSw); go_simp; try with_reducible rfl
                  simp only [Act.put, List.getElem_toArray, List.getElem_cons_succ, List.getElem_cons_zero, List.setIfInBounds_toArray, List.set_cons_succ, List.set_cons_zero]
                  refine wpAnyH_take (i := 44) (v := ?vz136) rfl (by kernel_rfl) (by kernel_rfl) (by kernel_rfl) (fun _ _ _ h => h) (Or.inl ⟨by rfl, ?hz136⟩) (by assumption) ?rz136
                  case hz136 => intro w hSw; (try dsimp only at hSw); go_simp; try with_reducible rfl
                  simp only [Act.put, List.getElem_toArray, List.getElem_cons_succ, List.getElem_cons_zero, List.setIfInBounds_toArray, List.set_cons_succ, List.set_cons_zero]
                  refine wpAnyH_done (by kernel_rfl) ?_ _
                  have HD5 : Hid (Below W1.heap.size W1 w5) := HB.out.trans (hd5.mono HB.out.size)
                  clear hd5
                  go_wp2
                  go_roundw
                  case rel => exact ⟨k + 1, false, by omega, by go_num, rfl, HQ.out, HD5.out⟩
                  case measure => simp [intOf]; omega
                · go_simp
                  refine hK.out _ _ (by first | ((first | exact KEEP.out _ BEL0.out | exact KEEP.out _ (BELD1.out _) | exact KEEP.out _ (BELD2.out _ _) | exact KEEP.out _ (Below.like (BEL1.out _) rfl rfl rfl rfl) | exact KEEP.out _ (Below.like (BEL2.out _ _) rfl rfl rfl rfl) | exact KEEP.out _ hd5)) | ((try dsimp only); (first | exact KEEP.out _ BEL0.out | exact KEEP.out _ (BELD1.out _) | exact KEEP.out _ (BELD2.out _ _) | exact KEEP.out _ (Below.like (BEL1.out _) rfl rfl rfl rfl) | exact KEEP.out _ (Below.like (BEL2.out _ _) rfl rfl rfl rfl) | exact KEEP.out _ hd5))) (fun hHeld => ?_)
                  clear hK K
                  try simp only [Act.put, List.getElem_toArray, List.getElem_cons_succ, List.getElem_cons_zero, List.setIfInBounds_toArray, List.set_cons_succ, List.set_cons_zero]
                  refine wpAnyH_ready (rs := [13]) (by kernel_rfl) (by simp) ?_
                  refine AllReadyH.cons rfl (fun K hK => ?_) AllReadyH.nil
                  go_simp
                  refine hK.out _ _ (by first | ((first | exact KEEP.out _ BEL0.out | exact KEEP.out _ (BELD1.out _) | exact KEEP.out _ (BELD2.out _ _) | exact KEEP.out _ (Below.like (BEL1.out _) rfl rfl rfl rfl) | exact KEEP.out _ (Below.like (BEL2.out _ _) rfl rfl rfl rfl) | exact KEEP.out _ hd5)) | ((try dsimp only); (first | exact KEEP.out _ BEL0.out | exact KEEP.out _ (BELD1.out _) | exact KEEP.out _ (BELD2.out _ _) | exact KEEP.out _ (Below.like (BEL1.out _) rfl rfl rfl rfl) | exact KEEP.out _ (Below.like (BEL2.out _ _) rfl rfl rfl rfl) | exact KEEP.out _ hd5))) (fun hHeld => ?_)
                  clear hK K
                  try simp only [Act.put, List.getElem_toArray, List.getElem_cons_succ, List.getElem_cons_zero, List.setIfInBounds_toArray, List.set_cons_succ, List.set_cons_zero]
                  refine wpAnyH_ready (rs := [28]) (by kernel_rfl) (by simp) ?_
                  refine AllReadyH.cons rfl (fun K hK => ?_) AllReadyH.nil
                  go_simp
                  go_at_call 15
                  refine (rsames_is (some ⟨_, 0, none⟩) (some ⟨_, 0, none⟩) 1 1 1 1 [⟨la, ln, lc, LL, ra, rn, rc, RR, 0⟩] [⟨la', ln', lc', LL', ra', rn', rc', RR', 0⟩] false _ (by first | exact (Rs.single ((HGX.out.alloc _).alloc _) ((RwAt.new wr ⟨la, ln, lc, LL, ra, rn, rc, RR, 0⟩ _).alloc _)).drew | exact (Rs.single ((HGX.out.alloc _).alloc _) (RwAt.second wr ⟨la, ln, lc, LL, ra, rn, rc, RR, 0⟩ _ _)).drew) (by first | exact (Rs.single ((HGY.out.alloc _).alloc _) (RwAt.second wr ⟨la', ln', lc', LL', ra', rn', rc', RR', 0⟩ _ _)).drew | exact (Rs.single ((HGY.out.alloc _).alloc _) ((RwAt.new wr ⟨la', ln', lc', LL', ra', rn', rc', RR', 0⟩ _).alloc _)).drew) (by rw [← HSM.out, decide_eq_decide]; simp [ruls, Rw.r])).mono ?_
                  rintro e w5 ⟨rfl, hq⟩
                  have hd5 : Below wr.heap.size wr w5 := below_drawn (below_drawn (BEL2.out _ _) ⟨1, rfl⟩) hq
                  clear hq
                  go_wp2_with fail
                  refine hK.out _ _ (by first | ((first | exact KEEP.out _ BEL0.out | exact KEEP.out _ (BELD1.out _) | exact KEEP.out _ (BELD2.out _ _) | exact KEEP.out _ (Below.like (BEL1.out _) rfl rfl rfl rfl) | exact KEEP.out _ (Below.like (BEL2.out _ _) rfl rfl rfl rfl) | exact KEEP.out _ hd5)) | ((try dsimp only); (first | exact KEEP.out _ BEL0.out | exact KEEP.out _ (BELD1.out _) | exact KEEP.out _ (BELD2.out _ _) | exact KEEP.out _ (Below.like (BEL1.out _) rfl rfl rfl rfl) | exact KEEP.out _ (Below.like (BEL2.out _ _) rfl rfl rfl rfl) | exact KEEP.out _ hd5))) (fun hHeld => ?_)
                  clear hK K
                  try simp only [Act.put, List.getElem_toArray, List.getElem_cons_succ, List.getElem_cons_zero, List.setIfInBounds_toArray, List.set_cons_succ, List.set_cons_zero]
                  refine wpAnyH_take (i := 29) (v := ?vz168) rfl (by kernel_rfl) (by kernel_rfl) (by kernel_rfl) (fun _ _ _ h => h) (Or.inl ⟨by rfl, ?hz168⟩) (by assumption) ?rz168
                  case hz168 => intro w hSw; (try dsimp only at hSw); go_simp; try with_reducible rfl
                  simp only [Act.put, List.getElem_toArray, List.getElem_cons_succ, List.getElem_cons_zero, List.setIfInBounds_toArray, List.set_cons_succ, List.set_cons_zero]
                  refine wpAnyH_take (i := 30) (v := undef) rfl (by kernel_rfl) (by kernel_rfl) (by kernel_rfl) (fun _ _ _ h => h) (Or.inr ⟨by rfl, rfl⟩) (by assumption) ?_
                  simp only [Act.put, List.getElem_toArray, List.getElem_cons_succ, List.getElem_cons_zero, List.setIfInBounds_toArray, List.set_cons_succ, List.set_cons_zero]
                  refine wpAnyH_take (i := 31) (v := undef) rfl (by kernel_rfl) (by kernel_rfl) (by kernel_rfl) (fun _ _ _ h => h) (Or.inr ⟨by rfl, rfl⟩) (by assumption) ?_
                  simp only [Act.put, List.getElem_toArray, List.getElem_cons_succ, List.getElem_cons_zero, List.setIfInBounds_toArray, List.set_cons_succ, List.set_cons_zero]
                  refine wpAnyH_take (i := 32) (v := undef) rfl (by kernel_rfl) (by kernel_rfl) (by kernel_rfl) (fun _ _ _ h => h) (Or.inr ⟨by rfl, rfl⟩) (by assumption) ?_
                  simp only [Act.put, List.getElem_toArray, List.getElem_cons_succ, List.getElem_cons_zero, List.setIfInBounds_toArray, List.set_cons_succ, List.set_cons_zero]
                  refine wpAnyH_take (i := 33) (v := undef) rfl (by kernel_rfl) (by kernel_rfl) (by kernel_rfl) (fun _ _ _ h => h) (Or.inr ⟨by rfl, rfl⟩) (by assumption) ?_
                  simp only [Act.put, List.getElem_toArray, List.getElem_cons_succ, List.getElem_cons_zero, List.setIfInBounds_toArray, List.set_cons_succ, List.set_cons_zero]
                  refine wpAnyH_take (i := 34) (v := undef) rfl (by kernel_rfl) (by kernel_rfl) (by kernel_rfl) (fun _ _ _ h => h) (Or.inr ⟨by rfl, rfl⟩) (by assumption) ?_
                  simp only [Act.put, List.getElem_toArray, List.getElem_cons_succ, List.getElem_cons_zero, List.setIfInBounds_toArray, List.set_cons_succ, List.set_cons_zero]
                  refine wpAnyH_take (i := 35) (v := undef) rfl (by kernel_rfl) (by kernel_rfl) (by kernel_rfl) (fun _ _ _ h => h) (Or.inr ⟨by rfl, rfl⟩) (by assumption) ?_
                  simp only [Act.put, List.getElem_toArray, List.getElem_cons_succ, List.getElem_cons_zero, List.setIfInBounds_toArray, List.set_cons_succ, List.set_cons_zero]
                  refine wpAnyH_take (i := 36) (v := undef) rfl (by kernel_rfl) (by kernel_rfl) (by kernel_rfl) (fun _ _ _ h => h) (Or.inr ⟨by rfl, rfl⟩) (by assumption) ?_
                  simp only [Act.put, List.getElem_toArray, List.getElem_cons_succ, List.getElem_cons_zero, List.setIfInBounds_toArray, List.set_cons_succ, List.set_cons_zero]
                  refine wpAnyH_take (i := 37) (v := undef) rfl (by kernel_rfl) (by kernel_rfl) (by kernel_rfl) (fun _ _ _ h => h) (Or.inr ⟨by rfl, rfl⟩) (by assumption) ?_
                  simp only [Act.put, List.getElem_toArray, List.getElem_cons_succ, List.getElem_cons_zero, List.setIfInBounds_toArray, List.set_cons_succ, List.set_cons_zero]
                  refine wpAnyH_take (i := 38) (v := undef) rfl (by kernel_rfl) (by kernel_rfl) (by kernel_rfl) (fun _ _ _ h => h) (Or.inr ⟨by rfl, rfl⟩) (by assumption) ?_
                  simp only [Act.put, List.getElem_toArray, List.getElem_cons_succ, List.getElem_cons_zero, List.setIfInBounds_toArray, List.set_cons_succ, List.set_cons_zero]
                  refine wpAnyH_take (i := 39) (v := undef) rfl (by kernel_rfl) (by kernel_rfl) (by kernel_rfl) (fun _ _ _ h => h) (Or.inr ⟨by rfl, rfl⟩) (by assumption) ?_
                  simp only [Act.put, List.getElem_toArray, List.getElem_cons_succ, List.getElem_cons_zero, List.setIfInBounds_toArray, List.set_cons_succ, List.set_cons_zero]
                  refine wpAnyH_take (i := 40) (v := undef) rfl (by kernel_rfl) (by kernel_rfl) (by kernel_rfl) (fun _ _ _ h => h) (Or.inr ⟨by rfl, rfl⟩) (by assumption) ?_
                  simp only [Act.put, List.getElem_toArray, List.getElem_cons_succ, List.getElem_cons_zero, List.setIfInBounds_toArray, List.set_cons_succ, List.set_cons_zero]
                  refine wpAnyH_take (i := 41) (v := undef) rfl (by kernel_rfl) (by kernel_rfl) (by kernel_rfl) (fun _ _ _ h => h) (Or.inr ⟨by rfl, rfl⟩) (by assumption) ?_
                  simp only [Act.put, List.getElem_toArray, List.getElem_cons_succ, List.getElem_cons_zero, List.setIfInBounds_toArray, List.set_cons_succ, List.set_cons_zero]
                  refine wpAnyH_take (i := 42) (v := ?vz195) rfl (by kernel_rfl) (by kernel_rfl) (by kernel_rfl) (fun _ _ _ h => h) (Or.inl ⟨by rfl, ?hz195⟩) (by assumption) ?rz195
                  case hz195 => intro w hSw; (try dsimp only at hSw); go_simp; try with_reducible rfl
                  simp only [Act.put, List.getElem_toArray, List.getElem_cons_succ, List.getElem_cons_zero, List.setIfInBounds_toArray, List.set_cons_succ, List.set_cons_zero]
                  refine wpAnyH_take (i := 43) (v := ?vz198) rfl (by kernel_rfl) (by kernel_rfl) (by kernel_rfl) (fun _ _ _ h => h) (Or.inl ⟨by rfl, ?hz198⟩) (by assumption) ?rz198
                  case hz198 => intro w hSw; (try dsimp only at hSw); go_simp; try with_reducible rfl
                  simp only [Act.put, List.getElem_toArray, List.getElem_cons_succ, List.getElem_cons_zero, List.setIfInBounds_toArray, List.set_cons_succ, List.set_cons_zero]
                  refine wpAnyH_take (i := 44) (v := ?vz201) rfl (by kernel_rfl) (by kernel_rfl) (by kernel_rfl) (fun _ _ _ h => h) (Or.inl ⟨by rfl, ?hz201⟩) (by assumption) ?rz201
                  case hz201 => intro w hSw; (try dsimp only at hSw); go_simp; try with_reducible rfl
                  simp only [Act.put, List.getElem_toArray, List.getElem_cons_succ, List.getElem_cons_zero, List.setIfInBounds_toArray, List.set_cons_succ, List.set_cons_zero]
                  refine wpAnyH_done (by kernel_rfl) ?_ _
                  have HD5 : Hid (Below W1.heap.size W1 w5) := HB.out.trans (hd5.mono HB.out.size)
                  clear hd5
                  go_wp2
                  go_roundw
                  case rel => exact ⟨k + 1, false, by omega, by go_num, rfl, HQ.out, HD5.out⟩
                  case measure => simp [intOf]; omega

            · have HQ : Hid (true = ((ruls xs2).take (k + 1)).any fun s => decide (s.like ⟨LL, RR, C⟩) && decide (s.C ≤ C)) := by
                have h := HNX.out _ rfl
                rwa [Bool.true_or] at h
              clear hsl' hsr' hz2 HNX hy1 hy2 hy3
              go_wp2
              go_quiet (fail)
              go_wp2
              go_roundw
              case rel => exact ⟨k + 1, true, by omega, by go_num, rfl, HQ.out, (by exact below_drawn HB.out ⟨_, rfl⟩)⟩
              case measure => simp [intOf]; omega
          · obtain rfl : k = n2 := by omega
            have hh : h = true := by
              rw [HH.out, List.take_of_length_le (by rw [ruls_length, HY2.out.1]; exact Nat.le_refl _), List.any_eq_true]
              have hjl : i < (ruls xsA).length := by rw [ruls_length, HA.out.1]; exact hlt
              have h1 := ruls_at xsA i
              rw [HZ1.out, List.getD_eq_getElem?_getD, List.getElem?_eq_getElem hjl, Option.getD_some] at h1
              obtain ⟨s, hs, hsl, hsC⟩ := HALL.out ⟨LL, RR, C⟩ (by rw [← show _ = (⟨LL, RR, C⟩ : Rul) from h1]; exact List.getElem_mem _)
              exact ⟨s, hs, by simp [hsl]; exact hsC⟩
            subst hh
            have HB5 : Hid (Below wQ2.heap.size wQ2 wr) := HBO.out.trans (HB.out.mono HBO.out.size)
            clear HB HH
            go_wp2
            go_roundw
            case rel => exact ⟨i + 1, by omega, by go_num, HB5.out⟩
            case measure => simp [intOf]; omega
      · obtain rfl : i = nA := by omega
        have hdd : Below wQ2.heap.size wQ2 wr.drew := below_drawn HB.out ⟨1, rfl⟩
        have HBF : Hid (Below w.heap.size w wr) := HBQ.out.trans (HB.out.mono HBQ.out.size)
        go_wp2
        go_quiet (fail)
        go_wp2
        go_ret
        exact ⟨rfl, (by exact below_drawn HBF.out ⟨_, rfl⟩)⟩

set_option maxRecDepth 100000 in
theorem lifted (os : Os) (started : os.Started) (H : Type) (enc : TypeId × Value → H) :
    ReturnsInHanded {} Try.checked os 5 .any (Rows.rulesCheapSpec.pre6 enc Try.prog Try.f5 Rows.rulesCheapRow.domain false) (Rows.rulesCheapSpec.post enc Try.prog Try.f5 false true false false) := by
  refine returnsInHanded_of_change (C := Try.checked) own started (by kernel_rfl) Try.func5
    (ChangeSpec.witness6 (enc := enc) (C := Try.checked) false ⟨#[], #[.slice none 0 0, .slice none 0 0], []⟩ 8 (by kernel_rfl) (by kernel_rfl) (by kernel_rfl) (by kernel_rfl)) ?_
  intro W base args ds gs before hval0 hW hcnd _
  have hval : ∀ (j : Nat) t v, Try.f5.params[j]? = some t → args[j]? = some v → Value.okWide Try.prog W .any base t v := hval0
  have hW' := hW
  obtain ⟨p, q, hA0, hV, rfl, hfz, hnd⟩ := hW
  have hA : DataW.TrodAll enc Try.prog W 0 (fun _ => true) true Try.f5.params.toList args.toList ds p := hA0
  rw [Try.params5] at hA hval
  obtain ⟨v0, vs0, d0, ds0, p0, q0, hargs, rfl, rfl, h0, r0⟩ := trodAll_cons hA
  obtain ⟨v1, vs1, d1, ds1, p1, q1, rfl, rfl, rfl, h1, r1⟩ := trodAll_cons r0
  obtain ⟨rfl, rfl, rfl⟩ := trodAll_nil r1
  obtain rfl : args = #[v0, v1] := by cases args; simp_all
  obtain ⟨rfl, rfl⟩ := trodVars_none hV
  obtain ⟨a0, len0, cap0, rfl⟩ := okWide_slice Try.underlying22 (hval 0 22 v0 rfl rfl)
  have k0 := h0
  have lt0 : ∀ x ∈ p0, x.block < W.heap.size := by obtain ⟨m, hm⟩ := k0; exact DataW.trod_lt m _ _ _ hm
  obtain ⟨z0, w0⟩ : ∃ zs, IsRow .u8 W a0 len0 cap0 zs := by
    obtain ⟨fuel, hf⟩ := h0
    rcases open_ints Try.underlying22 Try.underlying5 (by kernel_rfl) hf with ⟨hcs, _⟩ | ⟨x, l, c, zs, hcs, _, hl, hm, hz, _, hcell, hwz⟩
    · simp [Value.cells] at hcs
      obtain ⟨rfl, rfl, rfl⟩ := hcs
      exact ⟨[], .inl ⟨rfl, rfl, rfl, rfl⟩⟩
    · simp [Value.cells] at hcs
      obtain ⟨rfl, rfl, rfl⟩ := hcs
      exact ⟨zs, .inr ⟨_, rfl, hl, hm, by simpa using hz, hcell, hwz⟩⟩
  obtain ⟨a1, len1, cap1, rfl⟩ := okWide_slice Try.underlying22 (hval 1 22 v1 rfl rfl)
  have k1 := h1
  have lt1 : ∀ x ∈ p1, x.block < W.heap.size := by obtain ⟨m, hm⟩ := k1; exact DataW.trod_lt m _ _ _ hm
  obtain ⟨z1, w1⟩ : ∃ zs, IsRow .u8 W a1 len1 cap1 zs := by
    obtain ⟨fuel, hf⟩ := h1
    rcases open_ints Try.underlying22 Try.underlying5 (by kernel_rfl) hf with ⟨hcs, _⟩ | ⟨x, l, c, zs, hcs, _, hl, hm, hz, _, hcell, hwz⟩
    · simp [Value.cells] at hcs
      obtain ⟨rfl, rfl, rfl⟩ := hcs
      exact ⟨[], .inl ⟨rfl, rfl, rfl, rfl⟩⟩
    · simp [Value.cells] at hcs
      obtain ⟨rfl, rfl, rfl⟩ := hcs
      exact ⟨zs, .inr ⟨_, rfl, hl, hm, by simpa using hz, hcell, hwz⟩⟩
  clear hA0 hval0
  refine (walk a0 len0 cap0 z0 a1 len1 cap1 z1 W w0 w1).mono fun e W' ⟨he, bel⟩ => ?_
  subst he
  exact ⟨_, rfl, _, _, _, [], _, [], hW', trodAll_mk1 (shut_bool Try.underlying4 _), (trodAll_cons_mk (Below.trod laidOut (by kernel_rfl) (of_decide_eq_true (by kernel_rfl)) k0 bel lt0) (trodAll_cons_mk (Below.trod laidOut (by kernel_rfl) (of_decide_eq_true (by kernel_rfl)) k1 bel lt1) trodAll_mk0)), rfl, bel.frame _, fun h => by cases h⟩

theorem over : Rows.rulesCheapRow.holds Try.pinned (OpenSpec.ofChange Rows.rulesCheapSpec) :=
  OpenClaim.holds_of_wide 5 Try.f5 rfl rfl rfl rfl rfl rfl rfl ⟨rfl, rfl, rfl, rfl, rfl⟩ rfl rfl rfl rfl rfl (by kernel_rfl) Try.func5 (by kernel_rfl)
    (of_decide_eq_true (by kernel_rfl)) (by unfold Func.isWrapper; first | (rw [if_pos (by decide +kernel)]; kernel_rfl) | (rw [if_neg (by decide +kernel)]; exact ⟨rfl, rfl⟩))
    (fun os started H enc _ => lifted os started H enc)

/-- the statement -/
theorem proved : Rows.RulesCheapSaid := over
#print axioms proved
end Go.Proofs.Ytdondndalpmdgaa.rulesCheap
