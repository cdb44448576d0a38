/- For all words, TrieApart answers true, and turns nothing that was there. No condition. -/
import Derived.Test.YtehdojhblekgeaaRows
import Derived.Test.YtehdojhblekgeaaTrieAwake
import Derived.Test.YtehdojhblekgeaaTrieLawS
import Derived.Test.YtehdojhblekgeaaTrieProg
import Derived.Test.YtehdojhblekgeaaPackA
import Derived.Test.YtehdojhblekgeaaOrderWalkA
import Derived.Test.YtehdojhblekgeaaOrderWalkB
import Derived.WalkKit
import Derived.ProofKit
import Derived.OpenShut
import Derived.ShutString
import Derived.ChangeOld
import Derived.Below
import Derived.Deep.Matrix
import Derived.SizedLaws
namespace Go.Proofs.Ytehdojhblekgeaa.trieApart
open Go.ChangeShapes Go.WideShapes Go.ChangeAt Go.RowKit
set_option linter.unusedVariables false

theorem own : ownKnob Try.prog.godebug = none := by kernel_rfl
theorem laidOut : laidOutB Try.prog = true := by kernel_rfl

/-- a slice of integers that came in -/
def IsRow (k : IntKind) (w : World) (a : Option Addr) (len cap : Nat) (zs : List Int) : Prop :=
  (a = none ∧ len = 0 ∧ cap = 0 ∧ zs = []) ∨
  ∃ x, a = some x ∧ len ≤ cap ∧ cap ≤ maxLen ∧ zs.length = cap ∧ (∀ i, i < zs.length → w.cell? (x.add i) = some (.int k (zs.getD i 0))) ∧ ∀ n ∈ zs, (Lit.int k n).wf = true

open Tri
theorem made_ok {ws : List (List Int)} (h : (made ws).2 = 0) : ws.length ≤ 300 ∧ (∀ z ∈ ws, Wl.fit z = true) ∧ Rise ws ∧ made ws = (make ws, 0) := by
  unfold made at h ⊢
  by_cases he : (Wl.write ws).2 = 0
  · rw [if_pos he]
    rcases Wl.write_err ws with ⟨_, h1, h2, h3, _⟩ | ⟨h1, _⟩
    · exact ⟨h1, h2, h3, rfl⟩
    · exact absurd he h1
  · rw [if_neg he] at h; exact absurd h he
theorem short_fit {ws : List (List Int)} (h : ∀ z ∈ ws, Wl.fit z = true) : Tri.Short ws := fun z hz => (Wl.fit_parts (h z hz)).2.1
theorem good_fit {ws : List (List Int)} (h : ∀ z ∈ ws, Wl.fit z = true) : ∀ w ∈ ws, Utf.allGood w = true := fun z hz => (Wl.fit_parts (h z hz)).2.2.1
theorem owns_seti {w : World} {B g n c : Nat} {xs : List Int} (h : w.ownsRow B 3 1 (.slice (some ⟨g, 0, none⟩) n c) n (xs.map (Value.int .i64))) (j : Nat) (z : Int) :
    (w.setCell ⟨g, j, none⟩ (.int .i64 z)).ownsRow B 3 1 (.slice (some ⟨g, 0, none⟩) n c) n ((xs.set j z).map (Value.int .i64)) := by
  have := (h.stored j (.int .i64 z)).1
  simpa [List.map_set] using this
theorem owns_into (w : World) (n : Nat) (hn : n ≤ 100000) : (w.alloc (.cells (madeCells #[.int .i64 0] n) 3)).ownsRow w.heap.size 3 1 (.slice (some ⟨w.heap.size, 0, none⟩) n n) n ((List.replicate n (0 : Int)).map (Value.int .i64)) := by
  have h := World.ownsRow_lit (base := w.heap.size) (e := 3) (size := 1) w (madeCells #[.int .i64 0] n) n (Nat.le_refl _) (by unfold maxLen; omega) (by simp [madeCells])
  have e : (madeCells #[Value.int .i64 0] n).toList = (List.replicate n (0 : Int)).map (Value.int .i64) := by
    apply List.ext_getElem
    · simp [madeCells]
    · intro i h1 h2
      simp [madeCells, Nat.mod_one]
  rw [← e]; exact h
/-- how many states the first words have -/
def Cnt (ws : List (List Int)) (i m : Nat) : Prop := 1 + (preA [] (ws.take i)).length = m
theorem Cnt.first {ws : List (List Int)} {m : Nat} {z : List Int} (h : Cnt ws 0 m) (hr : Rise ws) (hi : 0 < ws.length) (hz : ws.getD 0 [] = z) : Cnt ws 1 (m + z.length) := by
  unfold Cnt at *
  have := count_step hr hi
  rw [hz, if_pos rfl] at this
  simp only [Nat.zero_add] at this
  omega
theorem Cnt.next {ws : List (List Int)} {i m c : Nat} {z y : List Int} (h : Cnt ws (i + 1) m) (hr : Rise ws) (hi : i + 1 < ws.length) (hz : ws.getD (i + 1) [] = z) (hy : ws.getD i [] = y) (hc : common z y = c) : Cnt ws (i + 1 + 1) (m + z.length - c) := by
  unfold Cnt at *
  have := count_step hr hi
  rw [hz, if_neg (by omega), Nat.add_sub_cancel, hy, hc] at this
  have h2 := (common_le z y).1
  omega
theorem Cnt.le {ws : List (List Int)} {i m : Nat} (h : Cnt ws i m) (hs : Tri.Short ws) (hl : ws.length ≤ 60) : m ≤ 1201 := by
  unfold Cnt at h
  have h1 := pre_le hs i
  have h2 := List.length_take_le i ws
  have h3 := List.length_take_le' i ws
  omega
/-- what the second loop has counted -/
structure Tal (ws : List (List Int)) (i F A : Nat) (cs : List Int) (n : Nat) : Prop where
  fin : ((make ws).take i).countP (fun s => s.final) = F
  arc : (tos ((make ws).take i)).length = A
  seen : Seen (tos ((make ws).take i)) cs n
theorem Tal.zero (ws : List (List Int)) (n : Nat) : Tal ws 0 0 0 (List.replicate n 0) n := ⟨rfl, rfl, Seen.none n⟩
theorem Tal.more {ws : List (List Int)} {i F A n : Nat} {cs cs2 : List Int} {s : St} (h : Tal ws i F A cs n) (hi : i < (begs ws).length) (hs : (make ws).getD i St.no = s) (hc : Seen (tos ((make ws).take i) ++ s.arcs.map fun a => a.2) cs2 n) : Tal ws (i + 1) (F + if s.final then 1 else 0) (A + s.arcs.length) cs2 n := by
  have hl : i < (make ws).length := by rw [make_length]; exact hi
  refine ⟨?_, ?_, ?_⟩
  · rw [finals_step hl hs, h.fin]
  · rw [tos_step hl hs, List.length_append, h.arc, List.length_map]
  · rw [tos_step hl hs]; exact hc
theorem Tal.bound {ws : List (List Int)} {i F A n : Nat} {cs : List Int} (h : Tal ws i F A cs n) (hs : Tri.Short ws) : A ≤ (begs ws).length - 1 := by
  rw [← h.arc]; exact tos_le hs i
theorem Tal.done {ws : List (List Int)} {F A n : Nat} {cs : List Int} (h : Tal ws (begs ws).length F A cs n) (hs : Tri.Short ws) (hr : Rise ws) : F = ws.length ∧ A = (begs ws).length - 1 := by
  have h1 := h.fin
  have h2 := h.arc
  rw [← make_length, List.take_length] at h1 h2
  rw [finals_count hs hr] at h1
  rw [tos_length hs] at h2
  exact ⟨h1.symm, h2.symm⟩

/-! ### STEP 1: the walk -/
set_option maxHeartbeats 6400000 in
set_option maxRecDepth 100000 in
theorem walk (a0 : Option Addr) (len0 cap0 : Nat) (x0 : List Wd) (w : World) (w0 : Ws w a0 len0 cap0 x0) (n0 : a0 = none → cap0 = 0) :
    Calls Try.prog 5 #[.slice a0 len0 cap0] w fun e w' => e = .returned (.bool true) ∧ Below w.heap.size w w' := by
  have hcm0 := w0.2.2.1
  have hnc0 := w0.2.1
  unfold maxLen at hcm0
  have HX0 := Lib.hid w0
  have HXN0 := Lib.hid n0
  clear w0 n0
  obtain ⟨⟨gl, ge⟩, hg⟩ : ∃ g, made (nums x0) = g := ⟨_, rfl⟩
  have HG := Lib.hid hg
  clear hg
  go_enter Try.func5, Try.ntmps5
  go_wp2_with fail
  refine (awake_any _).mono ?_
  rintro e v1 ⟨rfl, B1⟩
  have X1 := Lib.hid (HX0.out.below B1 (Nat.le_refl _))
  go_wp2_with fail
  refine (small_is a0 len0 cap0 x0 _ X1.out).mono ?_
  rintro e v3 ⟨he, rfl⟩
  rcases he with rfl | ⟨rfl, -, hn60⟩
  · go_wp2
    go_ret
    exact ⟨rfl, B1⟩
  go_wp2_with fail
  refine (tmake_is a0 len0 cap0 x0 _ _ X1.out HXN0.out HG.out).mono ?_
  rintro e v4 ⟨p4, n4, c4, y4, rfl, hs4, hst4, -, hb4⟩
  have B4 := B1.trans (hb4.mono B1.size)
  have X4 := Lib.hid (X1.out.below hb4 (Nat.le_refl _))
  have Y4 := Lib.hid hs4
  have T4' : Hid (sts y4 = gl) := hst4
  clear hb4 hs4 hst4
  simp only []
  by_cases hge : ge = 0
  · subst hge
    have HOK := Lib.hid (made_ok (ws := nums x0) (by rw [HG.out]))
    have T4 : Hid (sts y4 = make (nums x0)) := by have h := HOK.out.2.2.2; rw [HG.out] at h; show _ = _; rw [T4'.out]; exact congrArg Prod.fst h
    have HSH : Hid (Tri.Short (nums x0)) := short_fit HOK.out.2.1
    have HGD : Hid (∀ w ∈ nums x0, Utf.allGood w = true) := good_fit HOK.out.2.1
    have HRI : Hid (Rise (nums x0)) := HOK.out.2.2.1
    have HLX : Hid ((nums x0).length = len0) := by show _ = _; rw [nums_length, X4.out.1]
    have HBN : Hid ((begs (nums x0)).length = n4) := by show _ = _; rw [← make_length, ← T4.out, sts_length, Y4.out.1]
    have hn4 : n4 ≤ 1201 := by have h := begs_le (nums x0); rw [HLX.out, HBN.out] at h; omega
    have hn41 : 1 ≤ n4 := by have h := begs_pos (nums x0); rw [HBN.out] at h; exact h
    have hmk := run_make_row' (P := Try.prog) 35 3 (.int .i64 0) 8 Try.underlying35 info_int rfl .i64 .i64 n4 (by omega) (by omega)
    clear T4' HG
    go_wp2
    go_loopw [6, 9] (fun nv ix wr => ∃ (i m : Nat), i ≤ len0 ∧ nv = .int .i64 (m : Int) ∧ ix = .int .i64 (i : Int) ∧ Hid (Cnt (nums x0) i m) ∧ Hid (∃ q, wr = v4.drewN q)) (fun _ ix _ => len0 - (intOf ix).toNat)
    case atStart => exact ⟨0, 1, Nat.zero_le _, rfl, rfl, rfl, ⟨0, rfl⟩⟩
    case round =>
      obtain ⟨i, m, hi, rfl, rfl, HM, HQ⟩ := hrel
      have hm : m ≤ 1201 := HM.out.le HSH.out (by rw [HLX.out]; omega)
      by_cases hlt : i < len0
      · obtain ⟨b1, o1, za, zn, zc, z, rfl, hb1, hgd, hcl, hsl, hz⟩ := (X4.out.drawn HQ.out).one i hlt
        have HSL := Lib.hid hsl
        have hlti : (i : Int) < (len0 : Int) := by omega
        have hzl : z.length = zn := hsl.1
        have hzn : zn ≤ 20 := by
          rw [← hzl, ← hz]
          exact HSH.out _ (by rw [List.getD_eq_getElem?_getD, List.getElem?_eq_getElem (by rw [HLX.out]; exact hlt), Option.getD_some]; exact List.getElem_mem _)
        have HZL := Lib.hid hzl
        have HZ := Lib.hid hz
        have hw1 : IntKind.i64.wrap ((m : Int) + (zn : Int)) = (m : Int) + (zn : Int) := by rw [IntKind.wrap_i64]; omega
        clear hgd hb1 hsl hz hzl
        rcases i with _ | j
        · have HN : Hid (Cnt (nums x0) 1 (m + zn)) := by
            have h := HM.out.first HRI.out (by rw [HLX.out]; exact hlt) HZ.out
            rw [HZL.out] at h; exact h
          simp only [Nat.add_zero] at hcl
          go_wp2
          go_roundw
          case rel => exact ⟨1, m + zn, by omega, by go_num, by go_num, HN.out, HQ.out⟩
          case measure => simp [intOf]; omega
        · obtain ⟨b2, o2, ya, yn, yc, y, hab, -, -, hcl2, hsl2, hy⟩ := (X4.out.drawn HQ.out).one j (by omega)
          cases hab
          have HSL2 := Lib.hid hsl2
          obtain ⟨c, hc⟩ : ∃ c, common z y = c := ⟨_, rfl⟩
          have hcz : c ≤ zn := by have h := (common_le z y).1; rw [hc, HZL.out] at h; exact h
          have HC := Lib.hid hc
          have HN : Hid (Cnt (nums x0) (j + 1 + 1) (m + zn - c)) := by
            have h := HM.out.next HRI.out (by rw [HLX.out]; exact hlt) HZ.out hy hc
            rw [HZL.out] at h; exact h
          have hw2 : IntKind.i64.wrap ((m : Int) + (zn : Int) - (c : Int)) = (m : Int) + (zn : Int) - (c : Int) := by rw [IntKind.wrap_i64]; omega
          have hjl : (j : Int) < (len0 : Int) := by omega
          clear hsl2 hy hc
          go_wp2
          go_quiet ((go_at_call 19; exact Calls.quiet_of (common_is za ya zn yn zc yc z y c _ HSL.out HSL2.out HC.out)))
          go_wp2
          go_roundw
          case rel => exact ⟨j + 1 + 1, m + zn - c, by omega, by go_num, by go_num, HN.out, by obtain ⟨q, rfl⟩ := HQ.out; exact ⟨_, World.drewN_drewN _ _ _⟩⟩
          case measure => simp [intOf]; omega
      · obtain rfl : len0 = i := by omega
        obtain rfl : m = n4 := by
          have h := HM.out
          unfold Cnt at h
          rw [List.take_of_length_le (by rw [HLX.out]; exact Nat.le_refl _), ← begs_length HSH.out, HBN.out] at h
          exact h.symm
        have B5 := below_drawn B4 HQ.out
        obtain ⟨wo, hwo⟩ : ∃ x, x = wr := ⟨_, rfl⟩
        subst hwo
        have YW := Lib.hid (Y4.out.drawn HQ.out)
        have HOI := Lib.hid (owns_into wo m (by omega))
        have HBI : Hid (Below wo.heap.size wo (wo.alloc (.cells (madeCells #[.int .i64 0] m) 3))) := (Below.refl _ wo).alloc (Nat.le_refl _) _
        go_wp2
        go_loopw [7, 8, 11] (fun fv av ix wn => ∃ (i F A : Nat) (cs : List Int), i ≤ m ∧ fv = .int .i64 (F : Int) ∧ av = .int .i64 (A : Int) ∧ ix = .int .i64 (i : Int) ∧ F ≤ i ∧ A < m ∧ Hid (Tal (nums x0) i F A cs m) ∧ Hid (wn.ownsRow wo.heap.size 3 1 (.slice (some ⟨wo.heap.size, 0, none⟩) m m) m (cs.map (Value.int .i64))) ∧ Hid (Below wo.heap.size wo wn)) (fun _ _ ix _ => m - (intOf ix).toNat)
        case atStart => exact ⟨0, 0, 0, _, Nat.zero_le _, rfl, rfl, rfl, Nat.le_refl _, by omega, Tal.zero _ _, HOI.out, HBI.out⟩
        case round =>
          obtain ⟨wn, hwn⟩ : ∃ x, x = wr := ⟨_, rfl⟩
          subst hwn
          obtain ⟨i, F, A, cs, hi2, rfl, rfl, rfl, hFi, hAn, HTAL, HOW, HB2⟩ := hrel
          by_cases hlt : i < m
          · obtain ⟨b1, o1, f, sa, sn, sc, arcs, rfl, hbl, hcf, hcs, har, hyi⟩ := YW.out.one i hlt
            have hcfn : wn.cell? ⟨b1, o1 + i * 2, none⟩ = some (.bool f) := by
              rw [HB2.out.cell (p := ⟨b1, o1 + i * 2, none⟩) hbl]; exact hcf
            have hcsn : wn.cell? ⟨b1, o1 + i * 2 + 1, none⟩ = some (.slice sa sn sc) := by
              rw [HB2.out.cell (p := ⟨b1, o1 + i * 2 + 1, none⟩) hbl]; exact hcs
            have HBL := Lib.hid hbl
            have HCS := Lib.hid hcs
            have HARS := Lib.hid har
            have HST : Hid ((make (nums x0)).getD i St.no = ⟨f, arcs⟩) := by
              show _ = _
              rw [← T4.out, sts_at, hyi]; rfl
            have hmi : (i : Int) < (m : Int) := by omega
            have hAs : A + sn < m := by
              have h := tos_le HSH.out (i + 1)
              rw [tos_step (by rw [make_length, HBN.out]; exact hlt) HST.out, List.length_append, HTAL.out.arc, List.length_map, HBN.out] at h
              have e : (⟨f, arcs⟩ : St).arcs.length = sn := har.1
              rw [e] at h; omega
            have HAS := Lib.hid hAs
            have hw1 : IntKind.i64.wrap ((A : Int) + (sn : Int)) = (A : Int) + (sn : Int) := by rw [IntKind.wrap_i64]; omega
            clear hbl hcf hcs har hyi
            cases f
            · have HF : Hid (F ≤ i) := hFi
              go_wp2
              go_loopw [12] (fun kx w3 => ∃ (k : Nat) (cs3 : List Int), k ≤ sn ∧ kx = .int .i64 (k : Int) ∧ Hid (Seen (tos ((make (nums x0)).take i) ++ (arcs.take k).map fun a => a.2) cs3 m) ∧ Hid (w3.ownsRow wo.heap.size 3 1 (.slice (some ⟨wo.heap.size, 0, none⟩) m m) m (cs3.map (Value.int .i64))) ∧ Hid (Below wo.heap.size wo w3)) (fun kx _ => sn - (intOf kx).toNat)
              case atStart => exact ⟨0, cs, Nat.zero_le _, rfl, (by show Seen _ _ _; simpa using HTAL.out.seen), HOW.out, HB2.out⟩
              case round =>
                obtain ⟨k, cs3, hk, rfl, HSE, HO3, HB3⟩ := hrel
                have hc2 : wr.cell? ⟨b1, o1 + i * 2 + 1, none⟩ = some (.slice sa sn sc) := by
                  rw [HB3.out.cell (p := ⟨b1, o1 + i * 2 + 1, none⟩) HBL.out]; exact HCS.out
                by_cases hkl : k < sn
                · obtain ⟨b2, o2, s, t, rfl, hb2, hcs2, hct, hws, hwt, hst⟩ := HARS.out.one k hkl
                  have hct3 : wr.cell? ⟨b2, o2 + k * 2 + 1, none⟩ = some (.int .i64 t) := by
                    rw [HB3.out.cell (p := ⟨b2, o2 + k * 2 + 1, none⟩) hb2]; exact hct
                  obtain ⟨tn, rfl, hin, htl, htn⟩ := arc_new HSH.out HGD.out (by rw [HBN.out]; exact hlt) HST.out (by show k < arcs.length; rw [HARS.out.1]; exact hkl) hst
                  rw [HBN.out] at htl
                  have hz0 := HSE.out.zero htl htn
                  have hcn : wr.cell? ⟨wo.heap.size, tn, none⟩ = some (.int .i64 0) := by
                    rw [HO3.out.cellAt tn (by omega)]
                    simp [List.getD_eq_getElem?_getD, show tn < cs3.length by rw [HSE.out.1]; exact htl] at hz0 ⊢
                    exact hz0
                  have hfr : wr.frozen? ⟨wo.heap.size, tn, none⟩ = false := HO3.out.frozenAt tn
                  have HS1 : Hid (Seen (tos ((make (nums x0)).take i) ++ (arcs.take (k + 1)).map fun a => a.2) (cs3.set tn 1) m) := by
                    have h := HSE.out.next htl
                    rw [arcs_step (by rw [HARS.out.1]; exact hkl) hst, List.map_append, ← List.append_assoc]
                    exact h
                  have HO4 := Lib.hid (owns_seti HO3.out tn 1)
                  have HB4 : Hid (Below wo.heap.size wo (wr.setCell ⟨wo.heap.size, tn, none⟩ (.int .i64 1))) := HB3.out.setCell (p := ⟨wo.heap.size, tn, none⟩) (Nat.le_refl _) _
                  have hkli : (k : Int) < (sn : Int) := by omega
                  have ht1 : decide ((tn : Int) ≤ (i : Int)) = false := decide_eq_false (by omega)
                  have ht2 : decide ((tn : Int) ≥ (m : Int)) = false := decide_eq_false (by omega)
                  have ht3 : (tn : Int) < (m : Int) := by omega
                  clear hb2 hcs2 hct hws hwt hst hz0 htn
                  go_wp2
                  all_goals (try omega)
                  go_roundw
                  case rel => exact ⟨k + 1, cs3.set tn 1, by omega, by go_num, HS1.out, HO4.out, HB4.out⟩
                  case measure => simp [intOf]; omega
                · obtain rfl : sn = k := by omega
                  have HT2 : Hid (Tal (nums x0) (i + 1) (F) (A + sn) cs3 m) := by
                    have hS := HSE.out
                    rw [List.take_of_length_le (l := arcs) (by rw [HARS.out.1]; exact Nat.le_refl _)] at hS
                    have h := HTAL.out.more (s := ⟨false, arcs⟩) (by rw [HBN.out]; exact hlt) HST.out hS
                    have e : (⟨false, arcs⟩ : St).arcs.length = sn := HARS.out.1
                    rw [e] at h; exact h
                  go_wp2
                  go_roundw
                  case rel => exact ⟨i + 1, F, A + sn, cs3, by omega, by go_num, by go_num, by go_num, by (have := HF.out; omega), HAS.out, HT2.out, HO3.out, HB3.out⟩
                  case measure => simp [intOf]; omega
            · have HF : Hid (F ≤ i) := hFi
              go_wp2
              go_loopw [12] (fun kx w3 => ∃ (k : Nat) (cs3 : List Int), k ≤ sn ∧ kx = .int .i64 (k : Int) ∧ Hid (Seen (tos ((make (nums x0)).take i) ++ (arcs.take k).map fun a => a.2) cs3 m) ∧ Hid (w3.ownsRow wo.heap.size 3 1 (.slice (some ⟨wo.heap.size, 0, none⟩) m m) m (cs3.map (Value.int .i64))) ∧ Hid (Below wo.heap.size wo w3)) (fun kx _ => sn - (intOf kx).toNat)
              case atStart => exact ⟨0, cs, Nat.zero_le _, rfl, (by show Seen _ _ _; simpa using HTAL.out.seen), HOW.out, HB2.out⟩
              case round =>
                obtain ⟨k, cs3, hk, rfl, HSE, HO3, HB3⟩ := hrel
                have hc2 : wr.cell? ⟨b1, o1 + i * 2 + 1, none⟩ = some (.slice sa sn sc) := by
                  rw [HB3.out.cell (p := ⟨b1, o1 + i * 2 + 1, none⟩) HBL.out]; exact HCS.out
                by_cases hkl : k < sn
                · obtain ⟨b2, o2, s, t, rfl, hb2, hcs2, hct, hws, hwt, hst⟩ := HARS.out.one k hkl
                  have hct3 : wr.cell? ⟨b2, o2 + k * 2 + 1, none⟩ = some (.int .i64 t) := by
                    rw [HB3.out.cell (p := ⟨b2, o2 + k * 2 + 1, none⟩) hb2]; exact hct
                  obtain ⟨tn, rfl, hin, htl, htn⟩ := arc_new HSH.out HGD.out (by rw [HBN.out]; exact hlt) HST.out (by show k < arcs.length; rw [HARS.out.1]; exact hkl) hst
                  rw [HBN.out] at htl
                  have hz0 := HSE.out.zero htl htn
                  have hcn : wr.cell? ⟨wo.heap.size, tn, none⟩ = some (.int .i64 0) := by
                    rw [HO3.out.cellAt tn (by omega)]
                    simp [List.getD_eq_getElem?_getD, show tn < cs3.length by rw [HSE.out.1]; exact htl] at hz0 ⊢
                    exact hz0
                  have hfr : wr.frozen? ⟨wo.heap.size, tn, none⟩ = false := HO3.out.frozenAt tn
                  have HS1 : Hid (Seen (tos ((make (nums x0)).take i) ++ (arcs.take (k + 1)).map fun a => a.2) (cs3.set tn 1) m) := by
                    have h := HSE.out.next htl
                    rw [arcs_step (by rw [HARS.out.1]; exact hkl) hst, List.map_append, ← List.append_assoc]
                    exact h
                  have HO4 := Lib.hid (owns_seti HO3.out tn 1)
                  have HB4 : Hid (Below wo.heap.size wo (wr.setCell ⟨wo.heap.size, tn, none⟩ (.int .i64 1))) := HB3.out.setCell (p := ⟨wo.heap.size, tn, none⟩) (Nat.le_refl _) _
                  have hkli : (k : Int) < (sn : Int) := by omega
                  have ht1 : decide ((tn : Int) ≤ (i : Int)) = false := decide_eq_false (by omega)
                  have ht2 : decide ((tn : Int) ≥ (m : Int)) = false := decide_eq_false (by omega)
                  have ht3 : (tn : Int) < (m : Int) := by omega
                  clear hb2 hcs2 hct hws hwt hst hz0 htn
                  go_wp2
                  all_goals (try omega)
                  go_roundw
                  case rel => exact ⟨k + 1, cs3.set tn 1, by omega, by go_num, HS1.out, HO4.out, HB4.out⟩
                  case measure => simp [intOf]; omega
                · obtain rfl : sn = k := by omega
                  have HT2 : Hid (Tal (nums x0) (i + 1) (F + 1) (A + sn) cs3 m) := by
                    have hS := HSE.out
                    rw [List.take_of_length_le (l := arcs) (by rw [HARS.out.1]; exact Nat.le_refl _)] at hS
                    have h := HTAL.out.more (s := ⟨true, arcs⟩) (by rw [HBN.out]; exact hlt) HST.out hS
                    have e : (⟨true, arcs⟩ : St).arcs.length = sn := HARS.out.1
                    rw [e] at h; exact h
                  go_wp2
                  go_roundw
                  case rel => exact ⟨i + 1, F + 1, A + sn, cs3, by omega, by go_num, by go_num, by go_num, by (have := HF.out; omega), HAS.out, HT2.out, HO3.out, HB3.out⟩
                  case measure => simp [intOf]; omega
          · obtain rfl : m = i := by omega
            have hD : F = len0 ∧ A = m - 1 := by
              have h := HTAL.out
              rw [← HBN.out] at h
              have h2 := h.done HSH.out HRI.out
              rw [HLX.out, HBN.out] at h2; exact h2
            obtain ⟨rfl, hA⟩ := hD
            have hA1 : (m : Int) - 1 = (A : Int) := by omega
            have hA2 : IntKind.i64.wrap ((m : Int) - 1) = (A : Int) := by rw [IntKind.wrap_i64]; omega
            have e1 : ((m : Int) == (m : Int)) = true := by simp
            have e2 : ((F : Int) == (F : Int)) = true := by simp
            have e3 : ((A : Int) == (A : Int)) = true := by simp
            have B9 := B5.trans (HB2.out.mono B5.size)
            clear hA
            go_wp2
            go_ret
            exact ⟨rfl, B9⟩
  · have hne : (ge != 0) = true := by simpa using hge
    clear hge
    go_wp2
    go_ret
    exact ⟨rfl, B4⟩

set_option maxRecDepth 100000 in
theorem lifted (os : Os) (started : os.Started) (H : Type) (enc : TypeId × Value → H) :
    ReturnsInHanded {} Try.checked os 5 .any (Rows.trieApartSpec.pre6 enc Try.prog Try.f5 Rows.trieApartRow.domain false) (Rows.trieApartSpec.post enc Try.prog Try.f5 false true false false) := by
  refine returnsInHanded_of_change (C := Try.checked) own started (by kernel_rfl) Try.func5
    (ChangeSpec.witness6 (enc := enc) (C := Try.checked) false ⟨#[], #[.slice none 0 0], []⟩ 8 (by kernel_rfl) (by kernel_rfl) (by kernel_rfl) (by kernel_rfl)) ?_
  intro W base args ds gs before hval0 hW hcnd _
  have hval : ∀ (j : Nat) t v, Try.f5.params[j]? = some t → args[j]? = some v → Value.okWide Try.prog W .any base t v := hval0
  have hW' := hW
  obtain ⟨p, q, hA0, hV, rfl, hfz, hnd⟩ := hW
  have hA : DataW.TrodAll enc Try.prog W 0 (fun _ => true) true Try.f5.params.toList args.toList ds p := hA0
  rw [Try.params5] at hA hval
  obtain ⟨v0, vs0, d0, ds0, p0, q0, hargs, rfl, rfl, h0, r0⟩ := trodAll_cons hA
  obtain ⟨rfl, rfl, rfl⟩ := trodAll_nil r0
  obtain rfl : args = #[v0] := by cases args; simp_all
  obtain ⟨rfl, rfl⟩ := trodVars_none hV
  obtain ⟨a0, len0, cap0, rfl⟩ := okWide_slice Try.underlying23 (hval 0 23 v0 rfl rfl)
  have k0 := h0
  have lt0 : ∀ x ∈ p0, x.block < W.heap.size := by obtain ⟨m, hm⟩ := k0; exact DataW.trod_lt m _ _ _ hm
  obtain ⟨x0, w0, n0⟩ : ∃ xs, Ws W a0 len0 cap0 xs ∧ (a0 = none → cap0 = 0) := by
    obtain ⟨fuel, hf⟩ := h0
    rcases Go.Deep.open_int_rows Try.underlying23 Try.underlying35 Try.underlying3 (by kernel_rfl) (by kernel_rfl) hf with ⟨hcs, _⟩ | ⟨x, l, c, A, L, C, Z, hcs, _, hl, hm, _, hr⟩
    · simp [Value.cells] at hcs
      obtain ⟨rfl, rfl, rfl⟩ := hcs
      exact ⟨[], Ws.nil, fun _ => rfl⟩
    · simp [Value.cells] at hcs
      obtain ⟨rfl, rfl, rfl⟩ := hcs
      exact ⟨_, Ws.of_rows hl hm hr, fun h => by cases h⟩
  clear hA0 hval0
  refine (walk a0 len0 cap0 x0 W w0 n0).mono fun e W' ⟨he, bel⟩ => ?_
  subst he
  exact ⟨_, rfl, _, _, _, [], _, [], hW', trodAll_mk1 (shut_bool Try.underlying4 _), (trodAll_cons_mk (Below.trod laidOut (by kernel_rfl) (of_decide_eq_true (by kernel_rfl)) k0 bel lt0) trodAll_mk0), rfl, bel.frame _, fun h => by cases h⟩

theorem over : Rows.trieApartRow.holds Try.pinned (OpenSpec.ofChange Rows.trieApartSpec) :=
  OpenClaim.holds_of_wide 5 Try.f5 rfl rfl rfl rfl rfl rfl rfl ⟨rfl, rfl, rfl, rfl, rfl⟩ rfl rfl rfl rfl rfl (by kernel_rfl) Try.func5 (by kernel_rfl)
    (of_decide_eq_true (by kernel_rfl)) (by unfold Func.isWrapper; first | (rw [if_pos (by decide +kernel)]; kernel_rfl) | (rw [if_neg (by decide +kernel)]; exact ⟨rfl, rfl⟩))
    (fun os started H enc _ => lifted os started H enc)

/-- the statement -/
theorem proved : Rows.TrieApartSaid := over
#print axioms proved
end Go.Proofs.Ytehdojhblekgeaa.trieApart
