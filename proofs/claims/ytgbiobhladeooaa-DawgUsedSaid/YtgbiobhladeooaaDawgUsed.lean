/- For all words, DawgUsed answers true, and turns nothing that was there. No condition. -/
import Derived.Test.YtgbiobhladeooaaRows
import Derived.Test.YtgbiobhladeooaaDawgAwake
import Derived.Test.YtgbiobhladeooaaDawgProg
import Derived.Test.YtgbiobhladeooaaDawgDef
import Derived.Test.YtgbiobhladeooaaPackA
import Derived.Test.YtgbiobhladeooaaPackN
import Derived.Test.YtgbiobhladeooaaOrderWalkA
import Derived.Test.YtgbiobhladeooaaOrderWalkB
import Derived.WalkKit
import Derived.ProofKit
import Derived.OpenShut
import Derived.ShutString
import Derived.ChangeOld
import Derived.Below
import Derived.Deep.Matrix
import Derived.SizedLaws
namespace Go.Proofs.Ytgbiobhladeooaa.dawgUsed
open Go.ChangeShapes Go.WideShapes Go.ChangeAt Go.RowKit
set_option linter.unusedVariables false

theorem own : ownKnob Try.prog.godebug = none := by kernel_rfl
theorem laidOut : laidOutB Try.prog = true := by kernel_rfl

/-- a slice of integers that came in -/
def IsRow (k : IntKind) (w : World) (a : Option Addr) (len cap : Nat) (zs : List Int) : Prop :=
  (a = none ∧ len = 0 ∧ cap = 0 ∧ zs = []) ∨
  ∃ x, a = some x ∧ len ≤ cap ∧ cap ≤ maxLen ∧ zs.length = cap ∧ (∀ i, i < zs.length → w.cell? (x.add i) = some (.int k (zs.getD i 0))) ∧ ∀ n ∈ zs, (Lit.int k n).wf = true

open Tri Daw
theorem dmade_ok {ws : List (List Int)} (h : (dmade ws).2 = 0) : ws.length ≤ 300 ∧ (∀ z ∈ ws, Wl.fit z = true) ∧ Rise ws ∧ dmade ws = (dmake ws, 0) := by
  unfold dmade at h ⊢
  by_cases he : (Wl.write ws).2 = 0
  · rw [if_pos he]
    rcases Wl.write_err ws with ⟨_, h1, h2, h3, _⟩ | ⟨h1, _⟩
    · exact ⟨h1, h2, h3, rfl⟩
    · exact absurd he h1
  · rw [if_neg he] at h; exact absurd h he
theorem short_fit {ws : List (List Int)} (h : ∀ z ∈ ws, Wl.fit z = true) : Tri.Short ws := fun z hz => (Wl.fit_parts (h z hz)).2.1
theorem some_fit {z : List Int} (h : Wl.fit z = true) : z ≠ [] := fun e => by
  have h1 := (Wl.fit_parts h).1
  rw [e] at h1
  simp at h1
theorem info_bool : (Try.prog.info? 4).map (fun i => (i.zero, i.size, i.bytes)) = some (some (.bool false), 1, 1) := by kernel_rfl
theorem und_bools : Try.prog.underlying 41 = some (.slice 4) := by kernel_rfl
/-- an own row of bools -/
abbrev Bo (w : World) (g n : Nat) (bs : List Bool) : Prop := w.ownsRow g 4 1 (.slice (some ⟨g, 0, none⟩) n n) n (bs.map Value.bool)
theorem Bo.set {w : World} {g n : Nat} {bs : List Bool} (h : Bo w g n bs) (j : Nat) (v : Bool) : Bo (w.setCell ⟨g, j, none⟩ (.bool v)) g n (bs.set j v) := by
  show World.ownsRow _ _ _ _ _ _ _
  rw [List.map_set]
  exact (h.stored j (.bool v)).1
theorem Bo.far {w : World} {g n c : Nat} {bs : List Bool} (h : Bo w g n bs) (hc : g ≠ c) (j : Nat) (v : Value) : Bo (w.setCell ⟨c, j, none⟩ v) g n bs :=
  ownsRow_setCell_other h (by simpa [Value.ownBlock] using hc) v
theorem Bo.cell {w : World} {g n i : Nat} {bs : List Bool} {v : Bool} (h : Bo w g n bs) (hl : bs.length = n) (hi : i < n) (hv : bs.getD i false = v) : w.cell? ⟨g, i, none⟩ = some (.bool v) := by
  have h2 : i < bs.length := by omega
  rw [h.cellAt i (by omega)]
  subst hv
  simp [h2]
theorem Bo.made (w : World) (n : Nat) (hn : n ≤ 100000) : Bo (w.alloc (.cells (madeCells #[.bool false] n) 4)) w.heap.size n (List.replicate n false) := by
  have h := World.ownsRow_lit (base := w.heap.size) (e := 4) (size := 1) w (madeCells #[.bool false] n) n (Nat.le_refl _) (by unfold maxLen; omega) (by simp [madeCells])
  have e : (madeCells #[Value.bool false] n).toList = (List.replicate n false).map Value.bool := by
    apply List.ext_getElem
    · simp [madeCells]
    · intro i h1 h2
      simp [madeCells, Nat.mod_one]
  show World.ownsRow _ _ _ _ _ _ _
  rw [← e]; exact h
theorem size_alloc (w : World) (o : Obj) : (w.alloc o).heap.size = w.heap.size + 1 := by unfold World.alloc; simp
theorem set_keep {bs : List Bool} {j t : Nat} (h : bs.getD j false = true) : (bs.set t true).getD j false = true := by
  rw [List.getD_eq_getElem?_getD] at h ⊢
  rw [List.getElem?_set]
  split
  · split
    · rfl
    · rename_i h1 h2
      subst h1
      rw [List.getElem?_eq_none (by omega)] at h; cases h
  · exact h
theorem set_here {bs : List Bool} {t : Nat} {v : Bool} (h : t < bs.length) : (bs.set t v).getD t false = v := by
  simp [List.getD_eq_getElem?_getD, h]
theorem set_there {bs : List Bool} {j t : Nat} {v : Bool} (h : t ≠ j) : (bs.set t v).getD j false = bs.getD j false := by
  simp [List.getD_eq_getElem?_getD, h]
/-- the states that are led to, of the first ones -/
def Fro (ws : List (List Int)) (i n : Nat) (bs : List Bool) : Prop := bs.length = n ∧ (∀ j, j < i → ∀ a ∈ ((dmake ws).getD j St.no).arcs, bs.getD a.2.toNat false = true) ∧ ∀ j, j < i → bs.getD j false = true
def FroIn (ws : List (List Int)) (i n k : Nat) (arcs : List (Int × Int)) (bs : List Bool) : Prop := Fro ws i n bs ∧ bs.getD i false = true ∧ ∀ a ∈ arcs.take k, bs.getD a.2.toNat false = true
theorem Fro.keep {ws : List (List Int)} {i n t : Nat} {bs : List Bool} (h : Fro ws i n bs) : Fro ws i n (bs.set t true) :=
  ⟨by rw [List.length_set]; exact h.1, fun j hj a ha => set_keep (h.2.1 j hj a ha), fun j hj => set_keep (h.2.2 j hj)⟩
theorem Fro.led {ws : List (List Int)} {i n : Nat} {bs : List Bool} (h : Fro ws i n bs) (hs : Tri.Short ws) (hr : Rise ws) (hi : i < (kinds ws).length) : i = 0 ∨ bs.getD i false = true := by
  by_cases h0 : i = 0
  · exact .inl h0
  · obtain ⟨j, hj, a, ha, e⟩ := dpred hs hr hi h0
    have := h.2.1 j hj a ha
    rw [e] at this
    exact .inr this
theorem FroIn.first {ws : List (List Int)} {i n : Nat} {arcs : List (Int × Int)} {bs : List Bool} (h : Fro ws i n bs) (hi : i < n) : FroIn ws i n 0 arcs (bs.set i true) :=
  ⟨h.keep, set_here (by rw [h.1]; exact hi), fun a ha => by simp at ha⟩
theorem FroIn.next {ws : List (List Int)} {i n k : Nat} {arcs : List (Int × Int)} {bs : List Bool} {s t : Int} {m : Nat} (h : FroIn ws i n k arcs bs) (hk : k < arcs.length) (hx : arcs.getD k (0, 0) = (s, t)) (ht : t = (m : Int)) (hm : m < n) : FroIn ws i n (k + 1) arcs (bs.set m true) := by
  subst ht
  refine ⟨h.1.keep, set_keep h.2.1, fun a ha => ?_⟩
  rw [arcs_step hk hx] at ha
  rcases List.mem_append.1 ha with ha | ha
  · exact set_keep (h.2.2 a ha)
  · rw [List.mem_singleton.1 ha]
    exact set_here (by rw [h.1.1]; exact hm)
theorem FroIn.done {ws : List (List Int)} {i n : Nat} {arcs : List (Int × Int)} {bs : List Bool} {f : Bool} (h : FroIn ws i n arcs.length arcs bs) (hst : (dmake ws).getD i St.no = ⟨f, arcs⟩) : Fro ws (i + 1) n bs := by
  obtain ⟨⟨h1, h2, h3⟩, h4, h5⟩ := h
  rw [List.take_length] at h5
  refine ⟨h1, fun j hj a ha => ?_, fun j hj => ?_⟩
  · by_cases e : j = i
    · subst e; rw [hst] at ha; exact h5 a ha
    · exact h2 j (by omega) a ha
  · by_cases e : j = i
    · subst e; exact h4
    · exact h3 j (by omega)
/-- the states that lead to one that is Final, of the last ones -/
def Tow (i n : Nat) (bs : List Bool) : Prop := bs.length = n ∧ ∀ j, i ≤ j → j < n → bs.getD j false = true
def TowIn (i n k : Nat) (f : Bool) (bs : List Bool) : Prop := Tow (i + 1) n bs ∧ ∃ v, bs.getD i false = v ∧ (k = 0 → v = f) ∧ (0 < k → v = true)
theorem TowIn.first {i n : Nat} {f : Bool} {bs : List Bool} (h : Tow (i + 1) n bs) (hi : i < n) : TowIn i n 0 f (bs.set i f) :=
  ⟨⟨by rw [List.length_set]; exact h.1, fun j h1 h2 => by rw [set_there (by omega)]; exact h.2 j h1 h2⟩, f, set_here (by rw [h.1]; exact hi), fun _ => rfl, fun h => absurd h (by omega)⟩
theorem TowIn.next {i n k : Nat} {f : Bool} {bs : List Bool} (h : TowIn i n k f bs) (hi : i < n) : TowIn i n (k + 1) f (bs.set i true) :=
  ⟨⟨by rw [List.length_set]; exact h.1.1, fun j h1 h2 => set_keep (h.1.2 j h1 h2)⟩, true, set_here (by rw [h.1.1]; exact hi), fun h => absurd h (by omega), fun _ => rfl⟩
theorem TowIn.done {i n k : Nat} {f : Bool} {bs : List Bool} (h : TowIn i n k f bs) (hf : f = true ∨ 0 < k) : bs.getD i false = true ∧ Tow i n bs := by
  obtain ⟨⟨h1, h2⟩, v, h3, h4, h5⟩ := h
  have hv : v = true := by
    by_cases hk : 0 < k
    · exact h5 hk
    · rcases hf with hf | hf
      · rw [h4 (by omega)]; exact hf
      · exact absurd hf hk
  subst hv
  refine ⟨h3, h1, fun j h6 h7 => ?_⟩
  by_cases e : j = i
  · subst e; exact h3
  · exact h2 j (by omega) h7

/-! ### STEP 1: the walk -/
set_option maxHeartbeats 6400000 in
set_option maxRecDepth 100000 in
theorem walk (a0 : Option Addr) (len0 cap0 : Nat) (x0 : List Wd) (w : World) (w0 : Ws w a0 len0 cap0 x0) (n0 : a0 = none → cap0 = 0) :
    Calls Try.prog 5 #[.slice a0 len0 cap0] w fun e w' => e = .returned (.bool true) ∧ Below w.heap.size w w' := by
  have hcm0 := w0.2.2.1
  have hnc0 := w0.2.1
  unfold maxLen at hcm0
  have HX0 := Lib.hid w0
  have HXN0 := Lib.hid n0
  clear w0 n0
  obtain ⟨⟨gl, ge⟩, hg⟩ : ∃ g, dmade (nums x0) = g := ⟨_, rfl⟩
  have HG := Lib.hid hg
  clear hg
  go_enter Try.func5, Try.ntmps5
  go_wp2_with fail
  refine (awake_any _).mono ?_
  rintro e v1 ⟨rfl, B1⟩
  have X1 := Lib.hid (HX0.out.below B1 (Nat.le_refl _))
  go_wp2_with fail
  refine (few_of 100 100 a0 len0 cap0 x0 _ rfl X1.out).mono ?_
  rintro e v3 ⟨he, rfl⟩
  rcases he with rfl | ⟨rfl, -, hn60⟩
  · go_wp2
    go_ret
    exact ⟨rfl, B1⟩
  go_wp2_with fail
  refine (dmake_is a0 len0 cap0 x0 _ _ X1.out HXN0.out HG.out).mono ?_
  rintro e wo ⟨p4, n4, c4, y4, rfl, hs4, hst4, -, hb4⟩
  have B4 := B1.trans (hb4.mono B1.size)
  have X4 := Lib.hid (X1.out.below hb4 (Nat.le_refl _))
  have Y4 := Lib.hid hs4
  have T4' : Hid (sts y4 = gl) := hst4
  clear hb4 hs4 hst4
  simp only []
  by_cases hge : ge = 0
  · subst hge
    have HOK := Lib.hid (dmade_ok (ws := nums x0) (by rw [HG.out]))
    have T4 : Hid (sts y4 = dmake (nums x0)) := by have h := HOK.out.2.2.2; rw [HG.out] at h; show _ = _; rw [T4'.out]; exact congrArg Prod.fst h
    have HSH : Hid (Tri.Short (nums x0)) := short_fit HOK.out.2.1
    have HRI : Hid (Rise (nums x0)) := HOK.out.2.2.1
    have HLX : Hid ((nums x0).length = len0) := by show _ = _; rw [nums_length, X4.out.1]
    have HKN : Hid ((kinds (nums x0)).length = n4) := by show _ = _; rw [← dmake_length, ← T4.out, sts_length, Y4.out.1]
    have hn4 : n4 ≤ 2001 := by have h := begs_le (nums x0); have h2 := kinds_le (nums x0); rw [HLX.out] at h; rw [HKN.out] at h2; omega
    have hn41 : 1 ≤ n4 := by have h := kinds_pos (nums x0); rw [HKN.out] at h; exact h
    by_cases hz0 : len0 = 0
    · obtain rfl : n4 = 1 := by have h := begs_le (nums x0); have h2 := kinds_le (nums x0); rw [HLX.out] at h; rw [HKN.out] at h2; omega
      subst hz0
      clear T4' HG
      go_wp2
      go_ret
      exact ⟨rfl, B4⟩
    have hz1 : ¬ ((len0 : Int) = 0) := by omega
    have hz2 : ((len0 : Int) == 0) = false := by simpa using hz0
    have HNE : Hid (nums x0 ≠ []) := by
      intro h
      have h1 := HLX.out
      rw [h] at h1; exact hz0 h1.symm
    have HTW : Hid (1 < n4) := by
      obtain ⟨z, hz⟩ := List.exists_mem_of_ne_nil _ HNE.out
      have h := kinds_two HSH.out hz (some_fit (HOK.out.2.1 z hz))
      rw [HKN.out] at h; exact h
    have hmk := run_make_row' (P := Try.prog) 41 4 (.bool false) 1 und_bools info_bool rfl .i64 .i64 n4 (by omega) (by omega)
    clear T4' HG hz0
    have BA0 := Bo.made wo n4 (by omega)
    have BB0 := Bo.made (wo.alloc (.cells (madeCells #[.bool false] n4) 4)) n4 (by omega)
    have BA1 : Bo ((wo.alloc (.cells (madeCells #[.bool false] n4) 4)).alloc (.cells (madeCells #[.bool false] n4) 4)) wo.heap.size n4 (List.replicate n4 false) := World.ownsRow.alloc BA0 _
    have BW1 : Hid (Below wo.heap.size wo ((wo.alloc (.cells (madeCells #[.bool false] n4) 4)).alloc (.cells (madeCells #[.bool false] n4) 4))) := ((Below.refl _ wo).alloc (Nat.le_refl _) _).alloc (by rw [size_alloc]; omega) _
    have hgg : (wo.alloc (.cells (madeCells #[.bool false] n4) 4)).heap.size = wo.heap.size + 1 := size_alloc _ _
    rw [hgg] at BB0
    have BA := Lib.hid BA1
    have BB := Lib.hid BB0
    clear BA0 BB0 BA1
    go_wp2
    go_loopw [8] (fun ix wn => ∃ (i : Nat) (bs : List Bool), i ≤ n4 ∧ ix = .int .i64 (i : Int) ∧ Hid (Fro (nums x0) i n4 bs) ∧ Hid (Bo wn wo.heap.size n4 bs) ∧ Hid (Bo wn (wo.heap.size + 1) n4 (List.replicate n4 false)) ∧ Hid (Below wo.heap.size wo wn)) (fun ix _ => n4 - (intOf ix).toNat)
    case atStart => exact ⟨0, _, Nat.zero_le _, rfl, ⟨by simp, fun j hj => absurd hj (by omega), fun j hj => absurd hj (by omega)⟩, BA.out, BB.out, BW1.out⟩
    case round =>
      obtain ⟨wn, hwn⟩ : ∃ x, x = wr := ⟨_, rfl⟩
      subst hwn
      obtain ⟨i, bs, hi, rfl, HFR, HA1, HB1, HW1⟩ := hrel
      by_cases hlt : i < n4
      · obtain ⟨b1, o1, f, sa, sn, sc, arcs, hp4, hbl, hcf, hcs, har, hyi⟩ := Y4.out.one i hlt
        subst hp4
        have hcsn : wn.cell? ⟨b1, o1 + i * 2 + 1, none⟩ = some (.slice sa sn sc) := by
          rw [HW1.out.cell (p := ⟨b1, o1 + i * 2 + 1, none⟩) hbl]; exact hcs
        have HBL := Lib.hid hbl
        have HCS := Lib.hid hcs
        have HARS := Lib.hid har
        have hsn : sn ≤ 9223372036854775807 := by
          have h1 := har.2.1
          have h2 := har.2.2.1
          unfold maxLen at h2
          omega
        have HST : Hid ((dmake (nums x0)).getD i St.no = ⟨f, arcs⟩) := by
          show _ = _
          rw [← T4.out, sts_at, hyi]; rfl
        have HUP : Hid (∀ k, k < sn → ∀ {s t : Int}, arcs.getD k (0, 0) = (s, t) → (i : Int) < t ∧ t < (n4 : Int)) := by
          intro k hk s t h
          have hkl : k < arcs.length := by rw [HARS.out.1]; exact hk
          have hm : (s, t) ∈ ((dmake (nums x0)).getD i St.no).arcs := by
            rw [HST.out, ← h]
            show arcs.getD k (0, 0) ∈ arcs
            rw [List.getD_eq_getElem?_getD, List.getElem?_eq_getElem hkl, Option.getD_some]; exact List.getElem_mem _
          have h2 := darc_up HSH.out HRI.out (by rw [HKN.out]; exact hlt) hm
          rw [HKN.out] at h2; exact h2
        have hmi : (i : Int) < (n4 : Int) := by omega
        have HLED := Lib.hid (HFR.out.led HSH.out HRI.out (by rw [HKN.out]; exact hlt))
        clear hbl hcf hcs har hyi
        by_cases hbv : bs.getD i false = true
        · have hci : wn.cell? ⟨wo.heap.size, i, none⟩ = some (.bool true) := HA1.out.cell HFR.out.1 hlt hbv
          have hfr : wn.frozen? ⟨wo.heap.size, i, none⟩ = false := HA1.out.frozenAt i
          have HI0 := Lib.hid (FroIn.first (arcs := arcs) HFR.out hlt)
          have HA2 := Lib.hid (HA1.out.set i true)
          have HB2 : Hid (Bo (wn.setCell ⟨wo.heap.size, i, none⟩ (.bool true)) (wo.heap.size + 1) n4 (List.replicate n4 false)) := HB1.out.far (by omega) i (.bool true)
          have HW2 : Hid (Below wo.heap.size wo (wn.setCell ⟨wo.heap.size, i, none⟩ (.bool true))) := HW1.out.setCell (p := ⟨wo.heap.size, i, none⟩) (Nat.le_refl _) _
          clear hbv
          go_wp2
          go_loopw [9] (fun kx w3 => ∃ (k : Nat) (bs3 : List Bool), k ≤ sn ∧ kx = .int .i64 (k : Int) ∧ Hid (FroIn (nums x0) i n4 k arcs bs3) ∧ Hid (Bo w3 wo.heap.size n4 bs3) ∧ Hid (Bo w3 (wo.heap.size + 1) n4 (List.replicate n4 false)) ∧ Hid (Below wo.heap.size wo w3)) (fun kx _ => sn - (intOf kx).toNat)
          case atStart => exact ⟨0, _, Nat.zero_le _, rfl, HI0.out, HA2.out, HB2.out, HW2.out⟩
          case round =>
            obtain ⟨k, bs3, hk, rfl, HI3, HA3, HB3, HW3⟩ := hrel
            have hc2 : wr.cell? ⟨b1, o1 + i * 2 + 1, none⟩ = some (.slice sa sn sc) := by
              rw [HW3.out.cell (p := ⟨b1, o1 + i * 2 + 1, none⟩) HBL.out]; exact HCS.out
            by_cases hkl : k < sn
            · obtain ⟨b2, o2, s, t, rfl, hb2, hcs2, hct, hws, hwt, hst⟩ := HARS.out.one k hkl
              have hct3 : wr.cell? ⟨b2, o2 + k * 2 + 1, none⟩ = some (.int .i64 t) := by
                rw [HW3.out.cell (p := ⟨b2, o2 + k * 2 + 1, none⟩) hb2]; exact hct
              obtain ⟨htl, htn⟩ := HUP.out k hkl hst
              obtain ⟨tn, rfl⟩ : ∃ m : Nat, t = (m : Int) := ⟨t.toNat, by omega⟩
              have htl3 : tn < n4 := by omega
              obtain ⟨v, hv⟩ : ∃ v, bs3.getD tn false = v := ⟨_, rfl⟩
              have hcn : wr.cell? ⟨wo.heap.size, tn, none⟩ = some (.bool v) := HA3.out.cell HI3.out.1.1 htl3 hv
              have hcm : wr.cell? ⟨wo.heap.size, i, none⟩ = some (.bool true) := HA3.out.cell HI3.out.1.1 hlt HI3.out.2.1
              have hfr3 : wr.frozen? ⟨wo.heap.size, tn, none⟩ = false := HA3.out.frozenAt tn
              have HI4 := Lib.hid (HI3.out.next (by rw [HARS.out.1]; exact hkl) hst rfl htl3)
              have HA4 := Lib.hid (HA3.out.set tn true)
              have HB4 : Hid (Bo (wr.setCell ⟨wo.heap.size, tn, none⟩ (.bool true)) (wo.heap.size + 1) n4 (List.replicate n4 false)) := HB3.out.far (by omega) tn (.bool true)
              have HW4 : Hid (Below wo.heap.size wo (wr.setCell ⟨wo.heap.size, tn, none⟩ (.bool true))) := HW3.out.setCell (p := ⟨wo.heap.size, tn, none⟩) (Nat.le_refl _) _
              have hkli : (k : Int) < (sn : Int) := by omega
              have ht1 : decide ((tn : Int) ≤ (i : Int)) = false := decide_eq_false (by omega)
              have ht2 : decide ((tn : Int) ≥ (n4 : Int)) = false := decide_eq_false (by omega)
              have ht3 : (tn : Int) < (n4 : Int) := by omega
              clear hb2 hcs2 hct hws hwt hst hv
              go_wp2
              all_goals (try omega)
              go_roundw
              case rel => exact ⟨k + 1, _, by omega, by go_num, HI4.out, HA4.out, HB4.out, HW4.out⟩
              case measure => simp [intOf]; omega
            · obtain rfl : sn = k := by omega
              have HF2 : Hid (Fro (nums x0) (i + 1) n4 bs3) := by
                have h := HI3.out
                rw [← HARS.out.1] at h
                exact h.done HST.out
              go_wp2
              go_roundw
              case rel => exact ⟨i + 1, bs3, by omega, by go_num, HF2.out, HA3.out, HB3.out, HW3.out⟩
              case measure => simp [intOf]; omega
        · rw [Bool.not_eq_true] at hbv
          have hi0 : ((i : Int) == 0) = true := by
            rcases HLED.out with h | h
            · subst h; rfl
            · rw [h] at hbv; cases hbv
          have hci : wn.cell? ⟨wo.heap.size, i, none⟩ = some (.bool false) := HA1.out.cell HFR.out.1 hlt hbv
          have hfr : wn.frozen? ⟨wo.heap.size, i, none⟩ = false := HA1.out.frozenAt i
          have HI0 := Lib.hid (FroIn.first (arcs := arcs) HFR.out hlt)
          have HA2 := Lib.hid (HA1.out.set i true)
          have HB2 : Hid (Bo (wn.setCell ⟨wo.heap.size, i, none⟩ (.bool true)) (wo.heap.size + 1) n4 (List.replicate n4 false)) := HB1.out.far (by omega) i (.bool true)
          have HW2 : Hid (Below wo.heap.size wo (wn.setCell ⟨wo.heap.size, i, none⟩ (.bool true))) := HW1.out.setCell (p := ⟨wo.heap.size, i, none⟩) (Nat.le_refl _) _
          clear hbv
          go_wp2
          go_loopw [9] (fun kx w3 => ∃ (k : Nat) (bs3 : List Bool), k ≤ sn ∧ kx = .int .i64 (k : Int) ∧ Hid (FroIn (nums x0) i n4 k arcs bs3) ∧ Hid (Bo w3 wo.heap.size n4 bs3) ∧ Hid (Bo w3 (wo.heap.size + 1) n4 (List.replicate n4 false)) ∧ Hid (Below wo.heap.size wo w3)) (fun kx _ => sn - (intOf kx).toNat)
          case atStart => exact ⟨0, _, Nat.zero_le _, rfl, HI0.out, HA2.out, HB2.out, HW2.out⟩
          case round =>
            obtain ⟨k, bs3, hk, rfl, HI3, HA3, HB3, HW3⟩ := hrel
            have hc2 : wr.cell? ⟨b1, o1 + i * 2 + 1, none⟩ = some (.slice sa sn sc) := by
              rw [HW3.out.cell (p := ⟨b1, o1 + i * 2 + 1, none⟩) HBL.out]; exact HCS.out
            by_cases hkl : k < sn
            · obtain ⟨b2, o2, s, t, rfl, hb2, hcs2, hct, hws, hwt, hst⟩ := HARS.out.one k hkl
              have hct3 : wr.cell? ⟨b2, o2 + k * 2 + 1, none⟩ = some (.int .i64 t) := by
                rw [HW3.out.cell (p := ⟨b2, o2 + k * 2 + 1, none⟩) hb2]; exact hct
              obtain ⟨htl, htn⟩ := HUP.out k hkl hst
              obtain ⟨tn, rfl⟩ : ∃ m : Nat, t = (m : Int) := ⟨t.toNat, by omega⟩
              have htl3 : tn < n4 := by omega
              obtain ⟨v, hv⟩ : ∃ v, bs3.getD tn false = v := ⟨_, rfl⟩
              have hcn : wr.cell? ⟨wo.heap.size, tn, none⟩ = some (.bool v) := HA3.out.cell HI3.out.1.1 htl3 hv
              have hcm : wr.cell? ⟨wo.heap.size, i, none⟩ = some (.bool true) := HA3.out.cell HI3.out.1.1 hlt HI3.out.2.1
              have hfr3 : wr.frozen? ⟨wo.heap.size, tn, none⟩ = false := HA3.out.frozenAt tn
              have HI4 := Lib.hid (HI3.out.next (by rw [HARS.out.1]; exact hkl) hst rfl htl3)
              have HA4 := Lib.hid (HA3.out.set tn true)
              have HB4 : Hid (Bo (wr.setCell ⟨wo.heap.size, tn, none⟩ (.bool true)) (wo.heap.size + 1) n4 (List.replicate n4 false)) := HB3.out.far (by omega) tn (.bool true)
              have HW4 : Hid (Below wo.heap.size wo (wr.setCell ⟨wo.heap.size, tn, none⟩ (.bool true))) := HW3.out.setCell (p := ⟨wo.heap.size, tn, none⟩) (Nat.le_refl _) _
              have hkli : (k : Int) < (sn : Int) := by omega
              have ht1 : decide ((tn : Int) ≤ (i : Int)) = false := decide_eq_false (by omega)
              have ht2 : decide ((tn : Int) ≥ (n4 : Int)) = false := decide_eq_false (by omega)
              have ht3 : (tn : Int) < (n4 : Int) := by omega
              clear hb2 hcs2 hct hws hwt hst hv
              go_wp2
              all_goals (try omega)
              go_roundw
              case rel => exact ⟨k + 1, _, by omega, by go_num, HI4.out, HA4.out, HB4.out, HW4.out⟩
              case measure => simp [intOf]; omega
            · obtain rfl : sn = k := by omega
              have HF2 : Hid (Fro (nums x0) (i + 1) n4 bs3) := by
                have h := HI3.out
                rw [← HARS.out.1] at h
                exact h.done HST.out
              go_wp2
              go_roundw
              case rel => exact ⟨i + 1, bs3, by omega, by go_num, HF2.out, HA3.out, HB3.out, HW3.out⟩
              case measure => simp [intOf]; omega
      · obtain rfl : n4 = i := by omega
        obtain ⟨w5, hw5⟩ : ∃ x, x = wn := ⟨_, rfl⟩
        subst hw5
        have HT0 : Hid (Tow n4 n4 (List.replicate n4 false)) := ⟨by simp, fun j h1 h2 => absurd h2 (by omega)⟩
        have hw1 : IntKind.i64.wrap ((n4 : Int) - 1) = (n4 : Int) - 1 := by rw [IntKind.wrap_i64]; omega
        go_wp2
        go_loopw [11] (fun ix w6 => ∃ (j : Nat) (jx : Int) (bt : List Bool), ix = .int .i64 jx ∧ jx = (j : Int) - 1 ∧ j ≤ n4 ∧ Hid (Tow j n4 bt) ∧ Hid (Bo w6 wo.heap.size n4 bs) ∧ Hid (Bo w6 (wo.heap.size + 1) n4 bt) ∧ Hid (Below wo.heap.size wo w6)) (fun ix _ => (intOf ix + 1).toNat)
        case atStart => exact ⟨n4, (n4 : Int) - 1, _, by go_num, rfl, Nat.le_refl _, HT0.out, HA1.out, HB1.out, HW1.out⟩
        case round =>
          obtain ⟨w7, hw7⟩ : ∃ x, x = wr := ⟨_, rfl⟩
          subst hw7
          obtain ⟨j, jx, bt, rfl, hjx, hjn, HTO, HA5, HB5, HW5⟩ := hrel
          by_cases hj : j = 0
          · have hneg : ¬ 0 ≤ jx := by omega
            have htw : (1 : Int) < (n4 : Int) := by have := HTW.out; omega
            have B9 := B4.trans (HW5.out.mono B4.size)
            clear hjx hjn
            go_wp2
            go_ret
            exact ⟨by first | rfl | simp, B9⟩
          · obtain ⟨i, rfl⟩ : ∃ i, j = i + 1 := ⟨j - 1, by omega⟩
            obtain rfl : jx = (i : Int) := by omega
            have hin : i < n4 := by omega
            obtain ⟨b1, o1, f, sa, sn, sc, arcs, hp4, hbl, hcf, hcs, har, hyi⟩ := Y4.out.one i hin
            subst hp4
            have hcfn : w7.cell? ⟨b1, o1 + i * 2, none⟩ = some (.bool f) := by
              rw [HW5.out.cell (p := ⟨b1, o1 + i * 2, none⟩) hbl]; exact hcf
            have HBL := Lib.hid hbl
            have HCS := Lib.hid hcs
            have HARS := Lib.hid har
            have hsn : sn ≤ 9223372036854775807 := by
              have h1 := har.2.1
              have h2 := har.2.2.1
              unfold maxLen at h2
              omega
            have HST : Hid ((dmake (nums x0)).getD i St.no = ⟨f, arcs⟩) := by
              show _ = _
              rw [← T4.out, sts_at, hyi]; rfl
            have HUP : Hid (∀ k, k < sn → ∀ {s t : Int}, arcs.getD k (0, 0) = (s, t) → (i : Int) < t ∧ t < (n4 : Int)) := by
              intro k hk s t h
              have hkl : k < arcs.length := by rw [HARS.out.1]; exact hk
              have hm : (s, t) ∈ ((dmake (nums x0)).getD i St.no).arcs := by
                rw [HST.out, ← h]
                show arcs.getD k (0, 0) ∈ arcs
                rw [List.getD_eq_getElem?_getD, List.getElem?_eq_getElem hkl, Option.getD_some]; exact List.getElem_mem _
              have h2 := darc_up HSH.out HRI.out (by rw [HKN.out]; exact hin) hm
              rw [HKN.out] at h2; exact h2
            have HLIVE : Hid (f = true ∨ 0 < sn) := by
              have h := dlive HSH.out HRI.out HNE.out (i := i) (by rw [HKN.out]; exact hin)
              rw [HST.out] at h
              rcases h with h | h
              · exact .inl h
              · refine .inr ?_
                have h2 : 0 < arcs.length := List.length_pos_iff.2 h
                rw [HARS.out.1] at h2; exact h2
            have hmi : (i : Int) < (n4 : Int) := by omega
            obtain ⟨v0, hv0⟩ : ∃ v, bt.getD i false = v := ⟨_, rfl⟩
            have hc0 : w7.cell? ⟨wo.heap.size + 1, i, none⟩ = some (.bool v0) := HB5.out.cell HTO.out.1 hin hv0
            have hfr : w7.frozen? ⟨wo.heap.size + 1, i, none⟩ = false := HB5.out.frozenAt i
            have HI0 := Lib.hid (TowIn.first (f := f) HTO.out hin)
            have HB6 := Lib.hid (HB5.out.set i f)
            have HA6 : Hid (Bo (w7.setCell ⟨wo.heap.size + 1, i, none⟩ (.bool f)) wo.heap.size n4 bs) := HA5.out.far (by omega) i (.bool f)
            have HW6 : Hid (Below wo.heap.size wo (w7.setCell ⟨wo.heap.size + 1, i, none⟩ (.bool f))) := HW5.out.setCell (p := ⟨wo.heap.size + 1, i, none⟩) (Nat.le_add_right _ _) _
            clear hbl hcf hcs har hyi hv0 hjx hj
            go_wp2
            go_loopw [12] (fun kx w8 => ∃ (k : Nat) (bt3 : List Bool), k ≤ sn ∧ kx = .int .i64 (k : Int) ∧ Hid (TowIn i n4 k f bt3) ∧ Hid (Bo w8 wo.heap.size n4 bs) ∧ Hid (Bo w8 (wo.heap.size + 1) n4 bt3) ∧ Hid (Below wo.heap.size wo w8)) (fun kx _ => sn - (intOf kx).toNat)
            case atStart => exact ⟨0, _, Nat.zero_le _, rfl, HI0.out, HA6.out, HB6.out, HW6.out⟩
            case round =>
              obtain ⟨k, bt3, hk, rfl, HI3, HA3, HB3, HW3⟩ := hrel
              have hc2 : wr.cell? ⟨b1, o1 + i * 2 + 1, none⟩ = some (.slice sa sn sc) := by
                rw [HW3.out.cell (p := ⟨b1, o1 + i * 2 + 1, none⟩) HBL.out]; exact HCS.out
              by_cases hkl : k < sn
              · obtain ⟨b2, o2, s, t, rfl, hb2, hcs2, hct, hws, hwt, hst⟩ := HARS.out.one k hkl
                have hct3 : wr.cell? ⟨b2, o2 + k * 2 + 1, none⟩ = some (.int .i64 t) := by
                  rw [HW3.out.cell (p := ⟨b2, o2 + k * 2 + 1, none⟩) hb2]; exact hct
                obtain ⟨htl, htn⟩ := HUP.out k hkl hst
                obtain ⟨tn, rfl⟩ : ∃ m : Nat, t = (m : Int) := ⟨t.toNat, by omega⟩
                have htl3 : tn < n4 := by omega
                have hcn : wr.cell? ⟨wo.heap.size + 1, tn, none⟩ = some (.bool true) := HB3.out.cell HI3.out.1.1 htl3 (HI3.out.1.2 tn (by omega) htl3)
                have hfr3 : wr.frozen? ⟨wo.heap.size + 1, i, none⟩ = false := HB3.out.frozenAt i
                have HI4 := Lib.hid (HI3.out.next hin)
                have HB4 := Lib.hid (HB3.out.set i true)
                have HA4 : Hid (Bo (wr.setCell ⟨wo.heap.size + 1, i, none⟩ (.bool true)) wo.heap.size n4 bs) := HA3.out.far (by omega) i (.bool true)
                have HW4 : Hid (Below wo.heap.size wo (wr.setCell ⟨wo.heap.size + 1, i, none⟩ (.bool true))) := HW3.out.setCell (p := ⟨wo.heap.size + 1, i, none⟩) (Nat.le_add_right _ _) _
                have hkli : (k : Int) < (sn : Int) := by omega
                have ht3 : (tn : Int) < (n4 : Int) := by omega
                clear hb2 hcs2 hct hws hwt hst
                by_cases hvv : bt3.getD i false = true
                · have hcv : wr.cell? ⟨wo.heap.size + 1, i, none⟩ = some (.bool true) := HB3.out.cell HI3.out.1.1 hin hvv
                  clear hvv
                  go_wp2
                  all_goals (try omega)
                  go_roundw
                  case rel => exact ⟨k + 1, _, by omega, by go_num, HI4.out, HA4.out, HB4.out, HW4.out⟩
                  case measure => simp [intOf]; omega
                · rw [Bool.not_eq_true] at hvv
                  have hcv : wr.cell? ⟨wo.heap.size + 1, i, none⟩ = some (.bool false) := HB3.out.cell HI3.out.1.1 hin hvv
                  clear hvv
                  go_wp2
                  all_goals (try omega)
                  go_roundw
                  case rel => exact ⟨k + 1, _, by omega, by go_num, HI4.out, HA4.out, HB4.out, HW4.out⟩
                  case measure => simp [intOf]; omega
              · obtain rfl : sn = k := by omega
                obtain ⟨hti, hto⟩ := HI3.out.done HLIVE.out
                have HT2 := Lib.hid hto
                have hcb : wr.cell? ⟨wo.heap.size + 1, i, none⟩ = some (.bool true) := HB3.out.cell HI3.out.1.1 hin hti
                have hca : wr.cell? ⟨wo.heap.size, i, none⟩ = some (.bool true) := HA3.out.cell HFR.out.1 hin (HFR.out.2.2 i hin)
                have hw2 : IntKind.i64.wrap ((i : Int) - 1) = (i : Int) - 1 := by rw [IntKind.wrap_i64]; omega
                clear hti hto
                go_wp2
                go_roundw
                case rel => exact ⟨i, (i : Int) - 1, bt3, by go_num, rfl, by omega, HT2.out, HA3.out, HB3.out, HW3.out⟩
                case measure => first | (simp [intOf]; done) | (simp [intOf]; omega)
  · have hne : (ge != 0) = true := by simpa using hge
    clear hge
    go_wp2
    go_ret
    exact ⟨by first | rfl | simp, B4⟩

set_option maxRecDepth 100000 in
theorem lifted (os : Os) (started : os.Started) (H : Type) (enc : TypeId × Value → H) :
    ReturnsInHanded {} Try.checked os 5 .any (Rows.dawgUsedSpec.pre6 enc Try.prog Try.f5 Rows.dawgUsedRow.domain false) (Rows.dawgUsedSpec.post enc Try.prog Try.f5 false true false false) := by
  refine returnsInHanded_of_change (C := Try.checked) own started (by kernel_rfl) Try.func5
    (ChangeSpec.witness6 (enc := enc) (C := Try.checked) false ⟨#[], #[.slice none 0 0], []⟩ 8 (by kernel_rfl) (by kernel_rfl) (by kernel_rfl) (by kernel_rfl)) ?_
  intro W base args ds gs before hval0 hW hcnd _
  have hval : ∀ (j : Nat) t v, Try.f5.params[j]? = some t → args[j]? = some v → Value.okWide Try.prog W .any base t v := hval0
  have hW' := hW
  obtain ⟨p, q, hA0, hV, rfl, hfz, hnd⟩ := hW
  have hA : DataW.TrodAll enc Try.prog W 0 (fun _ => true) true Try.f5.params.toList args.toList ds p := hA0
  rw [Try.params5] at hA hval
  obtain ⟨v0, vs0, d0, ds0, p0, q0, hargs, rfl, rfl, h0, r0⟩ := trodAll_cons hA
  obtain ⟨rfl, rfl, rfl⟩ := trodAll_nil r0
  obtain rfl : args = #[v0] := by cases args; simp_all
  obtain ⟨rfl, rfl⟩ := trodVars_none hV
  obtain ⟨a0, len0, cap0, rfl⟩ := okWide_slice Try.underlying22 (hval 0 22 v0 rfl rfl)
  have k0 := h0
  have lt0 : ∀ x ∈ p0, x.block < W.heap.size := by obtain ⟨m, hm⟩ := k0; exact DataW.trod_lt m _ _ _ hm
  obtain ⟨x0, w0, n0⟩ : ∃ xs, Ws W a0 len0 cap0 xs ∧ (a0 = none → cap0 = 0) := by
    obtain ⟨fuel, hf⟩ := h0
    rcases Go.Deep.open_int_rows Try.underlying22 Try.underlying33 Try.underlying3 (by kernel_rfl) (by kernel_rfl) hf with ⟨hcs, _⟩ | ⟨x, l, c, A, L, C, Z, hcs, _, hl, hm, _, hr⟩
    · simp [Value.cells] at hcs
      obtain ⟨rfl, rfl, rfl⟩ := hcs
      exact ⟨[], Ws.nil, fun _ => rfl⟩
    · simp [Value.cells] at hcs
      obtain ⟨rfl, rfl, rfl⟩ := hcs
      exact ⟨_, Ws.of_rows hl hm hr, fun h => by cases h⟩
  clear hA0 hval0
  refine (walk a0 len0 cap0 x0 W w0 n0).mono fun e W' ⟨he, bel⟩ => ?_
  subst he
  exact ⟨_, rfl, _, _, _, [], _, [], hW', trodAll_mk1 (shut_bool Try.underlying4 _), (trodAll_cons_mk (Below.trod laidOut (by kernel_rfl) (of_decide_eq_true (by kernel_rfl)) k0 bel lt0) trodAll_mk0), rfl, bel.frame _, fun h => by cases h⟩

theorem over : Rows.dawgUsedRow.holds Try.pinned (OpenSpec.ofChange Rows.dawgUsedSpec) :=
  OpenClaim.holds_of_wide 5 Try.f5 rfl rfl rfl rfl rfl rfl rfl ⟨rfl, rfl, rfl, rfl, rfl⟩ rfl rfl rfl rfl rfl (by kernel_rfl) Try.func5 (by kernel_rfl)
    (of_decide_eq_true (by kernel_rfl)) (by unfold Func.isWrapper; first | (rw [if_pos (by decide +kernel)]; kernel_rfl) | (rw [if_neg (by decide +kernel)]; exact ⟨rfl, rfl⟩))
    (fun os started H enc _ => lifted os started H enc)

/-- the statement -/
theorem proved : Rows.DawgUsedSaid := over
#print axioms proved
end Go.Proofs.Ytgbiobhladeooaa.dawgUsed
