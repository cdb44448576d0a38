/- Used by the law. -/
import Derived.Test.YtimjdlbhbiklgaaPackZ
import Derived.Test.YtimjdlbhbiklgaaPackQ
import Derived.Test.YtimjdlbhbiklgaaPackJ
namespace Go.Proofs.Ytimjdlbhbiklgaa
open Go.RowKit Tri Wlk

set_option maxRecDepth 100000 in
theorem info_boolU : (Try.prog.info? 4).map (fun i => (i.zero, i.size, i.bytes)) = some (some (.bool false), 1, 1) := by kernel_rfl
set_option maxRecDepth 100000 in
theorem und_boolsU : Try.prog.underlying 82 = some (.slice 4) := by kernel_rfl
abbrev BoU (w : World) (g n : Nat) (bs : List Bool) : Prop := w.ownsRow g 4 1 (.slice (some ⟨g, 0, none⟩) n n) n (bs.map Value.bool)
theorem BoU.set {w : World} {g n : Nat} {bs : List Bool} (h : BoU w g n bs) (j : Nat) (v : Bool) : BoU (w.setCell ⟨g, j, none⟩ (.bool v)) g n (bs.set j v) := by
  show World.ownsRow _ _ _ _ _ _ _
  rw [List.map_set]
  exact (h.stored j (.bool v)).1
theorem BoU.far {w : World} {g n c : Nat} {bs : List Bool} (h : BoU w g n bs) (hc : g ≠ c) (j : Nat) (v : Value) : BoU (w.setCell ⟨c, j, none⟩ v) g n bs :=
  ownsRow_setCell_other h (by simpa [Value.ownBlock] using hc) v
theorem BoU.cell {w : World} {g n i : Nat} {bs : List Bool} {v : Bool} (h : BoU w g n bs) (hl : bs.length = n) (hi : i < n) (hv : bs.getD i false = v) : w.cell? ⟨g, i, none⟩ = some (.bool v) := by
  have h2 : i < bs.length := by omega
  rw [h.cellAt i (by omega)]
  subst hv
  simp [h2]
theorem BoU.made (w : World) (n : Nat) (hn : n ≤ 100000) : BoU (w.alloc (.cells (madeCells #[.bool false] n) 4)) w.heap.size n (List.replicate n false) := by
  have h := World.ownsRow_lit (base := w.heap.size) (e := 4) (size := 1) w (madeCells #[.bool false] n) n (Nat.le_refl _) (by unfold maxLen; omega) (by simp [madeCells])
  have e : (madeCells #[Value.bool false] n).toList = (List.replicate n false).map Value.bool := by
    apply List.ext_getElem
    · simp [madeCells]
    · intro i h1 h2
      simp [madeCells, Nat.mod_one]
  show World.ownsRow _ _ _ _ _ _ _
  rw [← e]; exact h
theorem size_allocU (w : World) (o : Obj) : (w.alloc o).heap.size = w.heap.size + 1 := by unfold World.alloc; simp
def BpU (P : Nat → Prop) (n : Nat) (bs : List Bool) : Prop := bs.length = n ∧ ∀ j, bs.getD j false = true → P j
theorem BpU.set {P : Nat → Prop} {n t : Nat} {bs : List Bool} {v : Bool} (h : BpU P n bs) (hv : v = true → P t) : BpU P n (bs.set t v) := by
  refine ⟨by rw [List.length_set]; exact h.1, fun j hj => ?_⟩
  rw [List.getD_eq_getElem?_getD, List.getElem?_set] at hj
  by_cases e : t = j
  · subst e
    rw [if_pos rfl] at hj
    split at hj
    · exact hv (by simpa using hj)
    · simp at hj
  · rw [if_neg e] at hj
    exact h.2 j (by rw [List.getD_eq_getElem?_getD]; exact hj)
theorem set_hereU {bs : List Bool} {t : Nat} {v : Bool} (h : t < bs.length) : (bs.set t v).getD t false = v := by
  simp [List.getD_eq_getElem?_getD, h]
theorem set_keepU {bs : List Bool} {j t : Nat} (h : bs.getD j false = true) : (bs.set t true).getD j false = true := by
  rw [List.getD_eq_getElem?_getD] at h ⊢
  rw [List.getElem?_set]
  split
  · split
    · rfl
    · rename_i h1 h2
      subst h1
      rw [List.getElem?_eq_none (by omega)] at h; cases h
  · exact h
theorem rep_noU (n j : Nat) : (List.replicate n false).getD j false = false := by
  rw [List.getD_eq_getElem?_getD, List.getElem?_replicate]
  split <;> rfl
def LedU (l : List St) (i : Nat) : Prop := i = 0 ∨ ∃ j, j < i ∧ ∃ a ∈ (l.getD j St.no).arcs, a.2 = (i : Int)
def TowU (l : List St) (i : Nat) : Prop := (l.getD i St.no).final = true ∨ ∃ a ∈ (l.getD i St.no).arcs, a.2.toNat < l.length ∧ (i : Int) < a.2

def UsedIs (l : List St) (w : World) (e : Ending) (w' : World) : Prop := ∃ r : Bool, e = .returned (.bool r) ∧ (r = true → Used l) ∧ Below w.heap.size w w'
set_option maxRecDepth 100000 in
set_option maxHeartbeats 12800000 in
theorem used_is {l : List St} (hc : check l = true) (a : Option Addr) (n cap : Nat) (xs : List Sw) (w : World) (hx : Ss w a n cap xs) (hl : sts xs = l) :
    Calls Try.prog 28 #[.slice a n cap] w fun e w' => UsedIs l w e w' := by
  have HX := Lib.hid hx
  have HL := Lib.hid hl
  have HLN : Hid (l.length = n) := by show _ = _; rw [← hl, sts_length]; exact hx.1
  have hsz := check_size hc
  have hn1 : n ≤ 6001 := by rw [← HLN.out]; exact hsz.2
  have hn2 : 1 ≤ n := by rw [← HLN.out]; exact hsz.1
  have hmk := run_make_row' (P := Try.prog) 82 4 (.bool false) 1 und_boolsU info_boolU rfl .i64 .i64 n (by omega) (by omega)
  have BA0 := BoU.made w n (by omega)
  have BB0 := BoU.made (w.alloc (.cells (madeCells #[.bool false] n) 4)) n (by omega)
  have BA1 : BoU ((w.alloc (.cells (madeCells #[.bool false] n) 4)).alloc (.cells (madeCells #[.bool false] n) 4)) w.heap.size n (List.replicate n false) := World.ownsRow.alloc BA0 _
  have BW1 : Hid (Below w.heap.size w ((w.alloc (.cells (madeCells #[.bool false] n) 4)).alloc (.cells (madeCells #[.bool false] n) 4))) := ((Below.refl _ w).alloc (Nat.le_refl _) _).alloc (by rw [size_allocU]; omega) _
  have hgg : (w.alloc (.cells (madeCells #[.bool false] n) 4)).heap.size = w.heap.size + 1 := size_allocU _ _
  rw [hgg] at BB0
  have BA := Lib.hid BA1
  have BB := Lib.hid BB0
  clear BA0 BB0 BA1 hx hl hsz
  go_enter Try.func28, Try.ntmps28
  go_wp2
  go_loopw [5] (fun ix wn => ∃ (i : Nat) (bs : List Bool), i ≤ n ∧ ix = .int .i64 (i : Int) ∧ Hid (BpU (LedU l) n bs) ∧ Hid (BoU wn w.heap.size n bs) ∧ Hid (BoU wn (w.heap.size + 1) n (List.replicate n false)) ∧ Hid (Below w.heap.size w wn)) (fun ix _ => n - (intOf ix).toNat)
  case atStart => exact ⟨0, _, Nat.zero_le _, rfl, ⟨by simp, fun j hj => by rw [rep_noU] at hj; cases hj⟩, BA.out, BB.out, BW1.out⟩
  case round =>
    obtain ⟨wn, hwn⟩ : ∃ x, x = wr := ⟨_, rfl⟩
    subst hwn
    obtain ⟨i, bs, hi, rfl, HFR, HA1, HB1, HW1⟩ := hrel
    by_cases hlt : i < n
    · obtain ⟨b1, o1, f, sa, sn, sc, arcs, hp4, hbl, hcf, hcs, har, hyi⟩ := HX.out.one i hlt
      subst hp4
      have HBL := Lib.hid hbl
      have HCS := Lib.hid hcs
      have HARS := Lib.hid har
      have hsn : sn ≤ 9223372036854775807 := by
        have h1 := har.2.1
        have h2 := har.2.2.1
        unfold maxLen at h2
        omega
      have HST : Hid (l.getD i St.no = ⟨f, arcs⟩) := by
        show _ = _
        rw [← HL.out, sts_at, hyi]; rfl
      have HUP : Hid (∀ k, k < sn → ∀ {s t : Int}, arcs.getD k (0, 0) = (s, t) → (s, t) ∈ (l.getD i St.no).arcs ∧ (i : Int) < t ∧ t < (n : Int)) := by
        intro k hk s t h
        have hkl : k < arcs.length := by rw [HARS.out.1]; exact hk
        have hm : (s, t) ∈ (l.getD i St.no).arcs := by
          rw [HST.out, ← h]
          show arcs.getD k (0, 0) ∈ arcs
          rw [List.getD_eq_getElem?_getD, List.getElem?_eq_getElem hkl, Option.getD_some]; exact List.getElem_mem _
        have h2 := ((check_arcs hc (by rw [HLN.out]; exact hlt)).1 _ hm).2
        rw [HLN.out] at h2; exact ⟨hm, h2⟩
      have hmi : (i : Int) < (n : Int) := by omega
      clear hbl hcf hcs har hyi
      by_cases hbv : bs.getD i false = true
      · have hci : wn.cell? ⟨w.heap.size, i, none⟩ = some (.bool true) := HA1.out.cell HFR.out.1 hlt hbv
        have hfr : wn.frozen? ⟨w.heap.size, i, none⟩ = false := HA1.out.frozenAt i
        have HI0 := Lib.hid (HFR.out.set (t := i) (v := true) (fun _ => HFR.out.2 i hbv))
        have HHE : Hid ((bs.set i true).getD i false = true) := set_hereU (by rw [HFR.out.1]; exact hlt)
        have HA2 := Lib.hid (HA1.out.set i true)
        have HB2 : Hid (BoU (wn.setCell ⟨w.heap.size, i, none⟩ (.bool true)) (w.heap.size + 1) n (List.replicate n false)) := HB1.out.far (by omega) i (.bool true)
        have HW2 : Hid (Below w.heap.size w (wn.setCell ⟨w.heap.size, i, none⟩ (.bool true))) := HW1.out.setCell (p := ⟨w.heap.size, i, none⟩) (Nat.le_refl _) _
        clear hbv
        go_wp2
        go_loopw [6] (fun kx w3 => ∃ (k : Nat) (bs3 : List Bool), k ≤ sn ∧ kx = .int .i64 (k : Int) ∧ Hid (BpU (LedU l) n bs3) ∧ Hid (bs3.getD i false = true) ∧ Hid (BoU w3 w.heap.size n bs3) ∧ Hid (BoU w3 (w.heap.size + 1) n (List.replicate n false)) ∧ Hid (Below w.heap.size w w3)) (fun kx _ => sn - (intOf kx).toNat)
        case atStart => exact ⟨0, _, Nat.zero_le _, rfl, HI0.out, HHE.out, HA2.out, HB2.out, HW2.out⟩
        case round =>
          obtain ⟨k, bs3, hk, rfl, HI3, HH3, HA3, HB3, HW3⟩ := hrel
          have hc2 : wr.cell? ⟨b1, o1 + i * 2 + 1, none⟩ = some (.slice sa sn sc) := by
            rw [HW3.out.cell (p := ⟨b1, o1 + i * 2 + 1, none⟩) HBL.out]; exact HCS.out
          have hcm : wr.cell? ⟨w.heap.size, i, none⟩ = some (.bool true) := HA3.out.cell HI3.out.1 hlt HH3.out
          by_cases hkl : k < sn
          · obtain ⟨b2, o2, s, t, rfl, hb2, hcs2, hct, hws, hwt, hst⟩ := HARS.out.one k hkl
            have hct3 : wr.cell? ⟨b2, o2 + k * 2 + 1, none⟩ = some (.int .i64 t) := by
              rw [HW3.out.cell (p := ⟨b2, o2 + k * 2 + 1, none⟩) hb2]; exact hct
            obtain ⟨hmem, htl, htn⟩ := HUP.out k hkl hst
            obtain ⟨tn, rfl⟩ : ∃ m : Nat, t = (m : Int) := ⟨t.toNat, by omega⟩
            have htl3 : tn < n := by omega
            obtain ⟨v, hv⟩ : ∃ v, bs3.getD tn false = v := ⟨_, rfl⟩
            have hcn : wr.cell? ⟨w.heap.size, tn, none⟩ = some (.bool v) := HA3.out.cell HI3.out.1 htl3 hv
            have hfr3 : wr.frozen? ⟨w.heap.size, tn, none⟩ = false := HA3.out.frozenAt tn
            have HI4 := Lib.hid (HI3.out.set (t := tn) (v := true) fun _ => .inr ⟨i, by omega, _, hmem, rfl⟩)
            have HH4 := Lib.hid (set_keepU (t := tn) HH3.out)
            have HA4 := Lib.hid (HA3.out.set tn true)
            have HB4 : Hid (BoU (wr.setCell ⟨w.heap.size, tn, none⟩ (.bool true)) (w.heap.size + 1) n (List.replicate n false)) := HB3.out.far (by omega) tn (.bool true)
            have HW4 : Hid (Below w.heap.size w (wr.setCell ⟨w.heap.size, tn, none⟩ (.bool true))) := HW3.out.setCell (p := ⟨w.heap.size, tn, none⟩) (Nat.le_refl _) _
            have hkli : (k : Int) < (sn : Int) := by omega
            have ht3 : (tn : Int) < (n : Int) := by omega
            clear hb2 hcs2 hct hws hwt hst hv hmem
            go_wp2
            all_goals (try omega)
            go_roundw
            case rel => exact ⟨k + 1, _, by omega, by go_num, HI4.out, HH4.out, HA4.out, HB4.out, HW4.out⟩
            case measure => simp [intOf]; omega
          · obtain rfl : sn = k := by omega
            go_wp2
            go_roundw
            case rel => exact ⟨i + 1, bs3, by omega, by go_num, HI3.out, HA3.out, HB3.out, HW3.out⟩
            case measure => simp [intOf]; omega
      · rw [Bool.not_eq_true] at hbv
        by_cases hi0 : i = 0
        · have hci : wn.cell? ⟨w.heap.size, i, none⟩ = some (.bool false) := HA1.out.cell HFR.out.1 hlt hbv
          have hfr : wn.frozen? ⟨w.heap.size, i, none⟩ = false := HA1.out.frozenAt i
          have HI0 := Lib.hid (HFR.out.set (t := i) (v := true) (fun _ => .inl hi0))
          have HHE : Hid ((bs.set i true).getD i false = true) := set_hereU (by rw [HFR.out.1]; exact hlt)
          have HA2 := Lib.hid (HA1.out.set i true)
          have HB2 : Hid (BoU (wn.setCell ⟨w.heap.size, i, none⟩ (.bool true)) (w.heap.size + 1) n (List.replicate n false)) := HB1.out.far (by omega) i (.bool true)
          have HW2 : Hid (Below w.heap.size w (wn.setCell ⟨w.heap.size, i, none⟩ (.bool true))) := HW1.out.setCell (p := ⟨w.heap.size, i, none⟩) (Nat.le_refl _) _
          have hie : ((i : Int) == 0) = true := by subst hi0; rfl
          clear hbv hi0
          go_wp2
          go_loopw [6] (fun kx w3 => ∃ (k : Nat) (bs3 : List Bool), k ≤ sn ∧ kx = .int .i64 (k : Int) ∧ Hid (BpU (LedU l) n bs3) ∧ Hid (bs3.getD i false = true) ∧ Hid (BoU w3 w.heap.size n bs3) ∧ Hid (BoU w3 (w.heap.size + 1) n (List.replicate n false)) ∧ Hid (Below w.heap.size w w3)) (fun kx _ => sn - (intOf kx).toNat)
          case atStart => exact ⟨0, _, Nat.zero_le _, rfl, HI0.out, HHE.out, HA2.out, HB2.out, HW2.out⟩
          case round =>
            obtain ⟨k, bs3, hk, rfl, HI3, HH3, HA3, HB3, HW3⟩ := hrel
            have hc2 : wr.cell? ⟨b1, o1 + i * 2 + 1, none⟩ = some (.slice sa sn sc) := by
              rw [HW3.out.cell (p := ⟨b1, o1 + i * 2 + 1, none⟩) HBL.out]; exact HCS.out
            have hcm : wr.cell? ⟨w.heap.size, i, none⟩ = some (.bool true) := HA3.out.cell HI3.out.1 hlt HH3.out
            by_cases hkl : k < sn
            · obtain ⟨b2, o2, s, t, rfl, hb2, hcs2, hct, hws, hwt, hst⟩ := HARS.out.one k hkl
              have hct3 : wr.cell? ⟨b2, o2 + k * 2 + 1, none⟩ = some (.int .i64 t) := by
                rw [HW3.out.cell (p := ⟨b2, o2 + k * 2 + 1, none⟩) hb2]; exact hct
              obtain ⟨hmem, htl, htn⟩ := HUP.out k hkl hst
              obtain ⟨tn, rfl⟩ : ∃ m : Nat, t = (m : Int) := ⟨t.toNat, by omega⟩
              have htl3 : tn < n := by omega
              obtain ⟨v, hv⟩ : ∃ v, bs3.getD tn false = v := ⟨_, rfl⟩
              have hcn : wr.cell? ⟨w.heap.size, tn, none⟩ = some (.bool v) := HA3.out.cell HI3.out.1 htl3 hv
              have hfr3 : wr.frozen? ⟨w.heap.size, tn, none⟩ = false := HA3.out.frozenAt tn
              have HI4 := Lib.hid (HI3.out.set (t := tn) (v := true) fun _ => .inr ⟨i, by omega, _, hmem, rfl⟩)
              have HH4 := Lib.hid (set_keepU (t := tn) HH3.out)
              have HA4 := Lib.hid (HA3.out.set tn true)
              have HB4 : Hid (BoU (wr.setCell ⟨w.heap.size, tn, none⟩ (.bool true)) (w.heap.size + 1) n (List.replicate n false)) := HB3.out.far (by omega) tn (.bool true)
              have HW4 : Hid (Below w.heap.size w (wr.setCell ⟨w.heap.size, tn, none⟩ (.bool true))) := HW3.out.setCell (p := ⟨w.heap.size, tn, none⟩) (Nat.le_refl _) _
              have hkli : (k : Int) < (sn : Int) := by omega
              have ht3 : (tn : Int) < (n : Int) := by omega
              clear hb2 hcs2 hct hws hwt hst hv hmem
              go_wp2
              all_goals (try omega)
              go_roundw
              case rel => exact ⟨k + 1, _, by omega, by go_num, HI4.out, HH4.out, HA4.out, HB4.out, HW4.out⟩
              case measure => simp [intOf]; omega
            · obtain rfl : sn = k := by omega
              go_wp2
              go_roundw
              case rel => exact ⟨i + 1, bs3, by omega, by go_num, HI3.out, HA3.out, HB3.out, HW3.out⟩
              case measure => simp [intOf]; omega
        · have hci : wn.cell? ⟨w.heap.size, i, none⟩ = some (.bool false) := HA1.out.cell HFR.out.1 hlt hbv
          have hfr : wn.frozen? ⟨w.heap.size, i, none⟩ = false := HA1.out.frozenAt i
          have HI0 := Lib.hid (HFR.out.set (t := i) (v := false) (fun h => by cases h))
          have HHE : Hid ((bs.set i false).getD i false = false) := set_hereU (by rw [HFR.out.1]; exact hlt)
          have HA2 := Lib.hid (HA1.out.set i false)
          have HB2 : Hid (BoU (wn.setCell ⟨w.heap.size, i, none⟩ (.bool false)) (w.heap.size + 1) n (List.replicate n false)) := HB1.out.far (by omega) i (.bool false)
          have HW2 : Hid (Below w.heap.size w (wn.setCell ⟨w.heap.size, i, none⟩ (.bool false))) := HW1.out.setCell (p := ⟨w.heap.size, i, none⟩) (Nat.le_refl _) _
          have hie : ((i : Int) == 0) = false := by simpa using hi0
          have hie2 : ¬ (i : Int) = 0 := by omega
          clear hbv hi0
          go_wp2
          go_loopw [6] (fun kx w3 => kx = .int .i64 (0 : Int) ∧ Hid (BoU w3 w.heap.size n (bs.set i false)) ∧ Hid (BoU w3 (w.heap.size + 1) n (List.replicate n false)) ∧ Hid (Below w.heap.size w w3)) (fun _ _ => 0)
          case atStart => exact ⟨rfl, HA2.out, HB2.out, HW2.out⟩
          case round =>
            obtain ⟨rfl, HA3, HB3, HW3⟩ := hrel
            have hc2 : wr.cell? ⟨b1, o1 + i * 2 + 1, none⟩ = some (.slice sa sn sc) := by
              rw [HW3.out.cell (p := ⟨b1, o1 + i * 2 + 1, none⟩) HBL.out]; exact HCS.out
            have hcm : wr.cell? ⟨w.heap.size, i, none⟩ = some (.bool false) := HA3.out.cell HI0.out.1 hlt HHE.out
            by_cases hkl : 0 < sn
            · have hkli : (0 : Int) < (sn : Int) := by omega
              go_wp2
              go_roundw
              case rel => exact ⟨i + 1, _, by omega, by go_num, HI0.out, HA3.out, HB3.out, HW3.out⟩
              case measure => simp [intOf]; omega
            · obtain rfl : sn = 0 := by omega
              go_wp2
              go_roundw
              case rel => exact ⟨i + 1, _, by omega, by go_num, HI0.out, HA3.out, HB3.out, HW3.out⟩
              case measure => simp [intOf]; omega
    · obtain rfl : n = i := by omega
      obtain ⟨w5, hw5⟩ : ∃ x, x = wn := ⟨_, rfl⟩
      subst hw5
      have HT0 : Hid (BpU (TowU l) n (List.replicate n false)) := ⟨by simp, fun j hj => by rw [rep_noU] at hj; cases hj⟩
      have hw1 : IntKind.i64.wrap ((n : Int) - 1) = (n : Int) - 1 := by rw [IntKind.wrap_i64]; omega
      go_wp2
      go_loopw [7] (fun ix w6 => ∃ (j : Nat) (jx : Int) (bt : List Bool), ix = .int .i64 jx ∧ jx = (j : Int) - 1 ∧ j ≤ n ∧ Hid (BpU (TowU l) n bt) ∧ Hid (∀ m, j ≤ m → m < n → LedU l m ∧ TowU l m) ∧ Hid (BoU w6 w.heap.size n bs) ∧ Hid (BoU w6 (w.heap.size + 1) n bt) ∧ Hid (Below w.heap.size w w6)) (fun ix _ => (intOf ix + 1).toNat)
      case atStart => exact ⟨n, (n : Int) - 1, _, by go_num, rfl, Nat.le_refl _, HT0.out, fun m h1 h2 => absurd h2 (by omega), HA1.out, HB1.out, HW1.out⟩
      case round =>
        obtain ⟨w7, hw7⟩ : ∃ x, x = wr := ⟨_, rfl⟩
        subst hw7
        obtain ⟨j, jx, bt, rfl, hjx, hjn, HTO, HALL, HA5, HB5, HW5⟩ := hrel
        by_cases hj : j = 0
        · have hneg : ¬ 0 ≤ jx := by omega
          have HU : Hid (Used l) := ⟨fun i hi => (HALL.out i (by omega) (by rw [HLN.out] at hi; exact hi)).1, fun i hi => (HALL.out i (by omega) (by rw [HLN.out] at hi; exact hi)).2⟩
          clear hjx hjn
          go_wp2
          go_ret
          exact ⟨true, rfl, fun _ => HU.out, HW5.out⟩
        · obtain ⟨i, rfl⟩ : ∃ i, j = i + 1 := ⟨j - 1, by omega⟩
          obtain rfl : jx = (i : Int) := by omega
          have hin : i < n := by omega
          obtain ⟨b1, o1, f, sa, sn, sc, arcs, hp4, hbl, hcf, hcs, har, hyi⟩ := HX.out.one i hin
          subst hp4
          have hcfn : w7.cell? ⟨b1, o1 + i * 2, none⟩ = some (.bool f) := by
            rw [HW5.out.cell (p := ⟨b1, o1 + i * 2, none⟩) hbl]; exact hcf
          have HBL := Lib.hid hbl
          have HCS := Lib.hid hcs
          have HARS := Lib.hid har
          have hsn : sn ≤ 9223372036854775807 := by
            have h1 := har.2.1
            have h2 := har.2.2.1
            unfold maxLen at h2
            omega
          have HST : Hid (l.getD i St.no = ⟨f, arcs⟩) := by
            show _ = _
            rw [← HL.out, sts_at, hyi]; rfl
          have HUP : Hid (∀ k, k < sn → ∀ {s t : Int}, arcs.getD k (0, 0) = (s, t) → (s, t) ∈ (l.getD i St.no).arcs ∧ (i : Int) < t ∧ t < (n : Int)) := by
            intro k hk s t h
            have hkl : k < arcs.length := by rw [HARS.out.1]; exact hk
            have hm : (s, t) ∈ (l.getD i St.no).arcs := by
              rw [HST.out, ← h]
              show arcs.getD k (0, 0) ∈ arcs
              rw [List.getD_eq_getElem?_getD, List.getElem?_eq_getElem hkl, Option.getD_some]; exact List.getElem_mem _
            have h2 := ((check_arcs hc (by rw [HLN.out]; exact hin)).1 _ hm).2
            rw [HLN.out] at h2; exact ⟨hm, h2⟩
          have hmi : (i : Int) < (n : Int) := by omega
          clear hbl hcf hcs har hyi
          obtain ⟨v0, hv0⟩ : ∃ v, bt.getD i false = v := ⟨_, rfl⟩
          have hc0 : w7.cell? ⟨w.heap.size + 1, i, none⟩ = some (.bool v0) := HB5.out.cell HTO.out.1 hin hv0
          have hfr : w7.frozen? ⟨w.heap.size + 1, i, none⟩ = false := HB5.out.frozenAt i
          have HI0 := Lib.hid (HTO.out.set (t := i) (v := f) fun h => .inl (by rw [HST.out]; exact h))
          have HB6 := Lib.hid (HB5.out.set i f)
          have HA6 : Hid (BoU (w7.setCell ⟨w.heap.size + 1, i, none⟩ (.bool f)) w.heap.size n bs) := HA5.out.far (by omega) i (.bool f)
          have HW6 : Hid (Below w.heap.size w (w7.setCell ⟨w.heap.size + 1, i, none⟩ (.bool f))) := HW5.out.setCell (p := ⟨w.heap.size + 1, i, none⟩) (Nat.le_add_right _ _) _
          clear hv0 hjx hj
          go_wp2
          go_loopw [8] (fun kx w8 => ∃ (k : Nat) (bt3 : List Bool), k ≤ sn ∧ kx = .int .i64 (k : Int) ∧ Hid (BpU (TowU l) n bt3) ∧ Hid (BoU w8 w.heap.size n bs) ∧ Hid (BoU w8 (w.heap.size + 1) n bt3) ∧ Hid (Below w.heap.size w w8)) (fun kx _ => sn - (intOf kx).toNat)
          case atStart => exact ⟨0, _, Nat.zero_le _, rfl, HI0.out, HA6.out, HB6.out, HW6.out⟩
          case round =>
            obtain ⟨k, bt3, hk, rfl, HI3, HA3, HB3, HW3⟩ := hrel
            have hc2 : wr.cell? ⟨b1, o1 + i * 2 + 1, none⟩ = some (.slice sa sn sc) := by
              rw [HW3.out.cell (p := ⟨b1, o1 + i * 2 + 1, none⟩) HBL.out]; exact HCS.out
            by_cases hkl : k < sn
            · obtain ⟨b2, o2, s, t, rfl, hb2, hcs2, hct, hws, hwt, hst⟩ := HARS.out.one k hkl
              have hct3 : wr.cell? ⟨b2, o2 + k * 2 + 1, none⟩ = some (.int .i64 t) := by
                rw [HW3.out.cell (p := ⟨b2, o2 + k * 2 + 1, none⟩) hb2]; exact hct
              obtain ⟨hmem, htl, htn⟩ := HUP.out k hkl hst
              obtain ⟨tn, rfl⟩ : ∃ m : Nat, t = (m : Int) := ⟨t.toNat, by omega⟩
              have htl3 : tn < n := by omega
              obtain ⟨u, hu⟩ : ∃ v, bt3.getD tn false = v := ⟨_, rfl⟩
              have hcn : wr.cell? ⟨w.heap.size + 1, tn, none⟩ = some (.bool u) := HB3.out.cell HI3.out.1 htl3 hu
              have hfr3 : wr.frozen? ⟨w.heap.size + 1, i, none⟩ = false := HB3.out.frozenAt i
              have hkli : (k : Int) < (sn : Int) := by omega
              have ht3 : (tn : Int) < (n : Int) := by omega
              clear hb2 hcs2 hct hws hwt hst hu
              by_cases hvv : bt3.getD i false = true
              · have hcv : wr.cell? ⟨w.heap.size + 1, i, none⟩ = some (.bool true) := HB3.out.cell HI3.out.1 hin hvv
                have HI4 := Lib.hid (HI3.out.set (t := i) (v := true) (fun _ => HI3.out.2 i hvv))
                have HB4 := Lib.hid (HB3.out.set i true)
                have HA4 : Hid (BoU (wr.setCell ⟨w.heap.size + 1, i, none⟩ (.bool true)) w.heap.size n bs) := HA3.out.far (by omega) i (.bool true)
                have HW4 : Hid (Below w.heap.size w (wr.setCell ⟨w.heap.size + 1, i, none⟩ (.bool true))) := HW3.out.setCell (p := ⟨w.heap.size + 1, i, none⟩) (Nat.le_add_right _ _) _
                clear hvv hmem
                go_wp2
                all_goals (try omega)
                go_roundw
                case rel => exact ⟨k + 1, _, by omega, by go_num, HI4.out, HA4.out, HB4.out, HW4.out⟩
                case measure => simp [intOf]; omega
              · rw [Bool.not_eq_true] at hvv
                have hcv : wr.cell? ⟨w.heap.size + 1, i, none⟩ = some (.bool false) := HB3.out.cell HI3.out.1 hin hvv
                have HI4 := Lib.hid (HI3.out.set (t := i) (v := u) (fun h => .inr ⟨_, hmem, by simp only [Int.toNat_natCast]; rw [HLN.out]; exact htl3, htl⟩))
                have HB4 := Lib.hid (HB3.out.set i u)
                have HA4 : Hid (BoU (wr.setCell ⟨w.heap.size + 1, i, none⟩ (.bool u)) w.heap.size n bs) := HA3.out.far (by omega) i (.bool u)
                have HW4 : Hid (Below w.heap.size w (wr.setCell ⟨w.heap.size + 1, i, none⟩ (.bool u))) := HW3.out.setCell (p := ⟨w.heap.size + 1, i, none⟩) (Nat.le_add_right _ _) _
                clear hvv hmem
                go_wp2
                all_goals (try omega)
                go_roundw
                case rel => exact ⟨k + 1, _, by omega, by go_num, HI4.out, HA4.out, HB4.out, HW4.out⟩
                case measure => simp [intOf]; omega
            · obtain rfl : sn = k := by omega
              by_cases hvv : bt3.getD i false = true
              · have hcb : wr.cell? ⟨w.heap.size + 1, i, none⟩ = some (.bool true) := HB3.out.cell HI3.out.1 hin hvv
                by_cases huu : bs.getD i false = true
                · have hca : wr.cell? ⟨w.heap.size, i, none⟩ = some (.bool true) := HA3.out.cell HFR.out.1 hin huu
                  have hw2 : IntKind.i64.wrap ((i : Int) - 1) = (i : Int) - 1 := by rw [IntKind.wrap_i64]; omega
                  have HALL2 : Hid (∀ m, i ≤ m → m < n → LedU l m ∧ TowU l m) := fun m h1 h2 => by
                    rcases Nat.eq_or_lt_of_le h1 with e | e
                    · subst e; exact ⟨HFR.out.2 i huu, HI3.out.2 i hvv⟩
                    · exact HALL.out m e h2
                  clear huu hvv
                  go_wp2
                  go_roundw
                  case rel => exact ⟨i, (i : Int) - 1, bt3, by go_num, rfl, by omega, HI3.out, HALL2.out, HA3.out, HB3.out, HW3.out⟩
                  case measure => first | (simp [intOf]; done) | (simp [intOf]; omega)
                · rw [Bool.not_eq_true] at huu
                  have hca : wr.cell? ⟨w.heap.size, i, none⟩ = some (.bool false) := HA3.out.cell HFR.out.1 hin huu
                  clear huu hvv
                  go_wp2
                  go_ret
                  exact ⟨false, rfl, (fun h => by cases h), HW3.out⟩
              · rw [Bool.not_eq_true] at hvv
                have hcb : wr.cell? ⟨w.heap.size + 1, i, none⟩ = some (.bool false) := HB3.out.cell HI3.out.1 hin hvv
                clear hvv
                go_wp2
                go_ret
                exact ⟨false, rfl, (fun h => by cases h), HW3.out⟩
end Go.Proofs.Ytimjdlbhbiklgaa
