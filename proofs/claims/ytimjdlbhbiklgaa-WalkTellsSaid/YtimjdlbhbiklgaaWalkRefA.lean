import Derived.Test.YtimjdlbhbiklgaaPackA
import Derived.Test.YtimjdlbhbiklgaaPackM
import Derived.Test.YtimjdlbhbiklgaaPackJ
import Derived.BigRegion
/- The document's many and Many of layer 12. Written by wip/gen/walk_refa.py. -/
namespace Go.Proofs.Ytimjdlbhbiklgaa
open Go.RowKit Tri Wlk

set_option maxRecDepth 100000 in
theorem und_intsR : Try.prog.underlying 23 = some (.slice 3) := by kernel_rfl
/-- an own row of numbers -/
abbrev IoR (w : World) (g n : Nat) (ms : List Int) : Prop := w.ownsRow g 3 1 (.slice (some ⟨g, 0, none⟩) n n) n (i64s ms)
set_option maxRecDepth 100000 in
theorem IoR.set {w : World} {g n : Nat} {ms : List Int} (h : IoR w g n ms) (j : Nat) (v : Int) : IoR (w.setCell ⟨g, j, none⟩ (.int .i64 v)) g n (ms.set j v) := by
  show World.ownsRow _ _ _ _ _ _ _
  unfold i64s
  rw [List.map_set]
  exact (h.stored j (.int .i64 v)).1
set_option maxRecDepth 100000 in
theorem IoR.cell {w : World} {g n i : Nat} {ms : List Int} {v : Int} (h : IoR w g n ms) (hl : ms.length = n) (hi : i < n) (hv : ms.getD i 0 = v) : w.cell? ⟨g, i, none⟩ = some (.int .i64 v) := by
  have h2 : i < ms.length := by omega
  rw [h.cellAt i (by omega)]
  subst hv
  unfold i64s
  simp [h2]
set_option maxRecDepth 100000 in
theorem IoR.made (w : World) (n : Nat) (hn : n ≤ 100000) : IoR (w.alloc (.cells (madeCells #[.int .i64 0] n) 3)) w.heap.size n (List.replicate n 0) := by
  have h := World.ownsRow_lit (base := w.heap.size) (e := 3) (size := 1) w (madeCells #[.int .i64 0] n) n (Nat.le_refl _) (by unfold maxLen; omega) (by simp [madeCells])
  have e : (madeCells #[Value.int .i64 0] n).toList = i64s (List.replicate n 0) := by
    unfold i64s
    apply List.ext_getElem
    · simp [madeCells]
    · intro i h1 h2
      simp [madeCells, Nat.mod_one]
  show World.ownsRow _ _ _ _ _ _ _
  rw [← e]; exact h
set_option maxRecDepth 100000 in
theorem rep_zR (n j : Nat) : (List.replicate n (0 : Int)).getD j 0 = 0 := by
  rw [List.getD_eq_getElem?_getD, List.getElem?_replicate]
  split <;> rfl
set_option maxRecDepth 100000 in
theorem set_hereR {ms : List Int} {t : Nat} {v : Int} (h : t < ms.length) : (ms.set t v).getD t 0 = v := by
  simp [List.getD_eq_getElem?_getD, h]
set_option maxRecDepth 100000 in
theorem set_thereR {ms : List Int} {j t : Nat} {v : Int} (h : t ≠ j) : (ms.set t v).getD j 0 = ms.getD j 0 := by
  simp [List.getD_eq_getElem?_getD, h]
/-- numbers of states, told from the last one on: behind i, nought ahead -/
def NumR (val : Nat → Int) (n i : Nat) (ms : List Int) : Prop := ms.length = n ∧ (∀ m, i ≤ m → m < n → ms.getD m 0 = val m) ∧ ∀ m, m < i → ms.getD m 0 = 0
/-- while that of i is made -/
def NumI (val : Nat → Int) (n i : Nat) (v : Int) (ms : List Int) : Prop := ms.length = n ∧ (∀ m, i < m → m < n → ms.getD m 0 = val m) ∧ (∀ m, m < i → ms.getD m 0 = 0) ∧ ms.getD i 0 = v
set_option maxRecDepth 100000 in
theorem NumR.first {val : Nat → Int} {n i : Nat} {ms : List Int} (h : NumR val n (i + 1) ms) : NumI val n i 0 ms := ⟨h.1, fun m h1 h2 => h.2.1 m h1 h2, fun m h1 => h.2.2 m (by omega), h.2.2 i (by omega)⟩
set_option maxRecDepth 100000 in
theorem NumR.put {val : Nat → Int} {n i : Nat} {ms : List Int} (h : NumR val n (i + 1) ms) (hi : i < n) (v : Int) : NumI val n i v (ms.set i v) :=
  ⟨by rw [List.length_set]; exact h.1, fun m h1 h2 => by rw [set_thereR (by omega)]; exact h.2.1 m h1 h2, fun m h1 => by rw [set_thereR (by omega)]; exact h.2.2 m (by omega), set_hereR (by rw [h.1]; exact hi)⟩
set_option maxRecDepth 100000 in
theorem NumI.put {val : Nat → Int} {n i : Nat} {u : Int} {ms : List Int} (h : NumI val n i u ms) (hi : i < n) (v : Int) : NumI val n i v (ms.set i v) :=
  ⟨by rw [List.length_set]; exact h.1, fun m h1 h2 => by rw [set_thereR (by omega)]; exact h.2.1 m h1 h2, fun m h1 => by rw [set_thereR (by omega)]; exact h.2.2.1 m h1, set_hereR (by rw [h.1]; exact hi)⟩
set_option maxRecDepth 100000 in
theorem NumI.done {val : Nat → Int} {n i : Nat} {v : Int} {ms : List Int} (h : NumI val n i v ms) (hv : v = val i) : NumR val n i ms :=
  ⟨h.1, fun m h1 h2 => by rcases Nat.eq_or_lt_of_le h1 with e | e; · subst e; rw [h.2.2.2, hv]
                          · exact h.2.1 m e h2, h.2.2.1⟩
def manyV (l : List St) (j : Nat) : Int := (mny l j : Int)
def upM (l : List St) (i k : Nat) : Int := ((min (upA l i k).length 301 : Nat) : Int)
set_option maxRecDepth 100000 in
theorem upM_zero (l : List St) (i : Nat) (f : Bool) (h : (l.getD i St.no).final = f) : upM l i 0 = if f = true then 1 else 0 := by
  unfold upM; rw [upA_zero, h]; cases f <;> rfl
set_option maxRecDepth 100000 in
theorem upM_next (l : List St) (i : Nat) {k : Nat} {s : Int} {t : Nat} (hk : k < (l.getD i St.no).arcs.length) (ha : (l.getD i St.no).arcs.getD k (0, 0) = (s, (t : Int))) : upM l i (k + 1) = min 301 (upM l i k + manyV l t) := by
  unfold upM manyV
  have h := mny_next l i hk ha
  rw [h]
  simp only [Int.toNat_natCast]
  omega
set_option maxRecDepth 100000 in
theorem upM_all {l : List St} (hc : check l = true) {i : Nat} (hi : i < l.length) : upM l i (l.getD i St.no).arcs.length = manyV l i := by
  unfold upM manyV mny; rw [upA_all hc hi]
set_option maxRecDepth 100000 in
theorem upM_small (l : List St) (i k : Nat) : 0 ≤ upM l i k ∧ upM l i k ≤ 301 := by unfold upM; omega
set_option maxRecDepth 100000 in
theorem manyV_small (l : List St) (i : Nat) : 0 ≤ manyV l i ∧ manyV l i ≤ 301 := by unfold manyV mny; omega

set_option maxRecDepth 100000 in
set_option maxHeartbeats 12800000 in
theorem rmany_is {l : List St} (hc : check l = true) (a : Option Addr) (n cap : Nat) (xs : List Sw) (w : World) (hx : Ss w a n cap xs) (hl : sts xs = l) :
    Calls Try.prog 33 #[.slice a n cap] w fun e w' => ∃ ms : List Int, e = .returned (.slice (some ⟨w.heap.size, 0, none⟩) n n) ∧ IoR w' w.heap.size n ms ∧ NumR (manyV l) n 0 ms ∧ Below w.heap.size w w' := by
  have HX := Lib.hid hx
  have HL := Lib.hid hl
  have HLN : Hid (l.length = n) := by show _ = _; rw [← hl, sts_length]; exact hx.1
  have hsz := check_size hc
  have hn1 : n ≤ 6001 := by rw [← HLN.out]; exact hsz.2
  have hn2 : 1 ≤ n := by rw [← HLN.out]; exact hsz.1
  have hmk := run_make_row' (P := Try.prog) 23 3 (.int .i64 0) 8 und_intsR info_int rfl .i64 .i64 n (by omega) (by omega)
  have BA0 := IoR.made w n (by omega)
  have BW1 : Hid (Below w.heap.size w (w.alloc (.cells (madeCells #[.int .i64 0] n) 3))) := (Below.refl _ w).alloc (Nat.le_refl _) _
  have BA := Lib.hid BA0
  have HN0 : Hid (NumR (manyV l) n n (List.replicate n 0)) := ⟨by simp, fun m h1 h2 => absurd h2 (by omega), fun m _ => rep_zR n m⟩
  have hw1 : IntKind.i64.wrap ((n : Int) - 1) = (n : Int) - 1 := by rw [IntKind.wrap_i64]; omega
  clear BA0 hx hl hsz
  go_enter Try.func33, Try.ntmps33
  go_wp2
  go_loopw [4] (fun ix w6 => ∃ (j : Nat) (jx : Int) (ms : List Int), ix = .int .i64 jx ∧ jx = (j : Int) - 1 ∧ j ≤ n ∧ Hid (NumR (manyV l) n j ms) ∧ Hid (IoR w6 w.heap.size n ms) ∧ Hid (Below w.heap.size w w6)) (fun ix _ => (intOf ix + 1).toNat)
  case atStart => exact ⟨n, (n : Int) - 1, _, by go_num, rfl, Nat.le_refl _, HN0.out, BA.out, BW1.out⟩
  case round =>
    obtain ⟨w7, hw7⟩ : ∃ x, x = wr := ⟨_, rfl⟩
    subst hw7
    obtain ⟨j, jx, ms, rfl, hjx, hjn, HNR, HRO, HW5⟩ := hrel
    by_cases hj : j = 0
    · have hneg : ¬ 0 ≤ jx := by omega
      have HNZ : Hid (NumR (manyV l) n 0 ms) := by rw [← hj]; exact HNR
      clear hjx hjn hj
      go_wp2
      go_ret
      exact ⟨rfl, ms, HRO.out, HNZ.out, HW5.out⟩
    · obtain ⟨i, rfl⟩ : ∃ i, j = i + 1 := ⟨j - 1, by omega⟩
      obtain rfl : jx = (i : Int) := by omega
      have hin : i < n := by omega
      obtain ⟨b1, o1, f, sa, sn, sc, arcs, hp4, hbl, hcf, hcs, har, hyi⟩ := HX.out.one i hin
      subst hp4
      have hcfn : w7.cell? ⟨b1, o1 + i * 2, none⟩ = some (.bool f) := by
        rw [HW5.out.cell (p := ⟨b1, o1 + i * 2, none⟩) hbl]; exact hcf
      have HBL := Lib.hid hbl
      have HCS := Lib.hid hcs
      have HARS := Lib.hid har
      have hsn : sn ≤ 9223372036854775807 := by
        have h1 := har.2.1
        have h2 := har.2.2.1
        unfold maxLen at h2
        omega
      have HST : Hid (l.getD i St.no = ⟨f, arcs⟩) := by
        show _ = _
        rw [← HL.out, sts_at, hyi]; rfl
      have HUP : Hid (∀ k, k < sn → ∀ {s t : Int}, arcs.getD k (0, 0) = (s, t) → (i : Int) < t ∧ t < (n : Int)) := by
        intro k hk s t h
        have hkl : k < arcs.length := by rw [HARS.out.1]; exact hk
        have hm : (s, t) ∈ (l.getD i St.no).arcs := by
          rw [HST.out, ← h]
          show arcs.getD k (0, 0) ∈ arcs
          rw [List.getD_eq_getElem?_getD, List.getElem?_eq_getElem hkl, Option.getD_some]; exact List.getElem_mem _
        have h2 := ((check_arcs hc (by rw [HLN.out]; exact hin)).1 _ hm).2
        rw [HLN.out] at h2; exact h2
      have hmi : (i : Int) < (n : Int) := by omega
      clear hbl hcf hcs har hyi
      cases f
      · have HI0 := Lib.hid HNR.out.first
        have HR6 := HRO
        have HW6 := HW5
        have HV0 : Hid (upM l i 0 = 0) := upM_zero l i false (by rw [HST.out])
        clear hjx hj
        go_wp2
        go_loopw [5] (fun kx w8 => ∃ (k : Nat) (ms3 : List Int), k ≤ sn ∧ kx = .int .i64 (k : Int) ∧ Hid (NumI (manyV l) n i (upM l i k) ms3) ∧ Hid (IoR w8 w.heap.size n ms3) ∧ Hid (Below w.heap.size w w8)) (fun kx _ => sn - (intOf kx).toNat)
        case atStart => exact ⟨0, _, Nat.zero_le _, rfl, by show NumI _ _ _ _ _; rw [HV0.out]; exact HI0.out, HR6.out, HW6.out⟩
        case round =>
          obtain ⟨k, ms3, hk, rfl, HI3, HR3, HW3⟩ := hrel
          have hc2 : wr.cell? ⟨b1, o1 + i * 2 + 1, none⟩ = some (.slice sa sn sc) := by
            rw [HW3.out.cell (p := ⟨b1, o1 + i * 2 + 1, none⟩) HBL.out]; exact HCS.out
          by_cases hkl : k < sn
          · obtain ⟨b2, o2, s, t, rfl, hb2, hcs2, hct, hws, hwt, hst⟩ := HARS.out.one k hkl
            have hct3 : wr.cell? ⟨b2, o2 + k * 2 + 1, none⟩ = some (.int .i64 t) := by
              rw [HW3.out.cell (p := ⟨b2, o2 + k * 2 + 1, none⟩) hb2]; exact hct
            obtain ⟨htl, htn⟩ := HUP.out k hkl hst
            obtain ⟨tn, rfl⟩ : ∃ m : Nat, t = (m : Int) := ⟨t.toNat, by omega⟩
            have htl3 : tn < n := by omega
            obtain ⟨c, hcv⟩ : ∃ c, upM l i k = c := ⟨_, rfl⟩
            obtain ⟨d, hdv⟩ : ∃ d, manyV l tn = d := ⟨_, rfl⟩
            obtain ⟨e, hev⟩ : ∃ e, (if c + d < 301 then c + d else 301) = e := ⟨_, rfl⟩
            have hem : min 301 (c + d) = e := by rw [← hev]; omega
            have hcs1 := upM_small l i k
            have hds1 := manyV_small l tn
            rw [hcv] at hcs1
            rw [hdv] at hds1
            have hci : wr.cell? ⟨w.heap.size, i, none⟩ = some (.int .i64 c) := HR3.out.cell HI3.out.1 hin (by rw [HI3.out.2.2.2]; exact hcv)
            have hcn : wr.cell? ⟨w.heap.size, tn, none⟩ = some (.int .i64 d) := HR3.out.cell HI3.out.1 htl3 (by rw [HI3.out.2.1 tn (by omega) htl3]; exact hdv)
            have hfr3 : wr.frozen? ⟨w.heap.size, i, none⟩ = false := HR3.out.frozenAt i
            have hcd : IntKind.i64.wrap (c + d) = c + d := by rw [IntKind.wrap_i64]; omega
            have HNX : Hid (upM l i (k + 1) = e) := by
              show _ = _
              rw [upM_next l i (by rw [HST.out]; show k < arcs.length; rw [HARS.out.1]; exact hkl) (by rw [HST.out]; exact hst), hcv, hdv]; exact hem
            have HI4 : Hid (NumI (manyV l) n i (upM l i (k + 1)) (ms3.set i e)) := by show NumI _ _ _ _ _; rw [HNX.out]; exact HI3.out.put hin e
            have HR4 := Lib.hid (HR3.out.set i e)
            have HW4 : Hid (Below w.heap.size w (wr.setCell ⟨w.heap.size, i, none⟩ (.int .i64 e))) := HW3.out.setCell (p := ⟨w.heap.size, i, none⟩) (Nat.le_refl _) _
            have hkli : (k : Int) < (sn : Int) := by omega
            have hi0 : (0 : Int) ≤ (i : Int) := by omega
            have hk0 : (0 : Int) ≤ (k : Int) := by omega
            have ht0 : (0 : Int) ≤ (tn : Int) := by omega
            have ht3 : (tn : Int) < (n : Int) := by omega
            have HEV := Lib.hid hev
            have HEM := Lib.hid hem
            have HEM2 : Hid (min (c + d) 301 = e) := Lib.hid (by rw [← hev]; omega)
            clear hb2 hcs2 hct hws hwt hst hcv hdv hcs1 hds1 HNX hev hem
            go_wp2
            go_region
            first | rw [HEV.out] | rw [HEM.out] | rw [HEM2.out]
            go_wp2
            all_goals (try omega)
            go_roundw
            case rel => exact ⟨k + 1, _, by omega, by go_num, HI4.out, HR4.out, below_drawn HW4.out ⟨1, rfl⟩⟩
            case measure => simp [intOf]; omega
          · obtain rfl : sn = k := by omega
            have HD : Hid (NumR (manyV l) n i ms3) := HI3.out.done (by
              have h := upM_all hc (i := i) (by rw [HLN.out]; exact hin)
              rw [HST.out] at h
              rw [← h]
              show _ = upM l i arcs.length
              rw [HARS.out.1])
            have hw2 : IntKind.i64.wrap ((i : Int) - 1) = (i : Int) - 1 := by rw [IntKind.wrap_i64]; omega
            go_wp2
            go_roundw
            case rel => exact ⟨i, (i : Int) - 1, ms3, by go_num, rfl, by omega, HD.out, HR3.out, HW3.out⟩
            case measure => first | (simp [intOf]; done) | (simp [intOf]; omega)
      · have HI0 := Lib.hid (HNR.out.put hin 1)
        have HR6 := Lib.hid (HRO.out.set i 1)
        have HW6 : Hid (Below w.heap.size w (w7.setCell ⟨w.heap.size, i, none⟩ (.int .i64 1))) := HW5.out.setCell (p := ⟨w.heap.size, i, none⟩) (Nat.le_refl _) _
        have hfr : w7.frozen? ⟨w.heap.size, i, none⟩ = false := HRO.out.frozenAt i
        obtain ⟨v0, hv0⟩ : ∃ v, ms.getD i 0 = v := ⟨_, rfl⟩
        have hc0 : w7.cell? ⟨w.heap.size, i, none⟩ = some (.int .i64 v0) := HRO.out.cell HNR.out.1 hin hv0
        have HV0 : Hid (upM l i 0 = 1) := upM_zero l i true (by rw [HST.out])
        clear hv0
        clear hjx hj
        go_wp2
        go_loopw [5] (fun kx w8 => ∃ (k : Nat) (ms3 : List Int), k ≤ sn ∧ kx = .int .i64 (k : Int) ∧ Hid (NumI (manyV l) n i (upM l i k) ms3) ∧ Hid (IoR w8 w.heap.size n ms3) ∧ Hid (Below w.heap.size w w8)) (fun kx _ => sn - (intOf kx).toNat)
        case atStart => exact ⟨0, _, Nat.zero_le _, rfl, by show NumI _ _ _ _ _; rw [HV0.out]; exact HI0.out, HR6.out, HW6.out⟩
        case round =>
          obtain ⟨k, ms3, hk, rfl, HI3, HR3, HW3⟩ := hrel
          have hc2 : wr.cell? ⟨b1, o1 + i * 2 + 1, none⟩ = some (.slice sa sn sc) := by
            rw [HW3.out.cell (p := ⟨b1, o1 + i * 2 + 1, none⟩) HBL.out]; exact HCS.out
          by_cases hkl : k < sn
          · obtain ⟨b2, o2, s, t, rfl, hb2, hcs2, hct, hws, hwt, hst⟩ := HARS.out.one k hkl
            have hct3 : wr.cell? ⟨b2, o2 + k * 2 + 1, none⟩ = some (.int .i64 t) := by
              rw [HW3.out.cell (p := ⟨b2, o2 + k * 2 + 1, none⟩) hb2]; exact hct
            obtain ⟨htl, htn⟩ := HUP.out k hkl hst
            obtain ⟨tn, rfl⟩ : ∃ m : Nat, t = (m : Int) := ⟨t.toNat, by omega⟩
            have htl3 : tn < n := by omega
            obtain ⟨c, hcv⟩ : ∃ c, upM l i k = c := ⟨_, rfl⟩
            obtain ⟨d, hdv⟩ : ∃ d, manyV l tn = d := ⟨_, rfl⟩
            obtain ⟨e, hev⟩ : ∃ e, (if c + d < 301 then c + d else 301) = e := ⟨_, rfl⟩
            have hem : min 301 (c + d) = e := by rw [← hev]; omega
            have hcs1 := upM_small l i k
            have hds1 := manyV_small l tn
            rw [hcv] at hcs1
            rw [hdv] at hds1
            have hci : wr.cell? ⟨w.heap.size, i, none⟩ = some (.int .i64 c) := HR3.out.cell HI3.out.1 hin (by rw [HI3.out.2.2.2]; exact hcv)
            have hcn : wr.cell? ⟨w.heap.size, tn, none⟩ = some (.int .i64 d) := HR3.out.cell HI3.out.1 htl3 (by rw [HI3.out.2.1 tn (by omega) htl3]; exact hdv)
            have hfr3 : wr.frozen? ⟨w.heap.size, i, none⟩ = false := HR3.out.frozenAt i
            have hcd : IntKind.i64.wrap (c + d) = c + d := by rw [IntKind.wrap_i64]; omega
            have HNX : Hid (upM l i (k + 1) = e) := by
              show _ = _
              rw [upM_next l i (by rw [HST.out]; show k < arcs.length; rw [HARS.out.1]; exact hkl) (by rw [HST.out]; exact hst), hcv, hdv]; exact hem
            have HI4 : Hid (NumI (manyV l) n i (upM l i (k + 1)) (ms3.set i e)) := by show NumI _ _ _ _ _; rw [HNX.out]; exact HI3.out.put hin e
            have HR4 := Lib.hid (HR3.out.set i e)
            have HW4 : Hid (Below w.heap.size w (wr.setCell ⟨w.heap.size, i, none⟩ (.int .i64 e))) := HW3.out.setCell (p := ⟨w.heap.size, i, none⟩) (Nat.le_refl _) _
            have hkli : (k : Int) < (sn : Int) := by omega
            have hi0 : (0 : Int) ≤ (i : Int) := by omega
            have hk0 : (0 : Int) ≤ (k : Int) := by omega
            have ht0 : (0 : Int) ≤ (tn : Int) := by omega
            have ht3 : (tn : Int) < (n : Int) := by omega
            have HEV := Lib.hid hev
            have HEM := Lib.hid hem
            have HEM2 : Hid (min (c + d) 301 = e) := Lib.hid (by rw [← hev]; omega)
            clear hb2 hcs2 hct hws hwt hst hcv hdv hcs1 hds1 HNX hev hem
            go_wp2
            go_region
            first | rw [HEV.out] | rw [HEM.out] | rw [HEM2.out]
            go_wp2
            all_goals (try omega)
            go_roundw
            case rel => exact ⟨k + 1, _, by omega, by go_num, HI4.out, HR4.out, below_drawn HW4.out ⟨1, rfl⟩⟩
            case measure => simp [intOf]; omega
          · obtain rfl : sn = k := by omega
            have HD : Hid (NumR (manyV l) n i ms3) := HI3.out.done (by
              have h := upM_all hc (i := i) (by rw [HLN.out]; exact hin)
              rw [HST.out] at h
              rw [← h]
              show _ = upM l i arcs.length
              rw [HARS.out.1])
            have hw2 : IntKind.i64.wrap ((i : Int) - 1) = (i : Int) - 1 := by rw [IntKind.wrap_i64]; omega
            go_wp2
            go_roundw
            case rel => exact ⟨i, (i : Int) - 1, ms3, by go_num, rfl, by omega, HD.out, HR3.out, HW3.out⟩
            case measure => first | (simp [intOf]; done) | (simp [intOf]; omega)

set_option maxRecDepth 100000 in
set_option maxHeartbeats 1600000 in
theorem rmany12_is (a : Option Addr) (n cap : Nat) (xs : List Sw) (w : World) (r : Nat) (hx : Ss w a n cap xs) (hr : manyC (sts xs) = r) :
    Calls Try.prog 18 #[.slice a n cap] w fun e w' => e = .returned (.int .i64 (r : Int)) ∧ Below w.heap.size w w' := by
  have HX := Lib.hid hx
  cases hcc : check (sts xs)
  · have hr0 : r = 0 := by unfold manyC at hr; rw [hcc] at hr; exact hr.symm
    subst hr0
    clear hx hr
    go_enter Try.func18, Try.ntmps18
    go_wp2_with (go_at_call 26; refine (rcheck10_is a n cap xs false _ HX.out hcc).mono ?_; rintro e w' ⟨rfl, hb'⟩)
    go_ret
    exact ⟨rfl, hb'⟩
  · have hn : (sts xs).length = n := by rw [sts_length]; exact hx.1
    have hsz := check_size hcc
    have HR : Hid (manyV (sts xs) 0 = (r : Int)) := by show _ = _; unfold manyC at hr; rw [if_pos hcc] at hr; unfold manyV; rw [hr]
    have hn1 : 0 < n := by omega
    clear hx hr hsz hn
    go_enter Try.func18, Try.ntmps18
    go_wp2_with (first
      | (go_at_call 26; refine (rcheck10_is a n cap xs true _ HX.out hcc).mono ?_; rintro e w1 ⟨rfl, hb1⟩)
      | (go_at_call 33; refine (rmany_is hcc a n cap xs w1 (HX.out.below hb1 (Nat.le_refl _)) rfl).mono ?_; rintro e w2 ⟨ms, rfl, hown, hnum, hb2⟩; have hnl : (0 : Int) < (n : Int) := (by omega); have hd0 : w2.cell? ⟨w1.heap.size, 0, none⟩ = some (.int .i64 (r : Int)) := hown.cell hnum.1 hn1 (by rw [hnum.2.1 0 (Nat.le_refl _) hn1]; exact HR.out); have HB2 := Lib.hid hb2; clear hown hnum hb2))
    go_ret
    exact ⟨rfl, hb1.trans (HB2.out.mono hb1.size)⟩
def depV (l : List St) (j : Nat) : Int := dp (wds l j)
def upD (l : List St) (i k : Nat) : Int := dp (upA l i k)
set_option maxRecDepth 100000 in
theorem upD_zero (l : List St) (i : Nat) (f : Bool) (h : (l.getD i St.no).final = f) : upD l i 0 = if f = true then 0 else -1 := by
  unfold upD; rw [upA_zero, h]; cases f <;> rfl
set_option maxRecDepth 100000 in
theorem upD_next (l : List St) (i : Nat) {k : Nat} {s : Int} {t : Nat} (hk : k < (l.getD i St.no).arcs.length) (ha : (l.getD i St.no).arcs.getD k (0, 0) = (s, (t : Int))) : upD l i (k + 1) = if 0 ≤ depV l t then max (upD l i k) (depV l t + 1) else upD l i k := by
  unfold upD depV
  have h := dp_next l i hk ha
  simp only [Int.toNat_natCast] at h
  rw [h]
  have := dp_ge (wds l t)
  by_cases h0 : dp (wds l t) = -1
  · rw [if_pos h0, if_neg (by omega)]
  · rw [if_neg h0, if_pos (by omega)]
set_option maxRecDepth 100000 in
theorem upD_all {l : List St} (hc : check l = true) {i : Nat} (hi : i < l.length) : upD l i (l.getD i St.no).arcs.length = depV l i := by
  unfold upD depV; rw [upA_all hc hi]
set_option maxRecDepth 100000 in
theorem depV_small {l : List St} (hc : check l = true) {i : Nat} (hi : i < l.length) : -1 ≤ depV l i ∧ depV l i ≤ 6001 := by
  unfold depV
  refine ⟨dp_ge _, ?_⟩
  have h := dp_le (ws := wds l i) (n := 6001) fun w hw => by
    have h1 := (wds_good hc w hi hw).2
    have h2 := (check_size hc).2
    omega
  exact h

set_option maxRecDepth 100000 in
set_option maxHeartbeats 12800000 in
theorem rdeep12_is (a : Option Addr) (n cap : Nat) (xs : List Sw) (w : World) (r : Int) (hx : Ss w a n cap xs) (hr : deepC (sts xs) = r) :
    Calls Try.prog 20 #[.slice a n cap] w fun e w' => e = .returned (.int .i64 r) ∧ Below w.heap.size w w' := by
  have HX := Lib.hid hx
  cases hcc : check (sts xs)
  · have hr0 : r = -1 := by unfold deepC at hr; rw [hcc] at hr; exact hr.symm
    subst hr0
    clear hx hr
    go_enter Try.func20, Try.ntmps20
    go_wp2_with (go_at_call 26; refine (rcheck10_is a n cap xs false _ HX.out hcc).mono ?_; rintro e w' ⟨rfl, hb'⟩)
    go_ret
    exact ⟨rfl, hb'⟩
  · obtain ⟨l, hl⟩ : ∃ l, sts xs = l := ⟨_, rfl⟩
    rw [hl] at hcc hr
    have hc := hcc
    have HL := Lib.hid hl
    have HLN : Hid (l.length = n) := by show _ = _; rw [← hl, sts_length]; exact hx.1
    have hsz := check_size hc
    have hn1 : n ≤ 6001 := by rw [← HLN.out]; exact hsz.2
    have hn2 : 1 ≤ n := by rw [← HLN.out]; exact hsz.1
    have hmk := run_make_row' (P := Try.prog) 23 3 (.int .i64 0) 8 und_intsR info_int rfl .i64 .i64 n (by omega) (by omega)
    have HN0 : Hid (NumR (depV l) n n (List.replicate n 0)) := ⟨by simp, fun m h1 h2 => absurd h2 (by omega), fun m _ => rep_zR n m⟩
    have HRR : Hid (depV l 0 = r) := by show _ = _; unfold deepC at hr; rw [if_pos hc] at hr; exact hr
    have hw1 : IntKind.i64.wrap ((n : Int) - 1) = (n : Int) - 1 := by rw [IntKind.wrap_i64]; omega
    clear hx hl hsz hr
    go_enter Try.func20, Try.ntmps20
    go_wp2_with (go_at_call 26; refine (rcheck10_is a n cap xs true _ HX.out (by rw [HL.out]; exact hc)).mono ?_; rintro e w1 ⟨rfl, hb1⟩; have HB1 := Lib.hid hb1; have HX1 := Lib.hid (HX.out.below hb1 (Nat.le_refl _)); have BA := Lib.hid (IoR.made w1 n (by omega)); have BW1 : Hid (Below w1.heap.size w1 (w1.alloc (.cells (madeCells #[.int .i64 0] n) 3))) := (Below.refl _ w1).alloc (Nat.le_refl _) _; clear hb1)
    go_loopw [5] (fun ix w6 => ∃ (j : Nat) (jx : Int) (ms : List Int), ix = .int .i64 jx ∧ jx = (j : Int) - 1 ∧ j ≤ n ∧ Hid (NumR (depV l) n j ms) ∧ Hid (IoR w6 w1.heap.size n ms) ∧ Hid (Below w1.heap.size w1 w6)) (fun ix _ => (intOf ix + 1).toNat)
    case atStart => exact ⟨n, (n : Int) - 1, _, by go_num, rfl, Nat.le_refl _, HN0.out, BA.out, BW1.out⟩
    case round =>
      obtain ⟨w7, hw7⟩ : ∃ x, x = wr := ⟨_, rfl⟩
      subst hw7
      obtain ⟨j, jx, ms, rfl, hjx, hjn, HNR, HRO, HW5⟩ := hrel
      by_cases hj : j = 0
      · have hneg : ¬ 0 ≤ jx := by omega
        have hnl : (0 : Int) < (n : Int) := by omega
        have hd0 : w7.cell? ⟨w1.heap.size, 0, none⟩ = some (.int .i64 r) := HRO.out.cell HNR.out.1 (by omega) (by rw [HNR.out.2.1 0 (by omega) (by omega)]; exact HRR.out)
        have HBB : Hid (Below w.heap.size w w7) := HB1.out.trans (HW5.out.mono HB1.out.size)
        clear hjx hjn hj
        go_wp2
        go_ret
        exact ⟨rfl, HBB.out⟩
      · obtain ⟨i, rfl⟩ : ∃ i, j = i + 1 := ⟨j - 1, by omega⟩
        obtain rfl : jx = (i : Int) := by omega
        have hin : i < n := by omega
        obtain ⟨b1, o1, f, sa, sn, sc, arcs, hp4, hbl, hcf, hcs, har, hyi⟩ := HX1.out.one i hin
        subst hp4
        have hcfn : w7.cell? ⟨b1, o1 + i * 2, none⟩ = some (.bool f) := by
          rw [HW5.out.cell (p := ⟨b1, o1 + i * 2, none⟩) hbl]; exact hcf
        have HCF := Lib.hid hcf
        have HBL := Lib.hid hbl
        have HCS := Lib.hid hcs
        have HARS := Lib.hid har
        have hsn : sn ≤ 9223372036854775807 := by
          have h1 := har.2.1
          have h2 := har.2.2.1
          unfold maxLen at h2
          omega
        have HST : Hid (l.getD i St.no = ⟨f, arcs⟩) := by
          show _ = _
          rw [← HL.out, sts_at, hyi]; rfl
        have HUP : Hid (∀ k, k < sn → ∀ {s t : Int}, arcs.getD k (0, 0) = (s, t) → (i : Int) < t ∧ t < (n : Int)) := by
          intro k hk s t h
          have hkl : k < arcs.length := by rw [HARS.out.1]; exact hk
          have hm : (s, t) ∈ (l.getD i St.no).arcs := by
            rw [HST.out, ← h]
            show arcs.getD k (0, 0) ∈ arcs
            rw [List.getD_eq_getElem?_getD, List.getElem?_eq_getElem hkl, Option.getD_some]; exact List.getElem_mem _
          have h2 := ((check_arcs hc (by rw [HLN.out]; exact hin)).1 _ hm).2
          rw [HLN.out] at h2; exact h2
        have hmi : (i : Int) < (n : Int) := by omega
        clear hbl hcf hcs har hyi
        cases f
        · have HV0 : Hid (upD l i 0 = -1) := upD_zero l i false (by rw [HST.out])
          have HI0 := Lib.hid (HNR.out.put hin (-1))
          have HR6 := Lib.hid (HRO.out.set i (-1))
          have HW6 : Hid (Below w1.heap.size w1 (w7.setCell ⟨w1.heap.size, i, none⟩ (.int .i64 (-1)))) := HW5.out.setCell (p := ⟨w1.heap.size, i, none⟩) (Nat.le_refl _) _
          have hcfx : ∀ v, (w7.setCell ⟨w1.heap.size, i, none⟩ v).cell? ⟨b1, o1 + i * 2, none⟩ = some (.bool false) := fun v => by rw [(HW5.out.setCell (p := ⟨w1.heap.size, i, none⟩) (Nat.le_refl _) v).cell (p := ⟨b1, o1 + i * 2, none⟩) HBL.out]; exact HCF.out
          have hfr : w7.frozen? ⟨w1.heap.size, i, none⟩ = false := HRO.out.frozenAt i
          obtain ⟨v0, hv0⟩ : ∃ v, ms.getD i 0 = v := ⟨_, rfl⟩
          have hc0 : w7.cell? ⟨w1.heap.size, i, none⟩ = some (.int .i64 v0) := HRO.out.cell HNR.out.1 hin hv0
          clear hv0 hjx hj
          go_wp2
          go_loopw [6] (fun kx w8 => ∃ (k : Nat) (ms3 : List Int), k ≤ sn ∧ kx = .int .i64 (k : Int) ∧ Hid (NumI (depV l) n i (upD l i k) ms3) ∧ Hid (IoR w8 w1.heap.size n ms3) ∧ Hid (Below w1.heap.size w1 w8)) (fun kx _ => sn - (intOf kx).toNat)
          case atStart => exact ⟨0, _, Nat.zero_le _, rfl, by show NumI _ _ _ _ _; rw [HV0.out]; exact HI0.out, HR6.out, HW6.out⟩
          case round =>
            obtain ⟨k, ms3, hk, rfl, HI3, HR3, HW3⟩ := hrel
            have hc2 : wr.cell? ⟨b1, o1 + i * 2 + 1, none⟩ = some (.slice sa sn sc) := by
              rw [HW3.out.cell (p := ⟨b1, o1 + i * 2 + 1, none⟩) HBL.out]; exact HCS.out
            by_cases hkl : k < sn
            · obtain ⟨b2, o2, s, t, rfl, hb2, hcs2, hct, hws, hwt, hst⟩ := HARS.out.one k hkl
              have hct3 : wr.cell? ⟨b2, o2 + k * 2 + 1, none⟩ = some (.int .i64 t) := by
                rw [HW3.out.cell (p := ⟨b2, o2 + k * 2 + 1, none⟩) hb2]; exact hct
              obtain ⟨htl, htn⟩ := HUP.out k hkl hst
              obtain ⟨tn, rfl⟩ : ∃ m : Nat, t = (m : Int) := ⟨t.toNat, by omega⟩
              have htl3 : tn < n := by omega
              obtain ⟨c, hcv⟩ : ∃ c, upD l i k = c := ⟨_, rfl⟩
              obtain ⟨d, hdv⟩ : ∃ d, depV l tn = d := ⟨_, rfl⟩
              have hds1 := depV_small hc (i := tn) (by rw [HLN.out]; exact htl3)
              rw [hdv] at hds1
              have hci : wr.cell? ⟨w1.heap.size, i, none⟩ = some (.int .i64 c) := HR3.out.cell HI3.out.1 hin (by rw [HI3.out.2.2.2]; exact hcv)
              have hcn : wr.cell? ⟨w1.heap.size, tn, none⟩ = some (.int .i64 d) := HR3.out.cell HI3.out.1 htl3 (by rw [HI3.out.2.1 tn (by omega) htl3]; exact hdv)
              have hfr3 : wr.frozen? ⟨w1.heap.size, i, none⟩ = false := HR3.out.frozenAt i
              have hdd : IntKind.i64.wrap (d + 1) = d + 1 := by rw [IntKind.wrap_i64]; omega
              have HNX : Hid (upD l i (k + 1) = if 0 ≤ d then max c (d + 1) else c) := by
                show _ = _
                rw [upD_next l i (by rw [HST.out]; show k < arcs.length; rw [HARS.out.1]; exact hkl) (by rw [HST.out]; exact hst), hcv, hdv]
              have HCV := Lib.hid hcv
              have hkli : (k : Int) < (sn : Int) := by omega
              have hi0 : (0 : Int) ≤ (i : Int) := by omega
              have hk0 : (0 : Int) ≤ (k : Int) := by omega
              have ht0 : (0 : Int) ≤ (tn : Int) := by omega
              have ht3 : (tn : Int) < (n : Int) := by omega
              clear hb2 hcs2 hct hws hwt hst hcv hdv
              by_cases hdp : 0 ≤ d
              · obtain ⟨e, hev⟩ : ∃ e, (if c < d + 1 then d + 1 else c) = e := ⟨_, rfl⟩
                have hem : max c (d + 1) = e := by rw [← hev]; omega
                have HEV := Lib.hid hev
                have HEM := Lib.hid hem
                have HEM2 : Hid (max (d + 1) c = e) := Lib.hid (by rw [← hev]; omega)
                have HI4 : Hid (NumI (depV l) n i (upD l i (k + 1)) (ms3.set i e)) := by show NumI _ _ _ _ _; rw [HNX.out, if_pos hdp, hem]; exact HI3.out.put hin e
                have HR4 := Lib.hid (HR3.out.set i e)
                have HW4 : Hid (Below w1.heap.size w1 (wr.setCell ⟨w1.heap.size, i, none⟩ (.int .i64 e))) := HW3.out.setCell (p := ⟨w1.heap.size, i, none⟩) (Nat.le_refl _) _
                clear hds1 hev hem
                go_wp2
                all_goals (try omega)
                go_roundw
                case rel =>
                  first | rw [HEV.out] | rw [HEM.out] | rw [HEM2.out]
                  exact ⟨k + 1, _, by omega, by go_num, HI4.out, HR4.out, HW4.out⟩
                case measure => simp [intOf]; omega
              · have HI4 : Hid (NumI (depV l) n i (upD l i (k + 1)) ms3) := by show NumI _ _ _ _ _; rw [HNX.out, if_neg hdp, ← HCV.out]; exact HI3.out
                clear hds1
                go_wp2
                all_goals (try omega)
                go_roundw
                case rel => exact ⟨k + 1, _, by omega, by go_num, HI4.out, HR3.out, HW3.out⟩
                case measure => simp [intOf]; omega
            · obtain rfl : sn = k := by omega
              have HD : Hid (NumR (depV l) n i ms3) := HI3.out.done (by
                have h := upD_all hc (i := i) (by rw [HLN.out]; exact hin)
                rw [HST.out] at h
                rw [← h]
                show _ = upD l i arcs.length
                rw [HARS.out.1])
              have hw2 : IntKind.i64.wrap ((i : Int) - 1) = (i : Int) - 1 := by rw [IntKind.wrap_i64]; omega
              go_wp2
              go_roundw
              case rel => exact ⟨i, (i : Int) - 1, ms3, by go_num, rfl, by omega, HD.out, HR3.out, HW3.out⟩
              case measure => first | (simp [intOf]; done) | (simp [intOf]; omega)
        · have HV0 : Hid (upD l i 0 = 0) := upD_zero l i true (by rw [HST.out])
          have HI0 := Lib.hid ((HNR.out.put hin (-1)).put hin 0)
          have HR6 := Lib.hid ((HRO.out.set i (-1)).set i 0)
          have HW6 : Hid (Below w1.heap.size w1 ((w7.setCell ⟨w1.heap.size, i, none⟩ (.int .i64 (-1))).setCell ⟨w1.heap.size, i, none⟩ (.int .i64 0))) := (HW5.out.setCell (p := ⟨w1.heap.size, i, none⟩) (Nat.le_refl _) _).setCell (p := ⟨w1.heap.size, i, none⟩) (Nat.le_refl _) _
          have HRX := Lib.hid (HRO.out.set i (-1))
          have hfr2 : (w7.setCell ⟨w1.heap.size, i, none⟩ (.int .i64 (-1))).frozen? ⟨w1.heap.size, i, none⟩ = false := HRX.out.frozenAt i
          have hc02 : (w7.setCell ⟨w1.heap.size, i, none⟩ (.int .i64 (-1))).cell? ⟨w1.heap.size, i, none⟩ = some (.int .i64 (-1)) := HRX.out.cell (by rw [List.length_set]; exact HNR.out.1) hin (set_hereR (by rw [HNR.out.1]; exact hin))
          have hcfx : ∀ v, (w7.setCell ⟨w1.heap.size, i, none⟩ v).cell? ⟨b1, o1 + i * 2, none⟩ = some (.bool true) := fun v => by rw [(HW5.out.setCell (p := ⟨w1.heap.size, i, none⟩) (Nat.le_refl _) v).cell (p := ⟨b1, o1 + i * 2, none⟩) HBL.out]; exact HCF.out
          have hfr : w7.frozen? ⟨w1.heap.size, i, none⟩ = false := HRO.out.frozenAt i
          obtain ⟨v0, hv0⟩ : ∃ v, ms.getD i 0 = v := ⟨_, rfl⟩
          have hc0 : w7.cell? ⟨w1.heap.size, i, none⟩ = some (.int .i64 v0) := HRO.out.cell HNR.out.1 hin hv0
          clear hv0 hjx hj
          go_wp2
          go_loopw [6] (fun kx w8 => ∃ (k : Nat) (ms3 : List Int), k ≤ sn ∧ kx = .int .i64 (k : Int) ∧ Hid (NumI (depV l) n i (upD l i k) ms3) ∧ Hid (IoR w8 w1.heap.size n ms3) ∧ Hid (Below w1.heap.size w1 w8)) (fun kx _ => sn - (intOf kx).toNat)
          case atStart => exact ⟨0, _, Nat.zero_le _, rfl, by show NumI _ _ _ _ _; rw [HV0.out]; exact HI0.out, HR6.out, HW6.out⟩
          case round =>
            obtain ⟨k, ms3, hk, rfl, HI3, HR3, HW3⟩ := hrel
            have hc2 : wr.cell? ⟨b1, o1 + i * 2 + 1, none⟩ = some (.slice sa sn sc) := by
              rw [HW3.out.cell (p := ⟨b1, o1 + i * 2 + 1, none⟩) HBL.out]; exact HCS.out
            by_cases hkl : k < sn
            · obtain ⟨b2, o2, s, t, rfl, hb2, hcs2, hct, hws, hwt, hst⟩ := HARS.out.one k hkl
              have hct3 : wr.cell? ⟨b2, o2 + k * 2 + 1, none⟩ = some (.int .i64 t) := by
                rw [HW3.out.cell (p := ⟨b2, o2 + k * 2 + 1, none⟩) hb2]; exact hct
              obtain ⟨htl, htn⟩ := HUP.out k hkl hst
              obtain ⟨tn, rfl⟩ : ∃ m : Nat, t = (m : Int) := ⟨t.toNat, by omega⟩
              have htl3 : tn < n := by omega
              obtain ⟨c, hcv⟩ : ∃ c, upD l i k = c := ⟨_, rfl⟩
              obtain ⟨d, hdv⟩ : ∃ d, depV l tn = d := ⟨_, rfl⟩
              have hds1 := depV_small hc (i := tn) (by rw [HLN.out]; exact htl3)
              rw [hdv] at hds1
              have hci : wr.cell? ⟨w1.heap.size, i, none⟩ = some (.int .i64 c) := HR3.out.cell HI3.out.1 hin (by rw [HI3.out.2.2.2]; exact hcv)
              have hcn : wr.cell? ⟨w1.heap.size, tn, none⟩ = some (.int .i64 d) := HR3.out.cell HI3.out.1 htl3 (by rw [HI3.out.2.1 tn (by omega) htl3]; exact hdv)
              have hfr3 : wr.frozen? ⟨w1.heap.size, i, none⟩ = false := HR3.out.frozenAt i
              have hdd : IntKind.i64.wrap (d + 1) = d + 1 := by rw [IntKind.wrap_i64]; omega
              have HNX : Hid (upD l i (k + 1) = if 0 ≤ d then max c (d + 1) else c) := by
                show _ = _
                rw [upD_next l i (by rw [HST.out]; show k < arcs.length; rw [HARS.out.1]; exact hkl) (by rw [HST.out]; exact hst), hcv, hdv]
              have HCV := Lib.hid hcv
              have hkli : (k : Int) < (sn : Int) := by omega
              have hi0 : (0 : Int) ≤ (i : Int) := by omega
              have hk0 : (0 : Int) ≤ (k : Int) := by omega
              have ht0 : (0 : Int) ≤ (tn : Int) := by omega
              have ht3 : (tn : Int) < (n : Int) := by omega
              clear hb2 hcs2 hct hws hwt hst hcv hdv
              by_cases hdp : 0 ≤ d
              · obtain ⟨e, hev⟩ : ∃ e, (if c < d + 1 then d + 1 else c) = e := ⟨_, rfl⟩
                have hem : max c (d + 1) = e := by rw [← hev]; omega
                have HEV := Lib.hid hev
                have HEM := Lib.hid hem
                have HEM2 : Hid (max (d + 1) c = e) := Lib.hid (by rw [← hev]; omega)
                have HI4 : Hid (NumI (depV l) n i (upD l i (k + 1)) (ms3.set i e)) := by show NumI _ _ _ _ _; rw [HNX.out, if_pos hdp, hem]; exact HI3.out.put hin e
                have HR4 := Lib.hid (HR3.out.set i e)
                have HW4 : Hid (Below w1.heap.size w1 (wr.setCell ⟨w1.heap.size, i, none⟩ (.int .i64 e))) := HW3.out.setCell (p := ⟨w1.heap.size, i, none⟩) (Nat.le_refl _) _
                clear hds1 hev hem
                go_wp2
                all_goals (try omega)
                go_roundw
                case rel =>
                  first | rw [HEV.out] | rw [HEM.out] | rw [HEM2.out]
                  exact ⟨k + 1, _, by omega, by go_num, HI4.out, HR4.out, HW4.out⟩
                case measure => simp [intOf]; omega
              · have HI4 : Hid (NumI (depV l) n i (upD l i (k + 1)) ms3) := by show NumI _ _ _ _ _; rw [HNX.out, if_neg hdp, ← HCV.out]; exact HI3.out
                clear hds1
                go_wp2
                all_goals (try omega)
                go_roundw
                case rel => exact ⟨k + 1, _, by omega, by go_num, HI4.out, HR3.out, HW3.out⟩
                case measure => simp [intOf]; omega
            · obtain rfl : sn = k := by omega
              have HD : Hid (NumR (depV l) n i ms3) := HI3.out.done (by
                have h := upD_all hc (i := i) (by rw [HLN.out]; exact hin)
                rw [HST.out] at h
                rw [← h]
                show _ = upD l i arcs.length
                rw [HARS.out.1])
              have hw2 : IntKind.i64.wrap ((i : Int) - 1) = (i : Int) - 1 := by rw [IntKind.wrap_i64]; omega
              go_wp2
              go_roundw
              case rel => exact ⟨i, (i : Int) - 1, ms3, by go_num, rfl, by omega, HD.out, HR3.out, HW3.out⟩
              case measure => first | (simp [intOf]; done) | (simp [intOf]; omega)
end Go.Proofs.Ytimjdlbhbiklgaa
