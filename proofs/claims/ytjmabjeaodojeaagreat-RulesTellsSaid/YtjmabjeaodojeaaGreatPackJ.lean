import Derived.Test.YtjmabjeaodojeaaGreatSpecRefB
import Derived.Test.YtjmabjeaodojeaaGreatPackD
import Derived.Test.YtjmabjeaodojeaaGreatSpecRefM
import Derived.Test.YtjmabjeaodojeaaGreatSpecRefF
import Derived.Test.YtjmabjeaodojeaaGreatPackF
/- Used by the law. -/
namespace Go.Proofs.YtjmabjeaodojeaaGreat
open Go.RowKit

def SignsIs (w w' : World) (e : Ending) (r : Option (List Int)) : Prop :=
  ∃ a' m c' l er, e = .returned (.tuple #[.slice a' m c', .int .i64 er]) ∧ Sl .i64 w' a' m c' l ∧ ((r = some l ∧ er = 0) ∨ (r = none ∧ l = [] ∧ er = 10)) ∧ Below w.heap.size w w'

set_option maxRecDepth 100000 in
theorem str_is {f g : List Int} {lit : List UInt8} (hf : ∀ z ∈ f, (Lit.int .u8 z).wf = true) (hg : ∀ z ∈ g, (Lit.int .u8 z).wf = true) (hl : (strOfNums g).toList = lit) : ((strOfNums f).toList == lit) = decide (f = g) := by
  by_cases h : f = g
  · subst h; rw [hl]; simp
  · rw [decide_eq_false h, ← hl]
    apply beq_eq_false_iff_ne.2
    intro e
    refine h (bytes_ne hf hg ?_)
    rw [ByteArray.toList_eq, ByteArray.toList_eq] at e
    have e2 : (strOfNums f).data = (strOfNums g).data := Array.ext' e
    cases h1 : strOfNums f with
    | mk d => cases h2 : strOfNums g with
      | mk d' => rw [h1, h2] at e2; exact congrArg ByteArray.mk e2

set_option maxRecDepth 100000 in
set_option maxHeartbeats 3200000 in
theorem rside_is (a : Option Addr) (n cap : Nat) (f : List Int) (r : Option (List Int)) (w : World) (hs : Sl .u8 w a n cap f) (hn : n ≤ 1000000) (hr : Spec.side f = r) :
    Calls Tryz.prog 80 #[.slice a n cap] w fun e w' => SignsIs w w' e r := by
  have hstr := hs.str
  have HS := Lib.hid hs
  have he := str_is (f := f) (g := [95]) (lit := [95]) hs.2.2.2.1 (by decide) (by rw [ByteArray.toList_eq]; rfl)
  unfold Spec.side at hr
  by_cases hf : f = [95]
  · rw [decide_eq_true hf] at he
    obtain rfl : r = some [] := by rw [← hr, if_pos hf]
    clear hs hr hf
    go_enter Tryz.func80, Tryz.ntmps80
    go_wp2
    go_ret2
    exact ⟨none, 0, 0, [], 0, rfl, Sl.nil, .inl ⟨rfl, rfl⟩, Below.refl _ _⟩
  · rw [decide_eq_false hf] at he
    rw [if_neg hf] at hr
    obtain ⟨l, er, hri⟩ := readIs_ex f
    have HRI := Lib.hid hri
    have HR := Lib.hid hr
    clear hs hr hri hf
    go_enter Tryz.func80, Tryz.ntmps80
    go_wp2_with fail
    refine (rread_gen a n cap f l er w HRI.out HS.out (by omega)).mono ?_
    rintro e w1 ⟨a', c, rfl, hs1, hb⟩
    have HS1 := Lib.hid hs1
    have HB := Lib.hid hb
    clear hs1 hb
    go_wp2
    go_ret2
    refine ⟨a', l.length, c, l, er, rfl, HS1.out, ?_, HB.out⟩
    rcases HRI.out with ⟨h, he⟩ | ⟨h, hl, he⟩
    · exact .inl ⟨by rw [← HR.out]; exact Spec.signs_of h, he⟩
    · exact .inr ⟨by rw [← HR.out]; exact Spec.signs_of h, hl, he⟩

end Go.Proofs.YtjmabjeaodojeaaGreat

/- Used by the law. -/
namespace Go.Proofs.YtjmabjeaodojeaaGreat
open Go.RowKit

theorem drop_getD {l : List Int} {i : Nat} (h : i < l.length) : l.drop i = l.getD i 0 :: l.drop (i + 1) := by
  rw [List.drop_eq_getElem_cons h]; simp [h]

set_option maxHeartbeats 12800000 in
set_option maxRecDepth 100000 in
theorem rkeys_is (a : Option Addr) (n cap : Nat) (l : List Int) (C : Int) (ok : Bool) (rs : List Rul) (w : World) (hs : Sl .i64 w a n cap l) (hn : n ≤ 5000) (hC : 0 ≤ C ∧ C < 18446744073709551616) (hok : Spec.keysOk 0 l = ok) (hrs : Spec.keysG C 0 0 l = rs) :
    Calls Tryz.prog 81 #[.slice a n cap, .int .u64 C] w fun e w' => RulesOk w w' e rs ok := by
  have hnc := hs.2.1
  have hcm := hs.2.2.1
  unfold maxLen at hcm
  have HS := Lib.hid hs
  have HL := Lib.hid hs.1
  have hmx : Tryz.prog.follows .mixedOrders = true := by kernel_rfl
  have HMX := Lib.hid hmx
  have HOK := Lib.hid hok
  have HRS := Lib.hid hrs
  have HWA : Hid (∀ j, j < n → (Lit.int .i64 (l.getD j 0)).wf = true) := fun j hj => by
    refine HS.out.2.2.2.1 _ ?_
    rw [List.getD_eq_getElem?_getD, List.getElem?_eq_getElem (by rw [HL.out]; exact hj), Option.getD_some]
    exact List.getElem_mem _
  clear hs hmx hok hrs
  go_enter Tryz.func81, Tryz.ntmps81
  go_wp2
  go_loopw [6, 7, 8, 9] (fun ov rx bx ix wr => ∃ (i row : Nat) (b : Bool) (p : Int) (outs : List Rw), i ≤ n ∧ ix = .int .i64 (i : Int) ∧ row ≤ i ∧ rx = .int .i64 (row : Int) ∧ bx = .bool b ∧ outs.length ≤ i * 2 ∧ Hid (Acc w.heap.size wr ov outs) ∧ Hid (ruls outs ++ Spec.keysG C row p (l.drop i) = rs) ∧ Hid ((b && Spec.keysOk row (l.drop i)) = ok) ∧ Hid (1 ≤ row → p = l.getD (i - 1) 0) ∧ Hid (Below w.heap.size w wr)) (fun _ _ _ ix _ => n - (intOf ix).toNat)
  case atStart => exact ⟨0, 0, true, 0, [], Nat.zero_le _, rfl, Nat.zero_le _, rfl, rfl, Nat.zero_le _, Acc.nil _ _, HRS.out, by show _ = _; rw [← HOK.out]; rfl, (fun h => by omega), Below.refl _ _⟩
  case round =>
    obtain ⟨i, row, b, p, outs, hi, rfl, hri, rfl, rfl, hol, HAC, HRL, HOKB, HP, HBW⟩ := hrel
    obtain ⟨ov, hov⟩ : ∃ v, v = u6 := ⟨_, rfl⟩
    subst hov
    by_cases hlt : i < n
    · have hlti : (i : Int) < (n : Int) := by omega
      obtain ⟨b1, o1, rfl, hb1, hc1⟩ := HS.out.at (by omega)
      obtain ⟨x, hx⟩ : ∃ x, x = l.getD i 0 := ⟨_, rfl⟩
      have HX := Lib.hid hx
      have HC1 : Hid (∀ (j : Nat) (W : World), j < n → Below w.heap.size w W → W.cell? ⟨b1, o1 + j, none⟩ = some (.int .i64 (l.getD j 0))) := fun j W hj hB => by
        rw [hB.cell (p := ⟨b1, o1 + j, none⟩) hb1]; exact hc1 j hj
      have hx1 := HC1.out i _ hlt HBW.out
      rw [← hx] at hx1
      have HDR : Hid (l.drop i = x :: l.drop (i + 1)) := by
        show _ = _
        rw [drop_getD (by rw [HL.out]; exact hlt), ← hx]
      clear hc1 hx hb1
      by_cases h124 : x = 124
      · have he : (x == 124) = true := by simpa using h124
        have HRN : Hid (Spec.keysG C row p (l.drop i) = Spec.keysG C 0 x (l.drop (i + 1))) := by
          show _ = _
          rw [HDR.out]
          show (if x = 124 then _ else _) = _
          rw [if_pos h124]
        have HON : Hid (Spec.keysOk row (l.drop i) = Spec.keysOk 0 (l.drop (i + 1))) := by
          show _ = _
          rw [HDR.out]
          show (if x = 124 then _ else _) = _
          rw [if_pos h124]
        clear h124
        go_wp2
        go_roundw
        case rel => exact ⟨i + 1, 0, b, x, outs, by omega, by go_num, by omega, by first | rfl | go_num, by first | rfl | trivial, by omega, HAC.out, by show _ = _; rw [← HRN.out]; exact HRL.out, by show _ = _; rw [← HON.out]; exact HOKB.out, (fun h => by omega), HBW.out⟩
        case measure => simp [intOf]; omega
      · have he124 : (x == 124) = false := by simpa using h124
        have HNE := Lib.hid h124
        have HPN : Hid (1 ≤ row + 1 → x = l.getD (i + 1 - 1) 0) := fun _ => HX.out
        have HON : Hid (Spec.keysOk row (l.drop i) = (decide (row + 1 ≤ 12) && decide (x ≠ 95) && Spec.keysOk (row + 1) (l.drop (i + 1)))) := by
          show _ = _
          rw [HDR.out]
          show (if x = 124 then _ else _) = _
          rw [if_neg h124]
        clear h124
        cases b
        · have HOKN : Hid ((false && Spec.keysOk (row + 1) (l.drop (i + 1))) = ok) := by
            show _ = _
            rw [← HOKB.out]; simp
          by_cases hrow : row = 0
          · have hr1 : ¬ (1 : Int) < (row : Int) + 1 := by omega
            have hd1 : decide ((1 : Int) < (row : Int) + 1) = false := by rw [decide_eq_false_iff_not]; exact hr1
            have HRN : Hid (Spec.keysG C row p (l.drop i) = Spec.keysG C (row + 1) x (l.drop (i + 1))) := by
              show _ = _
              rw [HDR.out]
              show (if x = 124 then _ else _) = _
              rw [if_neg HNE.out, if_neg (fun h => by omega), List.nil_append]
            go_wp2
            go_quiet (fail)
            go_wp2
            go_roundw
            case rel => exact ⟨i + 1, row + 1, false, x, outs, by omega, by go_num, by omega, by go_num, by first | rfl | trivial, by omega, HAC.out.drawn ⟨_, rfl⟩, by show _ = _; rw [← HRN.out]; exact HRL.out, HOKN.out, HPN.out, below_drawn HBW.out ⟨_, rfl⟩⟩
            case measure => simp [intOf]; omega
          · have hr1 : (1 : Int) < (row : Int) + 1 := by omega
            have hd1 : decide ((1 : Int) < (row : Int) + 1) = true := by rw [decide_eq_true_iff]; exact hr1
            have HI0 : Hid (0 < i) := by show _ < _; omega
            have hpe := HP.out (by omega)
            have HPE := Lib.hid hpe
            have hp1 := HC1.out (i - 1) _ (by omega) HBW.out
            rw [← HPE.out] at hp1
            have hsub : IntKind.i64.wrap ((i : Int) - 1) = (i : Int) - 1 := by rw [IntKind.wrap_i64]; omega
            have hnat : ((i : Int) - 1).toNat = i - 1 := by omega
            have hlt1 : (i : Int) - 1 < (n : Int) := by omega
            have hge1 : (0 : Int) ≤ (i : Int) - 1 := by omega
            clear hpe
            by_cases hxp : x = p
            · have he : (x != p) = false := by simpa using hxp
              have HRN : Hid (Spec.keysG C row p (l.drop i) = Spec.keysG C (row + 1) x (l.drop (i + 1))) := by
                show _ = _
                rw [HDR.out]
                show (if x = 124 then _ else _) = _
                rw [if_neg HNE.out, if_neg (fun h => h.2 hxp), List.nil_append]
              clear hxp
              go_wp2
              go_quiet (fail)
              go_wp2
              go_roundw
              case rel => exact ⟨i + 1, row + 1, false, x, outs, by omega, by go_num, by omega, by go_num, by first | rfl | trivial, by omega, HAC.out.drawn ⟨_, rfl⟩, by show _ = _; rw [← HRN.out]; exact HRL.out, HOKN.out, HPN.out, below_drawn HBW.out ⟨_, rfl⟩⟩
              case measure => simp [intOf]; omega
            · have he : (x != p) = true := by simpa using hxp
              have HRN : Hid (Spec.keysG C row p (l.drop i) = [⟨[p], [x], C⟩, ⟨[x], [p], C⟩] ++ Spec.keysG C (row + 1) x (l.drop (i + 1))) := by
                show _ = _
                rw [HDR.out]
                show (if x = 124 then _ else _) = _
                rw [if_neg HNE.out, if_pos ⟨by omega, hxp⟩]
                rfl
              clear hxp
              go_wp2
              go_quiet (fail)
              go_wp2_with fail
              generalize hV : World.drewN _ _ = V
              have HAV : Hid (Acc w.heap.size V ov outs) := by rw [← hV]; exact HAC.out.drawn ⟨_, rfl⟩
              have HBV : Hid (Below w.heap.size w V) := by rw [← hV]; exact below_drawn HBW.out ⟨_, rfl⟩
              have HBA : Hid (w.heap.size ≤ V.drew.heap.size) := HBV.out.size
              have HROW : Hid (∀ g, ov.ownBlock = some g → g < V.heap.size) := fun g hg => (HAV.out.1.lt g hg).2
              have HLOW : Hid (∀ g, ov.ownBlock = some g → w.heap.size ≤ g) := fun g hg => (HAV.out.1.lt g hg).1
              have HC64 := Lib.hid hC
              have HCX : Hid (∀ w1, V.drew.grownBy w1 ov.ownBlock → w1.cell? ⟨b1, o1 + i, none⟩ = some (.int .i64 x)) := fun w1 hg => by
                rw [HX.out]; exact HC1.out i _ hlt (HBV.out.drew.grown hg HBV.out.size HLOW.out)
              have HCP : Hid (∀ w1, V.drew.grownBy w1 ov.ownBlock → w1.cell? ⟨b1, o1 + (i - 1), none⟩ = some (.int .i64 p)) := fun w1 hg => by
                rw [HPE.out]; exact HC1.out (i - 1) _ (by omega) (HBV.out.drew.grown hg HBV.out.size HLOW.out)
              have HWF : Hid (∀ z, z = x ∨ z = p → (Lit.int .i64 z).wf = true) := fun z hz => by
                rcases hz with rfl | rfl
                · rw [HX.out]; exact HWA.out i hlt
                · rw [HPE.out]; exact HWA.out (i - 1) (by omega)
              clear hV hx1 hp1
              refine wp_region_table' HMX.out 28 [.val ov, .val (.slice (some ⟨b1, o1, none⟩) n cap), .val (.int .i64 (i : Int)), .val (.int .i64 ((i - 1 : Nat) : Int)), .val (.pointer (some ⟨b1, o1 + (i - 1), none⟩)), .val (.int .i64 p), .one p, .val (.slice (some ⟨b1, o1, none⟩) n cap), .val (.int .i64 (i : Int)), .val (.pointer (some ⟨b1, o1 + i, none⟩)), .val (.int .i64 x), .one x, .val (.int .u64 C), .rule ⟨[p], [x], C⟩, .val (.slice (some ⟨b1, o1, none⟩) n cap), .val (.int .i64 (i : Int)), .val (.pointer (some ⟨b1, o1 + i, none⟩)), .val (.int .i64 x), .one x, .val (.slice (some ⟨b1, o1, none⟩) n cap), .val (.int .i64 (i : Int)), .val (.int .i64 ((i - 1 : Nat) : Int)), .val (.pointer (some ⟨b1, o1 + (i - 1), none⟩)), .val (.int .i64 p), .one p, .val (.int .u64 C), .rule ⟨[x], [p], C⟩, .rules [⟨[p], [x], C⟩, ⟨[x], [p], C⟩], .out [⟨[p], [x], C⟩, ⟨[x], [p], C⟩], .out [⟨[p], [x], C⟩, ⟨[x], [p], C⟩]] w.heap.size outs ov (by kernel_rfl) (by rfl) HAV.out HBV.out.size (fun i1 o ho a1 w1 hg hacc1 hw ht => ?_) (fun tm w1 hsz hg hfr hto => ?_)
              · have hLn := HL
                match i1, ho with
                | 0, ho =>
                  obtain rfl := Option.some.inj ho
                  exact StepsTo.move rfl (.tmp 6) (.inl rfl) ⟨(hw 6 (by kernel_rfl)), World.grownBy.refl _ _, fun _ => World.grownBy.refl _ _⟩
                | 1, ho =>
                  obtain rfl := Option.some.inj ho
                  exact StepsTo.move rfl (.tmp 0) (.inl rfl) ⟨(hw 0 (by kernel_rfl)), World.grownBy.refl _ _, fun _ => World.grownBy.refl _ _⟩
                | 2, ho =>
                  obtain rfl := Option.some.inj ho
                  exact StepsTo.move rfl (.tmp 9) (.inl rfl) ⟨(hw 9 (by kernel_rfl)), World.grownBy.refl _ _, fun _ => World.grownBy.refl _ _⟩
                | 3, ho =>
                  obtain rfl := Option.some.inj ho
                  exact steps_sub1 rfl (.tmp 51) _ _ rfl (k := i) HI0.out (ht 2 51 (by kernel_rfl)) (by omega) ⟨rfl, World.grownBy.refl _ _, fun _ => World.grownBy.refl _ _⟩
                | 4, ho =>
                  obtain rfl := Option.some.inj ho
                  exact steps_index rfl (.tmp 50) (.tmp 52) rfl (ht 1 50 (by kernel_rfl)) (ht 3 52 (by kernel_rfl)) (by omega) ⟨rfl, World.grownBy.refl _ _, fun _ => World.grownBy.refl _ _⟩
                | 5, ho =>
                  obtain rfl := Option.some.inj ho
                  exact steps_load rfl (.tmp 53) rfl (ht 4 53 (by kernel_rfl)) (HCP.out _ hg) ⟨rfl, World.grownBy.refl _ _, fun _ => World.grownBy.refl _ _⟩
                | 6, ho =>
                  obtain rfl := Option.some.inj ho
                  exact steps_slice1 rfl (.tmp 54) rfl (ht 5 54 (by kernel_rfl)) ⟨newOne_alloc hg.size (HWF.out _ (.inr rfl)), World.grownBy_alloc _ _ _, fun _ => World.grownBy_alloc _ _ _⟩
                | 7, ho =>
                  obtain rfl := Option.some.inj ho
                  exact StepsTo.move rfl (.tmp 0) (.inl rfl) ⟨(hw 0 (by kernel_rfl)), World.grownBy.refl _ _, fun _ => World.grownBy.refl _ _⟩
                | 8, ho =>
                  obtain rfl := Option.some.inj ho
                  exact StepsTo.move rfl (.tmp 9) (.inl rfl) ⟨(hw 9 (by kernel_rfl)), World.grownBy.refl _ _, fun _ => World.grownBy.refl _ _⟩
                | 9, ho =>
                  obtain rfl := Option.some.inj ho
                  exact steps_index rfl (.tmp 56) (.tmp 57) rfl (ht 7 56 (by kernel_rfl)) (ht 8 57 (by kernel_rfl)) hlt ⟨rfl, World.grownBy.refl _ _, fun _ => World.grownBy.refl _ _⟩
                | 10, ho =>
                  obtain rfl := Option.some.inj ho
                  exact steps_load rfl (.tmp 58) rfl (ht 9 58 (by kernel_rfl)) (HCX.out _ hg) ⟨rfl, World.grownBy.refl _ _, fun _ => World.grownBy.refl _ _⟩
                | 11, ho =>
                  obtain rfl := Option.some.inj ho
                  exact steps_slice1 rfl (.tmp 59) rfl (ht 10 59 (by kernel_rfl)) ⟨newOne_alloc hg.size (HWF.out _ (.inl rfl)), World.grownBy_alloc _ _ _, fun _ => World.grownBy_alloc _ _ _⟩
                | 12, ho =>
                  obtain rfl := Option.some.inj ho
                  exact StepsTo.move rfl (.tmp 1) (.inl rfl) ⟨(hw 1 (by kernel_rfl)), World.grownBy.refl _ _, fun _ => World.grownBy.refl _ _⟩
                | 13, ho =>
                  obtain rfl := Option.some.inj ho
                  obtain ⟨p, q, e1, e2, hr⟩ := newRule_of (ht 6 55 (by kernel_rfl)) (ht 11 60 (by kernel_rfl)) HC64.out
                  exact steps_rule rfl (.tmp 55) (.tmp 60) (.tmp 61) rfl e1 e2 (ht 12 61 (by kernel_rfl)) ⟨hr, World.grownBy.refl _ _, fun _ => World.grownBy.refl _ _⟩
                | 14, ho =>
                  obtain rfl := Option.some.inj ho
                  exact StepsTo.move rfl (.tmp 0) (.inl rfl) ⟨(hw 0 (by kernel_rfl)), World.grownBy.refl _ _, fun _ => World.grownBy.refl _ _⟩
                | 15, ho =>
                  obtain rfl := Option.some.inj ho
                  exact StepsTo.move rfl (.tmp 9) (.inl rfl) ⟨(hw 9 (by kernel_rfl)), World.grownBy.refl _ _, fun _ => World.grownBy.refl _ _⟩
                | 16, ho =>
                  obtain rfl := Option.some.inj ho
                  exact steps_index rfl (.tmp 63) (.tmp 64) rfl (ht 14 63 (by kernel_rfl)) (ht 15 64 (by kernel_rfl)) hlt ⟨rfl, World.grownBy.refl _ _, fun _ => World.grownBy.refl _ _⟩
                | 17, ho =>
                  obtain rfl := Option.some.inj ho
                  exact steps_load rfl (.tmp 65) rfl (ht 16 65 (by kernel_rfl)) (HCX.out _ hg) ⟨rfl, World.grownBy.refl _ _, fun _ => World.grownBy.refl _ _⟩
                | 18, ho =>
                  obtain rfl := Option.some.inj ho
                  exact steps_slice1 rfl (.tmp 66) rfl (ht 17 66 (by kernel_rfl)) ⟨newOne_alloc hg.size (HWF.out _ (.inl rfl)), World.grownBy_alloc _ _ _, fun _ => World.grownBy_alloc _ _ _⟩
                | 19, ho =>
                  obtain rfl := Option.some.inj ho
                  exact StepsTo.move rfl (.tmp 0) (.inl rfl) ⟨(hw 0 (by kernel_rfl)), World.grownBy.refl _ _, fun _ => World.grownBy.refl _ _⟩
                | 20, ho =>
                  obtain rfl := Option.some.inj ho
                  exact StepsTo.move rfl (.tmp 9) (.inl rfl) ⟨(hw 9 (by kernel_rfl)), World.grownBy.refl _ _, fun _ => World.grownBy.refl _ _⟩
                | 21, ho =>
                  obtain rfl := Option.some.inj ho
                  exact steps_sub1 rfl (.tmp 69) _ _ rfl (k := i) HI0.out (ht 20 69 (by kernel_rfl)) (by omega) ⟨rfl, World.grownBy.refl _ _, fun _ => World.grownBy.refl _ _⟩
                | 22, ho =>
                  obtain rfl := Option.some.inj ho
                  exact steps_index rfl (.tmp 68) (.tmp 70) rfl (ht 19 68 (by kernel_rfl)) (ht 21 70 (by kernel_rfl)) (by omega) ⟨rfl, World.grownBy.refl _ _, fun _ => World.grownBy.refl _ _⟩
                | 23, ho =>
                  obtain rfl := Option.some.inj ho
                  exact steps_load rfl (.tmp 71) rfl (ht 22 71 (by kernel_rfl)) (HCP.out _ hg) ⟨rfl, World.grownBy.refl _ _, fun _ => World.grownBy.refl _ _⟩
                | 24, ho =>
                  obtain rfl := Option.some.inj ho
                  exact steps_slice1 rfl (.tmp 72) rfl (ht 23 72 (by kernel_rfl)) ⟨newOne_alloc hg.size (HWF.out _ (.inr rfl)), World.grownBy_alloc _ _ _, fun _ => World.grownBy_alloc _ _ _⟩
                | 25, ho =>
                  obtain rfl := Option.some.inj ho
                  exact StepsTo.move rfl (.tmp 1) (.inl rfl) ⟨(hw 1 (by kernel_rfl)), World.grownBy.refl _ _, fun _ => World.grownBy.refl _ _⟩
                | 26, ho =>
                  obtain rfl := Option.some.inj ho
                  obtain ⟨p, q, e1, e2, hr⟩ := newRule_of (ht 18 67 (by kernel_rfl)) (ht 24 73 (by kernel_rfl)) HC64.out
                  exact steps_rule rfl (.tmp 67) (.tmp 73) (.tmp 74) rfl e1 e2 (ht 25 74 (by kernel_rfl)) ⟨hr, World.grownBy.refl _ _, fun _ => World.grownBy.refl _ _⟩
                | 27, ho =>
                  obtain rfl := Option.some.inj ho
                  obtain ⟨X, e1, hX, hr, hh⟩ := (ht 13 62 (by kernel_rfl))
                  obtain ⟨Y, e2, hY, hr2, hh2⟩ := (ht 26 75 (by kernel_rfl))
                  exact steps_rules2 rfl (.tmp 62) (.tmp 75) rfl e1 e2 ⟨by have h := newRules_alloc (w := w1) hg.size [X, Y] (by intro x hx; simp only [List.mem_cons, List.not_mem_nil, or_false] at hx; rcases hx with rfl | rfl <;> first | exact ⟨hX, hh⟩ | exact ⟨hY, hh2⟩) (by simp); rw [show ruls [X, Y] = [X.r, Y.r] from rfl, hr, hr2] at h; exact h, World.grownBy_alloc _ _ _, fun _ => World.grownBy_alloc _ _ _⟩
                | 28, ho =>
                  obtain rfl := Option.some.inj ho
                  exact steps_append rfl (.tmp 49) (.tmp 76) rfl (ht 0 49 (by kernel_rfl)) (hacc1 rfl) HROW.out rfl (ht 27 76 (by kernel_rfl)) (by simp) (by simp; omega) (Nat.le_trans HBA.out hg.size) (fun v' w' zs hz ha hgr hat => ⟨⟨⟨zs, hz, ha⟩, hat.imp id fun h => ⟨_, h, hg.size⟩⟩, hgr, fun hne => absurd rfl hne⟩)
                | 29, ho =>
                  obtain rfl := Option.some.inj ho
                  exact StepsTo.move rfl (.tmp 77) (.inr rfl) ⟨(ht 28 77 (by kernel_rfl)), World.grownBy.refl _ _, fun _ => World.grownBy.refl _ _⟩
                | j1 + 30, ho => exact absurd (Array.getElem?_eq_some_iff.1 ho).1 (by simp)
              · have h15 := hto 29 6 (by kernel_rfl)
                clear hto
                rw [act_lit tm (show tm.size = 80 from hsz)]
                simp only [List.range, List.range.loop, List.map_cons, List.map_nil]
                rw [hfr 0 (by kernel_rfl), hfr 1 (by kernel_rfl), hfr 2 (by kernel_rfl), hfr 3 (by kernel_rfl), hfr 4 (by kernel_rfl), hfr 5 (by kernel_rfl), hfr 7 (by kernel_rfl), hfr 8 (by kernel_rfl), hfr 9 (by kernel_rfl), hfr 10 (by kernel_rfl), hfr 11 (by kernel_rfl), hfr 12 (by kernel_rfl), hfr 13 (by kernel_rfl), hfr 14 (by kernel_rfl), hfr 15 (by kernel_rfl), hfr 16 (by kernel_rfl), hfr 17 (by kernel_rfl), hfr 18 (by kernel_rfl), hfr 19 (by kernel_rfl), hfr 20 (by kernel_rfl), hfr 21 (by kernel_rfl), hfr 22 (by kernel_rfl), hfr 23 (by kernel_rfl), hfr 24 (by kernel_rfl), hfr 25 (by kernel_rfl), hfr 26 (by kernel_rfl), hfr 27 (by kernel_rfl), hfr 28 (by kernel_rfl), hfr 29 (by kernel_rfl), hfr 30 (by kernel_rfl), hfr 31 (by kernel_rfl), hfr 32 (by kernel_rfl), hfr 33 (by kernel_rfl), hfr 34 (by kernel_rfl), hfr 35 (by kernel_rfl), hfr 36 (by kernel_rfl), hfr 37 (by kernel_rfl), hfr 38 (by kernel_rfl), hfr 39 (by kernel_rfl), hfr 40 (by kernel_rfl), hfr 41 (by kernel_rfl), hfr 42 (by kernel_rfl), hfr 43 (by kernel_rfl), hfr 44 (by kernel_rfl), hfr 45 (by kernel_rfl), hfr 46 (by kernel_rfl), hfr 47 (by kernel_rfl), hfr 48 (by kernel_rfl), hfr 78 (by kernel_rfl), hfr 79 (by kernel_rfl)]
                generalize tm.getD 6 undef = y6 at *
                generalize tm.getD 49 undef = y49 at *
                generalize tm.getD 50 undef = y50 at *
                generalize tm.getD 51 undef = y51 at *
                generalize tm.getD 52 undef = y52 at *
                generalize tm.getD 53 undef = y53 at *
                generalize tm.getD 54 undef = y54 at *
                generalize tm.getD 55 undef = y55 at *
                generalize tm.getD 56 undef = y56 at *
                generalize tm.getD 57 undef = y57 at *
                generalize tm.getD 58 undef = y58 at *
                generalize tm.getD 59 undef = y59 at *
                generalize tm.getD 60 undef = y60 at *
                generalize tm.getD 61 undef = y61 at *
                generalize tm.getD 62 undef = y62 at *
                generalize tm.getD 63 undef = y63 at *
                generalize tm.getD 64 undef = y64 at *
                generalize tm.getD 65 undef = y65 at *
                generalize tm.getD 66 undef = y66 at *
                generalize tm.getD 67 undef = y67 at *
                generalize tm.getD 68 undef = y68 at *
                generalize tm.getD 69 undef = y69 at *
                generalize tm.getD 70 undef = y70 at *
                generalize tm.getD 71 undef = y71 at *
                generalize tm.getD 72 undef = y72 at *
                generalize tm.getD 73 undef = y73 at *
                generalize tm.getD 74 undef = y74 at *
                generalize tm.getD 75 undef = y75 at *
                generalize tm.getD 76 undef = y76 at *
                generalize tm.getD 77 undef = y77 at *
                clear hfr hsz tm
                simp only [Array.getD_eq_getD_getElem?, List.getElem?_toArray, List.getElem?_cons_succ, List.getElem?_cons_zero, Option.getD_some]
                have h15' : (∃ zs, ruls zs = [⟨[p], [x], C⟩, ⟨[x], [p], C⟩] ∧ Acc w.heap.size w1 y6 (outs ++ zs)) ∧ (ov.ownBlock = y6.ownBlock ∨ ∃ g, y6.ownBlock = some g ∧ V.heap.size ≤ g) := h15
                obtain ⟨⟨zs, hzs, hacc⟩, _⟩ := h15'
                have hzl : zs.length = 2 := by rw [← ruls_length zs, hzs]; rfl
                have HZS := Lib.hid hzs
                have HACN := Lib.hid hacc
                have HB1W : Hid (Below w.heap.size w w1) := HBV.out.drew.grown hg HBV.out.size HLOW.out
                clear h15 hzs hacc hg
                go_wp2
                go_roundw
                case rel => exact ⟨i + 1, row + 1, false, x, outs ++ zs, by omega, by go_num, by omega, by go_num, by first | rfl | trivial, by simp [hzl]; omega, HACN.out, by show _ = _; rw [ruls_app, HZS.out, List.append_assoc, ← HRN.out]; exact HRL.out, HOKN.out, HPN.out, HB1W.out⟩
                case measure => simp [intOf]; omega
        · by_cases h12 : row + 1 ≤ 12
          · have h12i : (row : Int) + 1 ≤ 12 := by omega
            have hd12 : decide ((row : Int) + 1 ≤ 12) = true := by rw [decide_eq_true_iff]; exact h12i
            by_cases h95 : x = 95
            · have h95e : (x != 95) = false := by simpa using h95
              have HOKN : Hid ((false && Spec.keysOk (row + 1) (l.drop (i + 1))) = ok) := by
                show _ = _
                rw [← HOKB.out, HON.out, h95]; simp
              clear h95
              by_cases hrow : row = 0
              · have hr1 : ¬ (1 : Int) < (row : Int) + 1 := by omega
                have hd1 : decide ((1 : Int) < (row : Int) + 1) = false := by rw [decide_eq_false_iff_not]; exact hr1
                have HRN : Hid (Spec.keysG C row p (l.drop i) = Spec.keysG C (row + 1) x (l.drop (i + 1))) := by
                  show _ = _
                  rw [HDR.out]
                  show (if x = 124 then _ else _) = _
                  rw [if_neg HNE.out, if_neg (fun h => by omega), List.nil_append]
                go_wp2
                go_quiet (fail)
                go_wp2
                go_roundw
                case rel => exact ⟨i + 1, row + 1, false, x, outs, by omega, by go_num, by omega, by go_num, by first | rfl | trivial, by omega, HAC.out.drawn ⟨_, rfl⟩, by show _ = _; rw [← HRN.out]; exact HRL.out, HOKN.out, HPN.out, below_drawn HBW.out ⟨_, rfl⟩⟩
                case measure => simp [intOf]; omega
              · have hr1 : (1 : Int) < (row : Int) + 1 := by omega
                have hd1 : decide ((1 : Int) < (row : Int) + 1) = true := by rw [decide_eq_true_iff]; exact hr1
                have HI0 : Hid (0 < i) := by show _ < _; omega
                have hpe := HP.out (by omega)
                have HPE := Lib.hid hpe
                have hp1 := HC1.out (i - 1) _ (by omega) HBW.out
                rw [← HPE.out] at hp1
                have hsub : IntKind.i64.wrap ((i : Int) - 1) = (i : Int) - 1 := by rw [IntKind.wrap_i64]; omega
                have hnat : ((i : Int) - 1).toNat = i - 1 := by omega
                have hlt1 : (i : Int) - 1 < (n : Int) := by omega
                have hge1 : (0 : Int) ≤ (i : Int) - 1 := by omega
                clear hpe
                by_cases hxp : x = p
                · have he : (x != p) = false := by simpa using hxp
                  have HRN : Hid (Spec.keysG C row p (l.drop i) = Spec.keysG C (row + 1) x (l.drop (i + 1))) := by
                    show _ = _
                    rw [HDR.out]
                    show (if x = 124 then _ else _) = _
                    rw [if_neg HNE.out, if_neg (fun h => h.2 hxp), List.nil_append]
                  clear hxp
                  go_wp2
                  go_quiet (fail)
                  go_wp2
                  go_roundw
                  case rel => exact ⟨i + 1, row + 1, false, x, outs, by omega, by go_num, by omega, by go_num, by first | rfl | trivial, by omega, HAC.out.drawn ⟨_, rfl⟩, by show _ = _; rw [← HRN.out]; exact HRL.out, HOKN.out, HPN.out, below_drawn HBW.out ⟨_, rfl⟩⟩
                  case measure => simp [intOf]; omega
                · have he : (x != p) = true := by simpa using hxp
                  have HRN : Hid (Spec.keysG C row p (l.drop i) = [⟨[p], [x], C⟩, ⟨[x], [p], C⟩] ++ Spec.keysG C (row + 1) x (l.drop (i + 1))) := by
                    show _ = _
                    rw [HDR.out]
                    show (if x = 124 then _ else _) = _
                    rw [if_neg HNE.out, if_pos ⟨by omega, hxp⟩]
                    rfl
                  clear hxp
                  go_wp2
                  go_quiet (fail)
                  go_wp2_with fail
                  generalize hV : World.drewN _ _ = V
                  have HAV : Hid (Acc w.heap.size V ov outs) := by rw [← hV]; exact HAC.out.drawn ⟨_, rfl⟩
                  have HBV : Hid (Below w.heap.size w V) := by rw [← hV]; exact below_drawn HBW.out ⟨_, rfl⟩
                  have HBA : Hid (w.heap.size ≤ V.drew.heap.size) := HBV.out.size
                  have HROW : Hid (∀ g, ov.ownBlock = some g → g < V.heap.size) := fun g hg => (HAV.out.1.lt g hg).2
                  have HLOW : Hid (∀ g, ov.ownBlock = some g → w.heap.size ≤ g) := fun g hg => (HAV.out.1.lt g hg).1
                  have HC64 := Lib.hid hC
                  have HCX : Hid (∀ w1, V.drew.grownBy w1 ov.ownBlock → w1.cell? ⟨b1, o1 + i, none⟩ = some (.int .i64 x)) := fun w1 hg => by
                    rw [HX.out]; exact HC1.out i _ hlt (HBV.out.drew.grown hg HBV.out.size HLOW.out)
                  have HCP : Hid (∀ w1, V.drew.grownBy w1 ov.ownBlock → w1.cell? ⟨b1, o1 + (i - 1), none⟩ = some (.int .i64 p)) := fun w1 hg => by
                    rw [HPE.out]; exact HC1.out (i - 1) _ (by omega) (HBV.out.drew.grown hg HBV.out.size HLOW.out)
                  have HWF : Hid (∀ z, z = x ∨ z = p → (Lit.int .i64 z).wf = true) := fun z hz => by
                    rcases hz with rfl | rfl
                    · rw [HX.out]; exact HWA.out i hlt
                    · rw [HPE.out]; exact HWA.out (i - 1) (by omega)
                  clear hV hx1 hp1
                  refine wp_region_table' HMX.out 28 [.val ov, .val (.slice (some ⟨b1, o1, none⟩) n cap), .val (.int .i64 (i : Int)), .val (.int .i64 ((i - 1 : Nat) : Int)), .val (.pointer (some ⟨b1, o1 + (i - 1), none⟩)), .val (.int .i64 p), .one p, .val (.slice (some ⟨b1, o1, none⟩) n cap), .val (.int .i64 (i : Int)), .val (.pointer (some ⟨b1, o1 + i, none⟩)), .val (.int .i64 x), .one x, .val (.int .u64 C), .rule ⟨[p], [x], C⟩, .val (.slice (some ⟨b1, o1, none⟩) n cap), .val (.int .i64 (i : Int)), .val (.pointer (some ⟨b1, o1 + i, none⟩)), .val (.int .i64 x), .one x, .val (.slice (some ⟨b1, o1, none⟩) n cap), .val (.int .i64 (i : Int)), .val (.int .i64 ((i - 1 : Nat) : Int)), .val (.pointer (some ⟨b1, o1 + (i - 1), none⟩)), .val (.int .i64 p), .one p, .val (.int .u64 C), .rule ⟨[x], [p], C⟩, .rules [⟨[p], [x], C⟩, ⟨[x], [p], C⟩], .out [⟨[p], [x], C⟩, ⟨[x], [p], C⟩], .out [⟨[p], [x], C⟩, ⟨[x], [p], C⟩]] w.heap.size outs ov (by kernel_rfl) (by rfl) HAV.out HBV.out.size (fun i1 o ho a1 w1 hg hacc1 hw ht => ?_) (fun tm w1 hsz hg hfr hto => ?_)
                  · have hLn := HL
                    match i1, ho with
                    | 0, ho =>
                      obtain rfl := Option.some.inj ho
                      exact StepsTo.move rfl (.tmp 6) (.inl rfl) ⟨(hw 6 (by kernel_rfl)), World.grownBy.refl _ _, fun _ => World.grownBy.refl _ _⟩
                    | 1, ho =>
                      obtain rfl := Option.some.inj ho
                      exact StepsTo.move rfl (.tmp 0) (.inl rfl) ⟨(hw 0 (by kernel_rfl)), World.grownBy.refl _ _, fun _ => World.grownBy.refl _ _⟩
                    | 2, ho =>
                      obtain rfl := Option.some.inj ho
                      exact StepsTo.move rfl (.tmp 9) (.inl rfl) ⟨(hw 9 (by kernel_rfl)), World.grownBy.refl _ _, fun _ => World.grownBy.refl _ _⟩
                    | 3, ho =>
                      obtain rfl := Option.some.inj ho
                      exact steps_sub1 rfl (.tmp 51) _ _ rfl (k := i) HI0.out (ht 2 51 (by kernel_rfl)) (by omega) ⟨rfl, World.grownBy.refl _ _, fun _ => World.grownBy.refl _ _⟩
                    | 4, ho =>
                      obtain rfl := Option.some.inj ho
                      exact steps_index rfl (.tmp 50) (.tmp 52) rfl (ht 1 50 (by kernel_rfl)) (ht 3 52 (by kernel_rfl)) (by omega) ⟨rfl, World.grownBy.refl _ _, fun _ => World.grownBy.refl _ _⟩
                    | 5, ho =>
                      obtain rfl := Option.some.inj ho
                      exact steps_load rfl (.tmp 53) rfl (ht 4 53 (by kernel_rfl)) (HCP.out _ hg) ⟨rfl, World.grownBy.refl _ _, fun _ => World.grownBy.refl _ _⟩
                    | 6, ho =>
                      obtain rfl := Option.some.inj ho
                      exact steps_slice1 rfl (.tmp 54) rfl (ht 5 54 (by kernel_rfl)) ⟨newOne_alloc hg.size (HWF.out _ (.inr rfl)), World.grownBy_alloc _ _ _, fun _ => World.grownBy_alloc _ _ _⟩
                    | 7, ho =>
                      obtain rfl := Option.some.inj ho
                      exact StepsTo.move rfl (.tmp 0) (.inl rfl) ⟨(hw 0 (by kernel_rfl)), World.grownBy.refl _ _, fun _ => World.grownBy.refl _ _⟩
                    | 8, ho =>
                      obtain rfl := Option.some.inj ho
                      exact StepsTo.move rfl (.tmp 9) (.inl rfl) ⟨(hw 9 (by kernel_rfl)), World.grownBy.refl _ _, fun _ => World.grownBy.refl _ _⟩
                    | 9, ho =>
                      obtain rfl := Option.some.inj ho
                      exact steps_index rfl (.tmp 56) (.tmp 57) rfl (ht 7 56 (by kernel_rfl)) (ht 8 57 (by kernel_rfl)) hlt ⟨rfl, World.grownBy.refl _ _, fun _ => World.grownBy.refl _ _⟩
                    | 10, ho =>
                      obtain rfl := Option.some.inj ho
                      exact steps_load rfl (.tmp 58) rfl (ht 9 58 (by kernel_rfl)) (HCX.out _ hg) ⟨rfl, World.grownBy.refl _ _, fun _ => World.grownBy.refl _ _⟩
                    | 11, ho =>
                      obtain rfl := Option.some.inj ho
                      exact steps_slice1 rfl (.tmp 59) rfl (ht 10 59 (by kernel_rfl)) ⟨newOne_alloc hg.size (HWF.out _ (.inl rfl)), World.grownBy_alloc _ _ _, fun _ => World.grownBy_alloc _ _ _⟩
                    | 12, ho =>
                      obtain rfl := Option.some.inj ho
                      exact StepsTo.move rfl (.tmp 1) (.inl rfl) ⟨(hw 1 (by kernel_rfl)), World.grownBy.refl _ _, fun _ => World.grownBy.refl _ _⟩
                    | 13, ho =>
                      obtain rfl := Option.some.inj ho
                      obtain ⟨p, q, e1, e2, hr⟩ := newRule_of (ht 6 55 (by kernel_rfl)) (ht 11 60 (by kernel_rfl)) HC64.out
                      exact steps_rule rfl (.tmp 55) (.tmp 60) (.tmp 61) rfl e1 e2 (ht 12 61 (by kernel_rfl)) ⟨hr, World.grownBy.refl _ _, fun _ => World.grownBy.refl _ _⟩
                    | 14, ho =>
                      obtain rfl := Option.some.inj ho
                      exact StepsTo.move rfl (.tmp 0) (.inl rfl) ⟨(hw 0 (by kernel_rfl)), World.grownBy.refl _ _, fun _ => World.grownBy.refl _ _⟩
                    | 15, ho =>
                      obtain rfl := Option.some.inj ho
                      exact StepsTo.move rfl (.tmp 9) (.inl rfl) ⟨(hw 9 (by kernel_rfl)), World.grownBy.refl _ _, fun _ => World.grownBy.refl _ _⟩
                    | 16, ho =>
                      obtain rfl := Option.some.inj ho
                      exact steps_index rfl (.tmp 63) (.tmp 64) rfl (ht 14 63 (by kernel_rfl)) (ht 15 64 (by kernel_rfl)) hlt ⟨rfl, World.grownBy.refl _ _, fun _ => World.grownBy.refl _ _⟩
                    | 17, ho =>
                      obtain rfl := Option.some.inj ho
                      exact steps_load rfl (.tmp 65) rfl (ht 16 65 (by kernel_rfl)) (HCX.out _ hg) ⟨rfl, World.grownBy.refl _ _, fun _ => World.grownBy.refl _ _⟩
                    | 18, ho =>
                      obtain rfl := Option.some.inj ho
                      exact steps_slice1 rfl (.tmp 66) rfl (ht 17 66 (by kernel_rfl)) ⟨newOne_alloc hg.size (HWF.out _ (.inl rfl)), World.grownBy_alloc _ _ _, fun _ => World.grownBy_alloc _ _ _⟩
                    | 19, ho =>
                      obtain rfl := Option.some.inj ho
                      exact StepsTo.move rfl (.tmp 0) (.inl rfl) ⟨(hw 0 (by kernel_rfl)), World.grownBy.refl _ _, fun _ => World.grownBy.refl _ _⟩
                    | 20, ho =>
                      obtain rfl := Option.some.inj ho
                      exact StepsTo.move rfl (.tmp 9) (.inl rfl) ⟨(hw 9 (by kernel_rfl)), World.grownBy.refl _ _, fun _ => World.grownBy.refl _ _⟩
                    | 21, ho =>
                      obtain rfl := Option.some.inj ho
                      exact steps_sub1 rfl (.tmp 69) _ _ rfl (k := i) HI0.out (ht 20 69 (by kernel_rfl)) (by omega) ⟨rfl, World.grownBy.refl _ _, fun _ => World.grownBy.refl _ _⟩
                    | 22, ho =>
                      obtain rfl := Option.some.inj ho
                      exact steps_index rfl (.tmp 68) (.tmp 70) rfl (ht 19 68 (by kernel_rfl)) (ht 21 70 (by kernel_rfl)) (by omega) ⟨rfl, World.grownBy.refl _ _, fun _ => World.grownBy.refl _ _⟩
                    | 23, ho =>
                      obtain rfl := Option.some.inj ho
                      exact steps_load rfl (.tmp 71) rfl (ht 22 71 (by kernel_rfl)) (HCP.out _ hg) ⟨rfl, World.grownBy.refl _ _, fun _ => World.grownBy.refl _ _⟩
                    | 24, ho =>
                      obtain rfl := Option.some.inj ho
                      exact steps_slice1 rfl (.tmp 72) rfl (ht 23 72 (by kernel_rfl)) ⟨newOne_alloc hg.size (HWF.out _ (.inr rfl)), World.grownBy_alloc _ _ _, fun _ => World.grownBy_alloc _ _ _⟩
                    | 25, ho =>
                      obtain rfl := Option.some.inj ho
                      exact StepsTo.move rfl (.tmp 1) (.inl rfl) ⟨(hw 1 (by kernel_rfl)), World.grownBy.refl _ _, fun _ => World.grownBy.refl _ _⟩
                    | 26, ho =>
                      obtain rfl := Option.some.inj ho
                      obtain ⟨p, q, e1, e2, hr⟩ := newRule_of (ht 18 67 (by kernel_rfl)) (ht 24 73 (by kernel_rfl)) HC64.out
                      exact steps_rule rfl (.tmp 67) (.tmp 73) (.tmp 74) rfl e1 e2 (ht 25 74 (by kernel_rfl)) ⟨hr, World.grownBy.refl _ _, fun _ => World.grownBy.refl _ _⟩
                    | 27, ho =>
                      obtain rfl := Option.some.inj ho
                      obtain ⟨X, e1, hX, hr, hh⟩ := (ht 13 62 (by kernel_rfl))
                      obtain ⟨Y, e2, hY, hr2, hh2⟩ := (ht 26 75 (by kernel_rfl))
                      exact steps_rules2 rfl (.tmp 62) (.tmp 75) rfl e1 e2 ⟨by have h := newRules_alloc (w := w1) hg.size [X, Y] (by intro x hx; simp only [List.mem_cons, List.not_mem_nil, or_false] at hx; rcases hx with rfl | rfl <;> first | exact ⟨hX, hh⟩ | exact ⟨hY, hh2⟩) (by simp); rw [show ruls [X, Y] = [X.r, Y.r] from rfl, hr, hr2] at h; exact h, World.grownBy_alloc _ _ _, fun _ => World.grownBy_alloc _ _ _⟩
                    | 28, ho =>
                      obtain rfl := Option.some.inj ho
                      exact steps_append rfl (.tmp 49) (.tmp 76) rfl (ht 0 49 (by kernel_rfl)) (hacc1 rfl) HROW.out rfl (ht 27 76 (by kernel_rfl)) (by simp) (by simp; omega) (Nat.le_trans HBA.out hg.size) (fun v' w' zs hz ha hgr hat => ⟨⟨⟨zs, hz, ha⟩, hat.imp id fun h => ⟨_, h, hg.size⟩⟩, hgr, fun hne => absurd rfl hne⟩)
                    | 29, ho =>
                      obtain rfl := Option.some.inj ho
                      exact StepsTo.move rfl (.tmp 77) (.inr rfl) ⟨(ht 28 77 (by kernel_rfl)), World.grownBy.refl _ _, fun _ => World.grownBy.refl _ _⟩
                    | j1 + 30, ho => exact absurd (Array.getElem?_eq_some_iff.1 ho).1 (by simp)
                  · have h15 := hto 29 6 (by kernel_rfl)
                    clear hto
                    rw [act_lit tm (show tm.size = 80 from hsz)]
                    simp only [List.range, List.range.loop, List.map_cons, List.map_nil]
                    rw [hfr 0 (by kernel_rfl), hfr 1 (by kernel_rfl), hfr 2 (by kernel_rfl), hfr 3 (by kernel_rfl), hfr 4 (by kernel_rfl), hfr 5 (by kernel_rfl), hfr 7 (by kernel_rfl), hfr 8 (by kernel_rfl), hfr 9 (by kernel_rfl), hfr 10 (by kernel_rfl), hfr 11 (by kernel_rfl), hfr 12 (by kernel_rfl), hfr 13 (by kernel_rfl), hfr 14 (by kernel_rfl), hfr 15 (by kernel_rfl), hfr 16 (by kernel_rfl), hfr 17 (by kernel_rfl), hfr 18 (by kernel_rfl), hfr 19 (by kernel_rfl), hfr 20 (by kernel_rfl), hfr 21 (by kernel_rfl), hfr 22 (by kernel_rfl), hfr 23 (by kernel_rfl), hfr 24 (by kernel_rfl), hfr 25 (by kernel_rfl), hfr 26 (by kernel_rfl), hfr 27 (by kernel_rfl), hfr 28 (by kernel_rfl), hfr 29 (by kernel_rfl), hfr 30 (by kernel_rfl), hfr 31 (by kernel_rfl), hfr 32 (by kernel_rfl), hfr 33 (by kernel_rfl), hfr 34 (by kernel_rfl), hfr 35 (by kernel_rfl), hfr 36 (by kernel_rfl), hfr 37 (by kernel_rfl), hfr 38 (by kernel_rfl), hfr 39 (by kernel_rfl), hfr 40 (by kernel_rfl), hfr 41 (by kernel_rfl), hfr 42 (by kernel_rfl), hfr 43 (by kernel_rfl), hfr 44 (by kernel_rfl), hfr 45 (by kernel_rfl), hfr 46 (by kernel_rfl), hfr 47 (by kernel_rfl), hfr 48 (by kernel_rfl), hfr 78 (by kernel_rfl), hfr 79 (by kernel_rfl)]
                    generalize tm.getD 6 undef = y6 at *
                    generalize tm.getD 49 undef = y49 at *
                    generalize tm.getD 50 undef = y50 at *
                    generalize tm.getD 51 undef = y51 at *
                    generalize tm.getD 52 undef = y52 at *
                    generalize tm.getD 53 undef = y53 at *
                    generalize tm.getD 54 undef = y54 at *
                    generalize tm.getD 55 undef = y55 at *
                    generalize tm.getD 56 undef = y56 at *
                    generalize tm.getD 57 undef = y57 at *
                    generalize tm.getD 58 undef = y58 at *
                    generalize tm.getD 59 undef = y59 at *
                    generalize tm.getD 60 undef = y60 at *
                    generalize tm.getD 61 undef = y61 at *
                    generalize tm.getD 62 undef = y62 at *
                    generalize tm.getD 63 undef = y63 at *
                    generalize tm.getD 64 undef = y64 at *
                    generalize tm.getD 65 undef = y65 at *
                    generalize tm.getD 66 undef = y66 at *
                    generalize tm.getD 67 undef = y67 at *
                    generalize tm.getD 68 undef = y68 at *
                    generalize tm.getD 69 undef = y69 at *
                    generalize tm.getD 70 undef = y70 at *
                    generalize tm.getD 71 undef = y71 at *
                    generalize tm.getD 72 undef = y72 at *
                    generalize tm.getD 73 undef = y73 at *
                    generalize tm.getD 74 undef = y74 at *
                    generalize tm.getD 75 undef = y75 at *
                    generalize tm.getD 76 undef = y76 at *
                    generalize tm.getD 77 undef = y77 at *
                    clear hfr hsz tm
                    simp only [Array.getD_eq_getD_getElem?, List.getElem?_toArray, List.getElem?_cons_succ, List.getElem?_cons_zero, Option.getD_some]
                    have h15' : (∃ zs, ruls zs = [⟨[p], [x], C⟩, ⟨[x], [p], C⟩] ∧ Acc w.heap.size w1 y6 (outs ++ zs)) ∧ (ov.ownBlock = y6.ownBlock ∨ ∃ g, y6.ownBlock = some g ∧ V.heap.size ≤ g) := h15
                    obtain ⟨⟨zs, hzs, hacc⟩, _⟩ := h15'
                    have hzl : zs.length = 2 := by rw [← ruls_length zs, hzs]; rfl
                    have HZS := Lib.hid hzs
                    have HACN := Lib.hid hacc
                    have HB1W : Hid (Below w.heap.size w w1) := HBV.out.drew.grown hg HBV.out.size HLOW.out
                    clear h15 hzs hacc hg
                    go_wp2
                    go_roundw
                    case rel => exact ⟨i + 1, row + 1, false, x, outs ++ zs, by omega, by go_num, by omega, by go_num, by first | rfl | trivial, by simp [hzl]; omega, HACN.out, by show _ = _; rw [ruls_app, HZS.out, List.append_assoc, ← HRN.out]; exact HRL.out, HOKN.out, HPN.out, HB1W.out⟩
                    case measure => simp [intOf]; omega
            · have h95e : (x != 95) = true := by simpa using h95
              have HOKN : Hid ((true && Spec.keysOk (row + 1) (l.drop (i + 1))) = ok) := by
                show _ = _
                rw [← HOKB.out, HON.out, decide_eq_true h12, decide_eq_true h95]; simp
              clear h95
              by_cases hrow : row = 0
              · have hr1 : ¬ (1 : Int) < (row : Int) + 1 := by omega
                have hd1 : decide ((1 : Int) < (row : Int) + 1) = false := by rw [decide_eq_false_iff_not]; exact hr1
                have HRN : Hid (Spec.keysG C row p (l.drop i) = Spec.keysG C (row + 1) x (l.drop (i + 1))) := by
                  show _ = _
                  rw [HDR.out]
                  show (if x = 124 then _ else _) = _
                  rw [if_neg HNE.out, if_neg (fun h => by omega), List.nil_append]
                go_wp2
                go_quiet (fail)
                go_wp2
                go_roundw
                case rel => exact ⟨i + 1, row + 1, true, x, outs, by omega, by go_num, by omega, by go_num, by first | rfl | trivial, by omega, HAC.out.drawn ⟨_, rfl⟩, by show _ = _; rw [← HRN.out]; exact HRL.out, HOKN.out, HPN.out, below_drawn HBW.out ⟨_, rfl⟩⟩
                case measure => simp [intOf]; omega
              · have hr1 : (1 : Int) < (row : Int) + 1 := by omega
                have hd1 : decide ((1 : Int) < (row : Int) + 1) = true := by rw [decide_eq_true_iff]; exact hr1
                have HI0 : Hid (0 < i) := by show _ < _; omega
                have hpe := HP.out (by omega)
                have HPE := Lib.hid hpe
                have hp1 := HC1.out (i - 1) _ (by omega) HBW.out
                rw [← HPE.out] at hp1
                have hsub : IntKind.i64.wrap ((i : Int) - 1) = (i : Int) - 1 := by rw [IntKind.wrap_i64]; omega
                have hnat : ((i : Int) - 1).toNat = i - 1 := by omega
                have hlt1 : (i : Int) - 1 < (n : Int) := by omega
                have hge1 : (0 : Int) ≤ (i : Int) - 1 := by omega
                clear hpe
                by_cases hxp : x = p
                · have he : (x != p) = false := by simpa using hxp
                  have HRN : Hid (Spec.keysG C row p (l.drop i) = Spec.keysG C (row + 1) x (l.drop (i + 1))) := by
                    show _ = _
                    rw [HDR.out]
                    show (if x = 124 then _ else _) = _
                    rw [if_neg HNE.out, if_neg (fun h => h.2 hxp), List.nil_append]
                  clear hxp
                  go_wp2
                  go_quiet (fail)
                  go_wp2
                  go_roundw
                  case rel => exact ⟨i + 1, row + 1, true, x, outs, by omega, by go_num, by omega, by go_num, by first | rfl | trivial, by omega, HAC.out.drawn ⟨_, rfl⟩, by show _ = _; rw [← HRN.out]; exact HRL.out, HOKN.out, HPN.out, below_drawn HBW.out ⟨_, rfl⟩⟩
                  case measure => simp [intOf]; omega
                · have he : (x != p) = true := by simpa using hxp
                  have HRN : Hid (Spec.keysG C row p (l.drop i) = [⟨[p], [x], C⟩, ⟨[x], [p], C⟩] ++ Spec.keysG C (row + 1) x (l.drop (i + 1))) := by
                    show _ = _
                    rw [HDR.out]
                    show (if x = 124 then _ else _) = _
                    rw [if_neg HNE.out, if_pos ⟨by omega, hxp⟩]
                    rfl
                  clear hxp
                  go_wp2
                  go_quiet (fail)
                  go_wp2_with fail
                  generalize hV : World.drewN _ _ = V
                  have HAV : Hid (Acc w.heap.size V ov outs) := by rw [← hV]; exact HAC.out.drawn ⟨_, rfl⟩
                  have HBV : Hid (Below w.heap.size w V) := by rw [← hV]; exact below_drawn HBW.out ⟨_, rfl⟩
                  have HBA : Hid (w.heap.size ≤ V.drew.heap.size) := HBV.out.size
                  have HROW : Hid (∀ g, ov.ownBlock = some g → g < V.heap.size) := fun g hg => (HAV.out.1.lt g hg).2
                  have HLOW : Hid (∀ g, ov.ownBlock = some g → w.heap.size ≤ g) := fun g hg => (HAV.out.1.lt g hg).1
                  have HC64 := Lib.hid hC
                  have HCX : Hid (∀ w1, V.drew.grownBy w1 ov.ownBlock → w1.cell? ⟨b1, o1 + i, none⟩ = some (.int .i64 x)) := fun w1 hg => by
                    rw [HX.out]; exact HC1.out i _ hlt (HBV.out.drew.grown hg HBV.out.size HLOW.out)
                  have HCP : Hid (∀ w1, V.drew.grownBy w1 ov.ownBlock → w1.cell? ⟨b1, o1 + (i - 1), none⟩ = some (.int .i64 p)) := fun w1 hg => by
                    rw [HPE.out]; exact HC1.out (i - 1) _ (by omega) (HBV.out.drew.grown hg HBV.out.size HLOW.out)
                  have HWF : Hid (∀ z, z = x ∨ z = p → (Lit.int .i64 z).wf = true) := fun z hz => by
                    rcases hz with rfl | rfl
                    · rw [HX.out]; exact HWA.out i hlt
                    · rw [HPE.out]; exact HWA.out (i - 1) (by omega)
                  clear hV hx1 hp1
                  refine wp_region_table' HMX.out 28 [.val ov, .val (.slice (some ⟨b1, o1, none⟩) n cap), .val (.int .i64 (i : Int)), .val (.int .i64 ((i - 1 : Nat) : Int)), .val (.pointer (some ⟨b1, o1 + (i - 1), none⟩)), .val (.int .i64 p), .one p, .val (.slice (some ⟨b1, o1, none⟩) n cap), .val (.int .i64 (i : Int)), .val (.pointer (some ⟨b1, o1 + i, none⟩)), .val (.int .i64 x), .one x, .val (.int .u64 C), .rule ⟨[p], [x], C⟩, .val (.slice (some ⟨b1, o1, none⟩) n cap), .val (.int .i64 (i : Int)), .val (.pointer (some ⟨b1, o1 + i, none⟩)), .val (.int .i64 x), .one x, .val (.slice (some ⟨b1, o1, none⟩) n cap), .val (.int .i64 (i : Int)), .val (.int .i64 ((i - 1 : Nat) : Int)), .val (.pointer (some ⟨b1, o1 + (i - 1), none⟩)), .val (.int .i64 p), .one p, .val (.int .u64 C), .rule ⟨[x], [p], C⟩, .rules [⟨[p], [x], C⟩, ⟨[x], [p], C⟩], .out [⟨[p], [x], C⟩, ⟨[x], [p], C⟩], .out [⟨[p], [x], C⟩, ⟨[x], [p], C⟩]] w.heap.size outs ov (by kernel_rfl) (by rfl) HAV.out HBV.out.size (fun i1 o ho a1 w1 hg hacc1 hw ht => ?_) (fun tm w1 hsz hg hfr hto => ?_)
                  · have hLn := HL
                    match i1, ho with
                    | 0, ho =>
                      obtain rfl := Option.some.inj ho
                      exact StepsTo.move rfl (.tmp 6) (.inl rfl) ⟨(hw 6 (by kernel_rfl)), World.grownBy.refl _ _, fun _ => World.grownBy.refl _ _⟩
                    | 1, ho =>
                      obtain rfl := Option.some.inj ho
                      exact StepsTo.move rfl (.tmp 0) (.inl rfl) ⟨(hw 0 (by kernel_rfl)), World.grownBy.refl _ _, fun _ => World.grownBy.refl _ _⟩
                    | 2, ho =>
                      obtain rfl := Option.some.inj ho
                      exact StepsTo.move rfl (.tmp 9) (.inl rfl) ⟨(hw 9 (by kernel_rfl)), World.grownBy.refl _ _, fun _ => World.grownBy.refl _ _⟩
                    | 3, ho =>
                      obtain rfl := Option.some.inj ho
                      exact steps_sub1 rfl (.tmp 51) _ _ rfl (k := i) HI0.out (ht 2 51 (by kernel_rfl)) (by omega) ⟨rfl, World.grownBy.refl _ _, fun _ => World.grownBy.refl _ _⟩
                    | 4, ho =>
                      obtain rfl := Option.some.inj ho
                      exact steps_index rfl (.tmp 50) (.tmp 52) rfl (ht 1 50 (by kernel_rfl)) (ht 3 52 (by kernel_rfl)) (by omega) ⟨rfl, World.grownBy.refl _ _, fun _ => World.grownBy.refl _ _⟩
                    | 5, ho =>
                      obtain rfl := Option.some.inj ho
                      exact steps_load rfl (.tmp 53) rfl (ht 4 53 (by kernel_rfl)) (HCP.out _ hg) ⟨rfl, World.grownBy.refl _ _, fun _ => World.grownBy.refl _ _⟩
                    | 6, ho =>
                      obtain rfl := Option.some.inj ho
                      exact steps_slice1 rfl (.tmp 54) rfl (ht 5 54 (by kernel_rfl)) ⟨newOne_alloc hg.size (HWF.out _ (.inr rfl)), World.grownBy_alloc _ _ _, fun _ => World.grownBy_alloc _ _ _⟩
                    | 7, ho =>
                      obtain rfl := Option.some.inj ho
                      exact StepsTo.move rfl (.tmp 0) (.inl rfl) ⟨(hw 0 (by kernel_rfl)), World.grownBy.refl _ _, fun _ => World.grownBy.refl _ _⟩
                    | 8, ho =>
                      obtain rfl := Option.some.inj ho
                      exact StepsTo.move rfl (.tmp 9) (.inl rfl) ⟨(hw 9 (by kernel_rfl)), World.grownBy.refl _ _, fun _ => World.grownBy.refl _ _⟩
                    | 9, ho =>
                      obtain rfl := Option.some.inj ho
                      exact steps_index rfl (.tmp 56) (.tmp 57) rfl (ht 7 56 (by kernel_rfl)) (ht 8 57 (by kernel_rfl)) hlt ⟨rfl, World.grownBy.refl _ _, fun _ => World.grownBy.refl _ _⟩
                    | 10, ho =>
                      obtain rfl := Option.some.inj ho
                      exact steps_load rfl (.tmp 58) rfl (ht 9 58 (by kernel_rfl)) (HCX.out _ hg) ⟨rfl, World.grownBy.refl _ _, fun _ => World.grownBy.refl _ _⟩
                    | 11, ho =>
                      obtain rfl := Option.some.inj ho
                      exact steps_slice1 rfl (.tmp 59) rfl (ht 10 59 (by kernel_rfl)) ⟨newOne_alloc hg.size (HWF.out _ (.inl rfl)), World.grownBy_alloc _ _ _, fun _ => World.grownBy_alloc _ _ _⟩
                    | 12, ho =>
                      obtain rfl := Option.some.inj ho
                      exact StepsTo.move rfl (.tmp 1) (.inl rfl) ⟨(hw 1 (by kernel_rfl)), World.grownBy.refl _ _, fun _ => World.grownBy.refl _ _⟩
                    | 13, ho =>
                      obtain rfl := Option.some.inj ho
                      obtain ⟨p, q, e1, e2, hr⟩ := newRule_of (ht 6 55 (by kernel_rfl)) (ht 11 60 (by kernel_rfl)) HC64.out
                      exact steps_rule rfl (.tmp 55) (.tmp 60) (.tmp 61) rfl e1 e2 (ht 12 61 (by kernel_rfl)) ⟨hr, World.grownBy.refl _ _, fun _ => World.grownBy.refl _ _⟩
                    | 14, ho =>
                      obtain rfl := Option.some.inj ho
                      exact StepsTo.move rfl (.tmp 0) (.inl rfl) ⟨(hw 0 (by kernel_rfl)), World.grownBy.refl _ _, fun _ => World.grownBy.refl _ _⟩
                    | 15, ho =>
                      obtain rfl := Option.some.inj ho
                      exact StepsTo.move rfl (.tmp 9) (.inl rfl) ⟨(hw 9 (by kernel_rfl)), World.grownBy.refl _ _, fun _ => World.grownBy.refl _ _⟩
                    | 16, ho =>
                      obtain rfl := Option.some.inj ho
                      exact steps_index rfl (.tmp 63) (.tmp 64) rfl (ht 14 63 (by kernel_rfl)) (ht 15 64 (by kernel_rfl)) hlt ⟨rfl, World.grownBy.refl _ _, fun _ => World.grownBy.refl _ _⟩
                    | 17, ho =>
                      obtain rfl := Option.some.inj ho
                      exact steps_load rfl (.tmp 65) rfl (ht 16 65 (by kernel_rfl)) (HCX.out _ hg) ⟨rfl, World.grownBy.refl _ _, fun _ => World.grownBy.refl _ _⟩
                    | 18, ho =>
                      obtain rfl := Option.some.inj ho
                      exact steps_slice1 rfl (.tmp 66) rfl (ht 17 66 (by kernel_rfl)) ⟨newOne_alloc hg.size (HWF.out _ (.inl rfl)), World.grownBy_alloc _ _ _, fun _ => World.grownBy_alloc _ _ _⟩
                    | 19, ho =>
                      obtain rfl := Option.some.inj ho
                      exact StepsTo.move rfl (.tmp 0) (.inl rfl) ⟨(hw 0 (by kernel_rfl)), World.grownBy.refl _ _, fun _ => World.grownBy.refl _ _⟩
                    | 20, ho =>
                      obtain rfl := Option.some.inj ho
                      exact StepsTo.move rfl (.tmp 9) (.inl rfl) ⟨(hw 9 (by kernel_rfl)), World.grownBy.refl _ _, fun _ => World.grownBy.refl _ _⟩
                    | 21, ho =>
                      obtain rfl := Option.some.inj ho
                      exact steps_sub1 rfl (.tmp 69) _ _ rfl (k := i) HI0.out (ht 20 69 (by kernel_rfl)) (by omega) ⟨rfl, World.grownBy.refl _ _, fun _ => World.grownBy.refl _ _⟩
                    | 22, ho =>
                      obtain rfl := Option.some.inj ho
                      exact steps_index rfl (.tmp 68) (.tmp 70) rfl (ht 19 68 (by kernel_rfl)) (ht 21 70 (by kernel_rfl)) (by omega) ⟨rfl, World.grownBy.refl _ _, fun _ => World.grownBy.refl _ _⟩
                    | 23, ho =>
                      obtain rfl := Option.some.inj ho
                      exact steps_load rfl (.tmp 71) rfl (ht 22 71 (by kernel_rfl)) (HCP.out _ hg) ⟨rfl, World.grownBy.refl _ _, fun _ => World.grownBy.refl _ _⟩
                    | 24, ho =>
                      obtain rfl := Option.some.inj ho
                      exact steps_slice1 rfl (.tmp 72) rfl (ht 23 72 (by kernel_rfl)) ⟨newOne_alloc hg.size (HWF.out _ (.inr rfl)), World.grownBy_alloc _ _ _, fun _ => World.grownBy_alloc _ _ _⟩
                    | 25, ho =>
                      obtain rfl := Option.some.inj ho
                      exact StepsTo.move rfl (.tmp 1) (.inl rfl) ⟨(hw 1 (by kernel_rfl)), World.grownBy.refl _ _, fun _ => World.grownBy.refl _ _⟩
                    | 26, ho =>
                      obtain rfl := Option.some.inj ho
                      obtain ⟨p, q, e1, e2, hr⟩ := newRule_of (ht 18 67 (by kernel_rfl)) (ht 24 73 (by kernel_rfl)) HC64.out
                      exact steps_rule rfl (.tmp 67) (.tmp 73) (.tmp 74) rfl e1 e2 (ht 25 74 (by kernel_rfl)) ⟨hr, World.grownBy.refl _ _, fun _ => World.grownBy.refl _ _⟩
                    | 27, ho =>
                      obtain rfl := Option.some.inj ho
                      obtain ⟨X, e1, hX, hr, hh⟩ := (ht 13 62 (by kernel_rfl))
                      obtain ⟨Y, e2, hY, hr2, hh2⟩ := (ht 26 75 (by kernel_rfl))
                      exact steps_rules2 rfl (.tmp 62) (.tmp 75) rfl e1 e2 ⟨by have h := newRules_alloc (w := w1) hg.size [X, Y] (by intro x hx; simp only [List.mem_cons, List.not_mem_nil, or_false] at hx; rcases hx with rfl | rfl <;> first | exact ⟨hX, hh⟩ | exact ⟨hY, hh2⟩) (by simp); rw [show ruls [X, Y] = [X.r, Y.r] from rfl, hr, hr2] at h; exact h, World.grownBy_alloc _ _ _, fun _ => World.grownBy_alloc _ _ _⟩
                    | 28, ho =>
                      obtain rfl := Option.some.inj ho
                      exact steps_append rfl (.tmp 49) (.tmp 76) rfl (ht 0 49 (by kernel_rfl)) (hacc1 rfl) HROW.out rfl (ht 27 76 (by kernel_rfl)) (by simp) (by simp; omega) (Nat.le_trans HBA.out hg.size) (fun v' w' zs hz ha hgr hat => ⟨⟨⟨zs, hz, ha⟩, hat.imp id fun h => ⟨_, h, hg.size⟩⟩, hgr, fun hne => absurd rfl hne⟩)
                    | 29, ho =>
                      obtain rfl := Option.some.inj ho
                      exact StepsTo.move rfl (.tmp 77) (.inr rfl) ⟨(ht 28 77 (by kernel_rfl)), World.grownBy.refl _ _, fun _ => World.grownBy.refl _ _⟩
                    | j1 + 30, ho => exact absurd (Array.getElem?_eq_some_iff.1 ho).1 (by simp)
                  · have h15 := hto 29 6 (by kernel_rfl)
                    clear hto
                    rw [act_lit tm (show tm.size = 80 from hsz)]
                    simp only [List.range, List.range.loop, List.map_cons, List.map_nil]
                    rw [hfr 0 (by kernel_rfl), hfr 1 (by kernel_rfl), hfr 2 (by kernel_rfl), hfr 3 (by kernel_rfl), hfr 4 (by kernel_rfl), hfr 5 (by kernel_rfl), hfr 7 (by kernel_rfl), hfr 8 (by kernel_rfl), hfr 9 (by kernel_rfl), hfr 10 (by kernel_rfl), hfr 11 (by kernel_rfl), hfr 12 (by kernel_rfl), hfr 13 (by kernel_rfl), hfr 14 (by kernel_rfl), hfr 15 (by kernel_rfl), hfr 16 (by kernel_rfl), hfr 17 (by kernel_rfl), hfr 18 (by kernel_rfl), hfr 19 (by kernel_rfl), hfr 20 (by kernel_rfl), hfr 21 (by kernel_rfl), hfr 22 (by kernel_rfl), hfr 23 (by kernel_rfl), hfr 24 (by kernel_rfl), hfr 25 (by kernel_rfl), hfr 26 (by kernel_rfl), hfr 27 (by kernel_rfl), hfr 28 (by kernel_rfl), hfr 29 (by kernel_rfl), hfr 30 (by kernel_rfl), hfr 31 (by kernel_rfl), hfr 32 (by kernel_rfl), hfr 33 (by kernel_rfl), hfr 34 (by kernel_rfl), hfr 35 (by kernel_rfl), hfr 36 (by kernel_rfl), hfr 37 (by kernel_rfl), hfr 38 (by kernel_rfl), hfr 39 (by kernel_rfl), hfr 40 (by kernel_rfl), hfr 41 (by kernel_rfl), hfr 42 (by kernel_rfl), hfr 43 (by kernel_rfl), hfr 44 (by kernel_rfl), hfr 45 (by kernel_rfl), hfr 46 (by kernel_rfl), hfr 47 (by kernel_rfl), hfr 48 (by kernel_rfl), hfr 78 (by kernel_rfl), hfr 79 (by kernel_rfl)]
                    generalize tm.getD 6 undef = y6 at *
                    generalize tm.getD 49 undef = y49 at *
                    generalize tm.getD 50 undef = y50 at *
                    generalize tm.getD 51 undef = y51 at *
                    generalize tm.getD 52 undef = y52 at *
                    generalize tm.getD 53 undef = y53 at *
                    generalize tm.getD 54 undef = y54 at *
                    generalize tm.getD 55 undef = y55 at *
                    generalize tm.getD 56 undef = y56 at *
                    generalize tm.getD 57 undef = y57 at *
                    generalize tm.getD 58 undef = y58 at *
                    generalize tm.getD 59 undef = y59 at *
                    generalize tm.getD 60 undef = y60 at *
                    generalize tm.getD 61 undef = y61 at *
                    generalize tm.getD 62 undef = y62 at *
                    generalize tm.getD 63 undef = y63 at *
                    generalize tm.getD 64 undef = y64 at *
                    generalize tm.getD 65 undef = y65 at *
                    generalize tm.getD 66 undef = y66 at *
                    generalize tm.getD 67 undef = y67 at *
                    generalize tm.getD 68 undef = y68 at *
                    generalize tm.getD 69 undef = y69 at *
                    generalize tm.getD 70 undef = y70 at *
                    generalize tm.getD 71 undef = y71 at *
                    generalize tm.getD 72 undef = y72 at *
                    generalize tm.getD 73 undef = y73 at *
                    generalize tm.getD 74 undef = y74 at *
                    generalize tm.getD 75 undef = y75 at *
                    generalize tm.getD 76 undef = y76 at *
                    generalize tm.getD 77 undef = y77 at *
                    clear hfr hsz tm
                    simp only [Array.getD_eq_getD_getElem?, List.getElem?_toArray, List.getElem?_cons_succ, List.getElem?_cons_zero, Option.getD_some]
                    have h15' : (∃ zs, ruls zs = [⟨[p], [x], C⟩, ⟨[x], [p], C⟩] ∧ Acc w.heap.size w1 y6 (outs ++ zs)) ∧ (ov.ownBlock = y6.ownBlock ∨ ∃ g, y6.ownBlock = some g ∧ V.heap.size ≤ g) := h15
                    obtain ⟨⟨zs, hzs, hacc⟩, _⟩ := h15'
                    have hzl : zs.length = 2 := by rw [← ruls_length zs, hzs]; rfl
                    have HZS := Lib.hid hzs
                    have HACN := Lib.hid hacc
                    have HB1W : Hid (Below w.heap.size w w1) := HBV.out.drew.grown hg HBV.out.size HLOW.out
                    clear h15 hzs hacc hg
                    go_wp2
                    go_roundw
                    case rel => exact ⟨i + 1, row + 1, true, x, outs ++ zs, by omega, by go_num, by omega, by go_num, by first | rfl | trivial, by simp [hzl]; omega, HACN.out, by show _ = _; rw [ruls_app, HZS.out, List.append_assoc, ← HRN.out]; exact HRL.out, HOKN.out, HPN.out, HB1W.out⟩
                    case measure => simp [intOf]; omega
          · have h12i : ¬ (row : Int) + 1 ≤ 12 := by omega
            have hd12 : decide ((row : Int) + 1 ≤ 12) = false := by rw [decide_eq_false_iff_not]; exact h12i
            have HOKN : Hid ((false && Spec.keysOk (row + 1) (l.drop (i + 1))) = ok) := by
              show _ = _
              rw [← HOKB.out, HON.out, decide_eq_false h12]; simp
            by_cases hrow : row = 0
            · exfalso; omega
            · have hr1 : (1 : Int) < (row : Int) + 1 := by omega
              have hd1 : decide ((1 : Int) < (row : Int) + 1) = true := by rw [decide_eq_true_iff]; exact hr1
              have HI0 : Hid (0 < i) := by show _ < _; omega
              have hpe := HP.out (by omega)
              have HPE := Lib.hid hpe
              have hp1 := HC1.out (i - 1) _ (by omega) HBW.out
              rw [← HPE.out] at hp1
              have hsub : IntKind.i64.wrap ((i : Int) - 1) = (i : Int) - 1 := by rw [IntKind.wrap_i64]; omega
              have hnat : ((i : Int) - 1).toNat = i - 1 := by omega
              have hlt1 : (i : Int) - 1 < (n : Int) := by omega
              have hge1 : (0 : Int) ≤ (i : Int) - 1 := by omega
              clear hpe
              by_cases hxp : x = p
              · have he : (x != p) = false := by simpa using hxp
                have HRN : Hid (Spec.keysG C row p (l.drop i) = Spec.keysG C (row + 1) x (l.drop (i + 1))) := by
                  show _ = _
                  rw [HDR.out]
                  show (if x = 124 then _ else _) = _
                  rw [if_neg HNE.out, if_neg (fun h => h.2 hxp), List.nil_append]
                clear hxp
                go_wp2
                go_quiet (fail)
                go_wp2
                go_roundw
                case rel => exact ⟨i + 1, row + 1, false, x, outs, by omega, by go_num, by omega, by go_num, by first | rfl | trivial, by omega, HAC.out.drawn ⟨_, rfl⟩, by show _ = _; rw [← HRN.out]; exact HRL.out, HOKN.out, HPN.out, below_drawn HBW.out ⟨_, rfl⟩⟩
                case measure => simp [intOf]; omega
              · have he : (x != p) = true := by simpa using hxp
                have HRN : Hid (Spec.keysG C row p (l.drop i) = [⟨[p], [x], C⟩, ⟨[x], [p], C⟩] ++ Spec.keysG C (row + 1) x (l.drop (i + 1))) := by
                  show _ = _
                  rw [HDR.out]
                  show (if x = 124 then _ else _) = _
                  rw [if_neg HNE.out, if_pos ⟨by omega, hxp⟩]
                  rfl
                clear hxp
                go_wp2
                go_quiet (fail)
                go_wp2_with fail
                generalize hV : World.drewN _ _ = V
                have HAV : Hid (Acc w.heap.size V ov outs) := by rw [← hV]; exact HAC.out.drawn ⟨_, rfl⟩
                have HBV : Hid (Below w.heap.size w V) := by rw [← hV]; exact below_drawn HBW.out ⟨_, rfl⟩
                have HBA : Hid (w.heap.size ≤ V.drew.heap.size) := HBV.out.size
                have HROW : Hid (∀ g, ov.ownBlock = some g → g < V.heap.size) := fun g hg => (HAV.out.1.lt g hg).2
                have HLOW : Hid (∀ g, ov.ownBlock = some g → w.heap.size ≤ g) := fun g hg => (HAV.out.1.lt g hg).1
                have HC64 := Lib.hid hC
                have HCX : Hid (∀ w1, V.drew.grownBy w1 ov.ownBlock → w1.cell? ⟨b1, o1 + i, none⟩ = some (.int .i64 x)) := fun w1 hg => by
                  rw [HX.out]; exact HC1.out i _ hlt (HBV.out.drew.grown hg HBV.out.size HLOW.out)
                have HCP : Hid (∀ w1, V.drew.grownBy w1 ov.ownBlock → w1.cell? ⟨b1, o1 + (i - 1), none⟩ = some (.int .i64 p)) := fun w1 hg => by
                  rw [HPE.out]; exact HC1.out (i - 1) _ (by omega) (HBV.out.drew.grown hg HBV.out.size HLOW.out)
                have HWF : Hid (∀ z, z = x ∨ z = p → (Lit.int .i64 z).wf = true) := fun z hz => by
                  rcases hz with rfl | rfl
                  · rw [HX.out]; exact HWA.out i hlt
                  · rw [HPE.out]; exact HWA.out (i - 1) (by omega)
                clear hV hx1 hp1
                refine wp_region_table' HMX.out 28 [.val ov, .val (.slice (some ⟨b1, o1, none⟩) n cap), .val (.int .i64 (i : Int)), .val (.int .i64 ((i - 1 : Nat) : Int)), .val (.pointer (some ⟨b1, o1 + (i - 1), none⟩)), .val (.int .i64 p), .one p, .val (.slice (some ⟨b1, o1, none⟩) n cap), .val (.int .i64 (i : Int)), .val (.pointer (some ⟨b1, o1 + i, none⟩)), .val (.int .i64 x), .one x, .val (.int .u64 C), .rule ⟨[p], [x], C⟩, .val (.slice (some ⟨b1, o1, none⟩) n cap), .val (.int .i64 (i : Int)), .val (.pointer (some ⟨b1, o1 + i, none⟩)), .val (.int .i64 x), .one x, .val (.slice (some ⟨b1, o1, none⟩) n cap), .val (.int .i64 (i : Int)), .val (.int .i64 ((i - 1 : Nat) : Int)), .val (.pointer (some ⟨b1, o1 + (i - 1), none⟩)), .val (.int .i64 p), .one p, .val (.int .u64 C), .rule ⟨[x], [p], C⟩, .rules [⟨[p], [x], C⟩, ⟨[x], [p], C⟩], .out [⟨[p], [x], C⟩, ⟨[x], [p], C⟩], .out [⟨[p], [x], C⟩, ⟨[x], [p], C⟩]] w.heap.size outs ov (by kernel_rfl) (by rfl) HAV.out HBV.out.size (fun i1 o ho a1 w1 hg hacc1 hw ht => ?_) (fun tm w1 hsz hg hfr hto => ?_)
                · have hLn := HL
                  match i1, ho with
                  | 0, ho =>
                    obtain rfl := Option.some.inj ho
                    exact StepsTo.move rfl (.tmp 6) (.inl rfl) ⟨(hw 6 (by kernel_rfl)), World.grownBy.refl _ _, fun _ => World.grownBy.refl _ _⟩
                  | 1, ho =>
                    obtain rfl := Option.some.inj ho
                    exact StepsTo.move rfl (.tmp 0) (.inl rfl) ⟨(hw 0 (by kernel_rfl)), World.grownBy.refl _ _, fun _ => World.grownBy.refl _ _⟩
                  | 2, ho =>
                    obtain rfl := Option.some.inj ho
                    exact StepsTo.move rfl (.tmp 9) (.inl rfl) ⟨(hw 9 (by kernel_rfl)), World.grownBy.refl _ _, fun _ => World.grownBy.refl _ _⟩
                  | 3, ho =>
                    obtain rfl := Option.some.inj ho
                    exact steps_sub1 rfl (.tmp 51) _ _ rfl (k := i) HI0.out (ht 2 51 (by kernel_rfl)) (by omega) ⟨rfl, World.grownBy.refl _ _, fun _ => World.grownBy.refl _ _⟩
                  | 4, ho =>
                    obtain rfl := Option.some.inj ho
                    exact steps_index rfl (.tmp 50) (.tmp 52) rfl (ht 1 50 (by kernel_rfl)) (ht 3 52 (by kernel_rfl)) (by omega) ⟨rfl, World.grownBy.refl _ _, fun _ => World.grownBy.refl _ _⟩
                  | 5, ho =>
                    obtain rfl := Option.some.inj ho
                    exact steps_load rfl (.tmp 53) rfl (ht 4 53 (by kernel_rfl)) (HCP.out _ hg) ⟨rfl, World.grownBy.refl _ _, fun _ => World.grownBy.refl _ _⟩
                  | 6, ho =>
                    obtain rfl := Option.some.inj ho
                    exact steps_slice1 rfl (.tmp 54) rfl (ht 5 54 (by kernel_rfl)) ⟨newOne_alloc hg.size (HWF.out _ (.inr rfl)), World.grownBy_alloc _ _ _, fun _ => World.grownBy_alloc _ _ _⟩
                  | 7, ho =>
                    obtain rfl := Option.some.inj ho
                    exact StepsTo.move rfl (.tmp 0) (.inl rfl) ⟨(hw 0 (by kernel_rfl)), World.grownBy.refl _ _, fun _ => World.grownBy.refl _ _⟩
                  | 8, ho =>
                    obtain rfl := Option.some.inj ho
                    exact StepsTo.move rfl (.tmp 9) (.inl rfl) ⟨(hw 9 (by kernel_rfl)), World.grownBy.refl _ _, fun _ => World.grownBy.refl _ _⟩
                  | 9, ho =>
                    obtain rfl := Option.some.inj ho
                    exact steps_index rfl (.tmp 56) (.tmp 57) rfl (ht 7 56 (by kernel_rfl)) (ht 8 57 (by kernel_rfl)) hlt ⟨rfl, World.grownBy.refl _ _, fun _ => World.grownBy.refl _ _⟩
                  | 10, ho =>
                    obtain rfl := Option.some.inj ho
                    exact steps_load rfl (.tmp 58) rfl (ht 9 58 (by kernel_rfl)) (HCX.out _ hg) ⟨rfl, World.grownBy.refl _ _, fun _ => World.grownBy.refl _ _⟩
                  | 11, ho =>
                    obtain rfl := Option.some.inj ho
                    exact steps_slice1 rfl (.tmp 59) rfl (ht 10 59 (by kernel_rfl)) ⟨newOne_alloc hg.size (HWF.out _ (.inl rfl)), World.grownBy_alloc _ _ _, fun _ => World.grownBy_alloc _ _ _⟩
                  | 12, ho =>
                    obtain rfl := Option.some.inj ho
                    exact StepsTo.move rfl (.tmp 1) (.inl rfl) ⟨(hw 1 (by kernel_rfl)), World.grownBy.refl _ _, fun _ => World.grownBy.refl _ _⟩
                  | 13, ho =>
                    obtain rfl := Option.some.inj ho
                    obtain ⟨p, q, e1, e2, hr⟩ := newRule_of (ht 6 55 (by kernel_rfl)) (ht 11 60 (by kernel_rfl)) HC64.out
                    exact steps_rule rfl (.tmp 55) (.tmp 60) (.tmp 61) rfl e1 e2 (ht 12 61 (by kernel_rfl)) ⟨hr, World.grownBy.refl _ _, fun _ => World.grownBy.refl _ _⟩
                  | 14, ho =>
                    obtain rfl := Option.some.inj ho
                    exact StepsTo.move rfl (.tmp 0) (.inl rfl) ⟨(hw 0 (by kernel_rfl)), World.grownBy.refl _ _, fun _ => World.grownBy.refl _ _⟩
                  | 15, ho =>
                    obtain rfl := Option.some.inj ho
                    exact StepsTo.move rfl (.tmp 9) (.inl rfl) ⟨(hw 9 (by kernel_rfl)), World.grownBy.refl _ _, fun _ => World.grownBy.refl _ _⟩
                  | 16, ho =>
                    obtain rfl := Option.some.inj ho
                    exact steps_index rfl (.tmp 63) (.tmp 64) rfl (ht 14 63 (by kernel_rfl)) (ht 15 64 (by kernel_rfl)) hlt ⟨rfl, World.grownBy.refl _ _, fun _ => World.grownBy.refl _ _⟩
                  | 17, ho =>
                    obtain rfl := Option.some.inj ho
                    exact steps_load rfl (.tmp 65) rfl (ht 16 65 (by kernel_rfl)) (HCX.out _ hg) ⟨rfl, World.grownBy.refl _ _, fun _ => World.grownBy.refl _ _⟩
                  | 18, ho =>
                    obtain rfl := Option.some.inj ho
                    exact steps_slice1 rfl (.tmp 66) rfl (ht 17 66 (by kernel_rfl)) ⟨newOne_alloc hg.size (HWF.out _ (.inl rfl)), World.grownBy_alloc _ _ _, fun _ => World.grownBy_alloc _ _ _⟩
                  | 19, ho =>
                    obtain rfl := Option.some.inj ho
                    exact StepsTo.move rfl (.tmp 0) (.inl rfl) ⟨(hw 0 (by kernel_rfl)), World.grownBy.refl _ _, fun _ => World.grownBy.refl _ _⟩
                  | 20, ho =>
                    obtain rfl := Option.some.inj ho
                    exact StepsTo.move rfl (.tmp 9) (.inl rfl) ⟨(hw 9 (by kernel_rfl)), World.grownBy.refl _ _, fun _ => World.grownBy.refl _ _⟩
                  | 21, ho =>
                    obtain rfl := Option.some.inj ho
                    exact steps_sub1 rfl (.tmp 69) _ _ rfl (k := i) HI0.out (ht 20 69 (by kernel_rfl)) (by omega) ⟨rfl, World.grownBy.refl _ _, fun _ => World.grownBy.refl _ _⟩
                  | 22, ho =>
                    obtain rfl := Option.some.inj ho
                    exact steps_index rfl (.tmp 68) (.tmp 70) rfl (ht 19 68 (by kernel_rfl)) (ht 21 70 (by kernel_rfl)) (by omega) ⟨rfl, World.grownBy.refl _ _, fun _ => World.grownBy.refl _ _⟩
                  | 23, ho =>
                    obtain rfl := Option.some.inj ho
                    exact steps_load rfl (.tmp 71) rfl (ht 22 71 (by kernel_rfl)) (HCP.out _ hg) ⟨rfl, World.grownBy.refl _ _, fun _ => World.grownBy.refl _ _⟩
                  | 24, ho =>
                    obtain rfl := Option.some.inj ho
                    exact steps_slice1 rfl (.tmp 72) rfl (ht 23 72 (by kernel_rfl)) ⟨newOne_alloc hg.size (HWF.out _ (.inr rfl)), World.grownBy_alloc _ _ _, fun _ => World.grownBy_alloc _ _ _⟩
                  | 25, ho =>
                    obtain rfl := Option.some.inj ho
                    exact StepsTo.move rfl (.tmp 1) (.inl rfl) ⟨(hw 1 (by kernel_rfl)), World.grownBy.refl _ _, fun _ => World.grownBy.refl _ _⟩
                  | 26, ho =>
                    obtain rfl := Option.some.inj ho
                    obtain ⟨p, q, e1, e2, hr⟩ := newRule_of (ht 18 67 (by kernel_rfl)) (ht 24 73 (by kernel_rfl)) HC64.out
                    exact steps_rule rfl (.tmp 67) (.tmp 73) (.tmp 74) rfl e1 e2 (ht 25 74 (by kernel_rfl)) ⟨hr, World.grownBy.refl _ _, fun _ => World.grownBy.refl _ _⟩
                  | 27, ho =>
                    obtain rfl := Option.some.inj ho
                    obtain ⟨X, e1, hX, hr, hh⟩ := (ht 13 62 (by kernel_rfl))
                    obtain ⟨Y, e2, hY, hr2, hh2⟩ := (ht 26 75 (by kernel_rfl))
                    exact steps_rules2 rfl (.tmp 62) (.tmp 75) rfl e1 e2 ⟨by have h := newRules_alloc (w := w1) hg.size [X, Y] (by intro x hx; simp only [List.mem_cons, List.not_mem_nil, or_false] at hx; rcases hx with rfl | rfl <;> first | exact ⟨hX, hh⟩ | exact ⟨hY, hh2⟩) (by simp); rw [show ruls [X, Y] = [X.r, Y.r] from rfl, hr, hr2] at h; exact h, World.grownBy_alloc _ _ _, fun _ => World.grownBy_alloc _ _ _⟩
                  | 28, ho =>
                    obtain rfl := Option.some.inj ho
                    exact steps_append rfl (.tmp 49) (.tmp 76) rfl (ht 0 49 (by kernel_rfl)) (hacc1 rfl) HROW.out rfl (ht 27 76 (by kernel_rfl)) (by simp) (by simp; omega) (Nat.le_trans HBA.out hg.size) (fun v' w' zs hz ha hgr hat => ⟨⟨⟨zs, hz, ha⟩, hat.imp id fun h => ⟨_, h, hg.size⟩⟩, hgr, fun hne => absurd rfl hne⟩)
                  | 29, ho =>
                    obtain rfl := Option.some.inj ho
                    exact StepsTo.move rfl (.tmp 77) (.inr rfl) ⟨(ht 28 77 (by kernel_rfl)), World.grownBy.refl _ _, fun _ => World.grownBy.refl _ _⟩
                  | j1 + 30, ho => exact absurd (Array.getElem?_eq_some_iff.1 ho).1 (by simp)
                · have h15 := hto 29 6 (by kernel_rfl)
                  clear hto
                  rw [act_lit tm (show tm.size = 80 from hsz)]
                  simp only [List.range, List.range.loop, List.map_cons, List.map_nil]
                  rw [hfr 0 (by kernel_rfl), hfr 1 (by kernel_rfl), hfr 2 (by kernel_rfl), hfr 3 (by kernel_rfl), hfr 4 (by kernel_rfl), hfr 5 (by kernel_rfl), hfr 7 (by kernel_rfl), hfr 8 (by kernel_rfl), hfr 9 (by kernel_rfl), hfr 10 (by kernel_rfl), hfr 11 (by kernel_rfl), hfr 12 (by kernel_rfl), hfr 13 (by kernel_rfl), hfr 14 (by kernel_rfl), hfr 15 (by kernel_rfl), hfr 16 (by kernel_rfl), hfr 17 (by kernel_rfl), hfr 18 (by kernel_rfl), hfr 19 (by kernel_rfl), hfr 20 (by kernel_rfl), hfr 21 (by kernel_rfl), hfr 22 (by kernel_rfl), hfr 23 (by kernel_rfl), hfr 24 (by kernel_rfl), hfr 25 (by kernel_rfl), hfr 26 (by kernel_rfl), hfr 27 (by kernel_rfl), hfr 28 (by kernel_rfl), hfr 29 (by kernel_rfl), hfr 30 (by kernel_rfl), hfr 31 (by kernel_rfl), hfr 32 (by kernel_rfl), hfr 33 (by kernel_rfl), hfr 34 (by kernel_rfl), hfr 35 (by kernel_rfl), hfr 36 (by kernel_rfl), hfr 37 (by kernel_rfl), hfr 38 (by kernel_rfl), hfr 39 (by kernel_rfl), hfr 40 (by kernel_rfl), hfr 41 (by kernel_rfl), hfr 42 (by kernel_rfl), hfr 43 (by kernel_rfl), hfr 44 (by kernel_rfl), hfr 45 (by kernel_rfl), hfr 46 (by kernel_rfl), hfr 47 (by kernel_rfl), hfr 48 (by kernel_rfl), hfr 78 (by kernel_rfl), hfr 79 (by kernel_rfl)]
                  generalize tm.getD 6 undef = y6 at *
                  generalize tm.getD 49 undef = y49 at *
                  generalize tm.getD 50 undef = y50 at *
                  generalize tm.getD 51 undef = y51 at *
                  generalize tm.getD 52 undef = y52 at *
                  generalize tm.getD 53 undef = y53 at *
                  generalize tm.getD 54 undef = y54 at *
                  generalize tm.getD 55 undef = y55 at *
                  generalize tm.getD 56 undef = y56 at *
                  generalize tm.getD 57 undef = y57 at *
                  generalize tm.getD 58 undef = y58 at *
                  generalize tm.getD 59 undef = y59 at *
                  generalize tm.getD 60 undef = y60 at *
                  generalize tm.getD 61 undef = y61 at *
                  generalize tm.getD 62 undef = y62 at *
                  generalize tm.getD 63 undef = y63 at *
                  generalize tm.getD 64 undef = y64 at *
                  generalize tm.getD 65 undef = y65 at *
                  generalize tm.getD 66 undef = y66 at *
                  generalize tm.getD 67 undef = y67 at *
                  generalize tm.getD 68 undef = y68 at *
                  generalize tm.getD 69 undef = y69 at *
                  generalize tm.getD 70 undef = y70 at *
                  generalize tm.getD 71 undef = y71 at *
                  generalize tm.getD 72 undef = y72 at *
                  generalize tm.getD 73 undef = y73 at *
                  generalize tm.getD 74 undef = y74 at *
                  generalize tm.getD 75 undef = y75 at *
                  generalize tm.getD 76 undef = y76 at *
                  generalize tm.getD 77 undef = y77 at *
                  clear hfr hsz tm
                  simp only [Array.getD_eq_getD_getElem?, List.getElem?_toArray, List.getElem?_cons_succ, List.getElem?_cons_zero, Option.getD_some]
                  have h15' : (∃ zs, ruls zs = [⟨[p], [x], C⟩, ⟨[x], [p], C⟩] ∧ Acc w.heap.size w1 y6 (outs ++ zs)) ∧ (ov.ownBlock = y6.ownBlock ∨ ∃ g, y6.ownBlock = some g ∧ V.heap.size ≤ g) := h15
                  obtain ⟨⟨zs, hzs, hacc⟩, _⟩ := h15'
                  have hzl : zs.length = 2 := by rw [← ruls_length zs, hzs]; rfl
                  have HZS := Lib.hid hzs
                  have HACN := Lib.hid hacc
                  have HB1W : Hid (Below w.heap.size w w1) := HBV.out.drew.grown hg HBV.out.size HLOW.out
                  clear h15 hzs hacc hg
                  go_wp2
                  go_roundw
                  case rel => exact ⟨i + 1, row + 1, false, x, outs ++ zs, by omega, by go_num, by omega, by go_num, by first | rfl | trivial, by simp [hzl]; omega, HACN.out, by show _ = _; rw [ruls_app, HZS.out, List.append_assoc, ← HRN.out]; exact HRL.out, HOKN.out, HPN.out, HB1W.out⟩
                  case measure => simp [intOf]; omega
    · obtain rfl : i = n := by omega
      have hnil : l.drop i = [] := List.drop_eq_nil_of_le (by rw [HL.out]; exact Nat.le_refl _)
      obtain rfl : b = ok := by
        have h := HOKB.out
        rw [hnil] at h
        rw [← h]; simp [Spec.keysOk]
      have HR : Hid (ruls outs = rs) := by
        show _ = _
        have h := HRL.out
        rw [hnil] at h
        rw [← h]; simp [Spec.keysG]
      clear hnil
      go_wp2
      go_ret2
      obtain ⟨xa, c, he, hnil, hrs⟩ := HAC.out.form
      exact ⟨xa, outs.length, c, outs, by rw [← he]; rfl, hrs, HR.out, hnil, HBW.out⟩

end Go.Proofs.YtjmabjeaodojeaaGreat

/- Used by the law. -/
namespace Go.Proofs.YtjmabjeaodojeaaGreat
open Go.RowKit

theorem take_rul {xs : List Rw} {j : Nat} {x : Rw} (hj : j < xs.length) (hx : xs.getD j Rw.no = x) : (ruls xs).take (j + 1) = (ruls xs).take j ++ [x.r] := by
  have hj' : j < (ruls xs).length := by rw [ruls_length]; exact hj
  rw [List.take_succ_eq_append_getElem hj']
  congr 2
  have := ruls_at xs j
  rw [hx, List.getD_eq_getElem?_getD, List.getElem?_eq_getElem hj', Option.getD_some] at this
  exact this
theorem slf_spec {q : IntKind} {w : World} {k : Nat} {ty : TypeId} {fr : Nat × Nat} {a : Option Addr} {n c : Nat} {zs : List Int} (h0 : w.heap[k]? = some (.cells #[.slice none 0 0, .slice none 0 0] ty fr)) (h : Sl q w a n c zs) : Slf (some k) a n := by
  rcases Nat.eq_zero_or_pos n with hz | hp
  · exact .inl hz
  · obtain ⟨b, off, ha, _, hc⟩ := h.at hp
    refine .inr ⟨b, off, ha, fun e => ?_⟩
    cases e
    have h1 := hc 0 hp
    simp only [World.cell?, h0] at h1
    match off, h1 with
    | 0, h1 => simp at h1
    | 1, h1 => simp at h1
    | off + 2, h1 => simp at h1
theorem rs_kept {w w' : World} {a : Option Addr} {n c k : Nat} {ty : TypeId} {fr : Nat × Nat} {xs : List Rw} (h : Rs w a n c xs) (hg : w.grownBy w' (some k)) (h0 : w.heap[k]? = some (.cells #[.slice none 0 0, .slice none 0 0] ty fr)) : Rs w' a n c xs := by
  obtain ⟨h1, h2, h3, h4, h5⟩ := h
  refine ⟨h1, h2, h3, fun x hm => (h4 x hm).grown hg ⟨slf_spec h0 (h4 x hm).1, slf_spec h0 (h4 x hm).2.1⟩, ?_⟩
  rcases h5 with h5 | ⟨b, off, ha, hc⟩
  · exact .inl h5
  · rcases Nat.eq_zero_or_pos n with hz | hp
    · exact .inl hz
    · refine .inr ⟨b, off, ha, fun i hi => (hc i hi).grown' hg (fun e => ?_)⟩
      cases e
      have h1 := (hc 0 hp).2.2
      simp only [World.cell?, h0] at h1
      match off, h1 with
      | 0, h1 => simp at h1
      | off + 1, h1 => simp at h1
set_option maxRecDepth 100000 in
theorem word_is {g : List Int} {lit : List UInt8} (f : List Int) (r : Bool) (hf : ∀ z ∈ f, (Lit.int .u8 z).wf = true) (hg : ∀ z ∈ g, (Lit.int .u8 z).wf = true) (hl : (strOfNums g).data.toList = lit) (hr : decide (f = g) = r) : ((strOfNums f).toList == lit) = r := by
  rw [str_is hf hg (by rw [ByteArray.toList_eq]; exact hl), hr]

theorem lt_one' (w : World) (A : Obj) : w.heap.size < (w.alloc A).heap.size := by unfold World.alloc; simp

set_option maxHeartbeats 6400000 in
set_option maxRecDepth 100000 in
theorem rrep_is (a : Option Addr) (cap : Nat) (ys : List Bd) (s : Spec.Sp) (w : World) (hs : Bs w a 4 cap ys) (hsh : ∀ y ∈ ys, y.n ≤ 5000) (hr : Spec.rep (bnums ys) = s) :
    Calls Tryz.prog 46 #[.slice a 4 cap, .string (strOfNums Spec.wREP)] w fun e w' => SpecIs w w' e s := by
  have hnc := hs.2.1
  have hcm := hs.2.2.1
  unfold maxLen at hcm
  have hl := hs.1
  obtain ⟨b1, o1, rfl, hb1, hc⟩ := hs.at (by omega)
  have hgood := hs.good
  have hbn := bnums_at ys
  have hmem : ∀ i, i < 4 → (ys.getD i Bd.no).n ≤ 5000 := fun i hi => by
    rw [List.getD_eq_getElem?_getD, List.getElem?_eq_getElem (by omega), Option.getD_some]
    exact hsh _ (List.getElem_mem _)
  have hx1 := hc 1 (by omega)
  have hg1 := hgood 1
  have hn1 := hmem 1 (by omega)
  have hz1 := hbn 1
  generalize ys.getD 1 Bd.no = y1 at hx1 hg1 hn1 hz1
  obtain ⟨a1, n1, c1, z1⟩ := y1
  change n1 ≤ 5000 at hn1
  change w.cell? ⟨b1, o1 + 1, none⟩ = some (.slice a1 n1 c1) at hx1
  change (bnums ys).getD 1 [] = z1 at hz1
  have HZ1 := Lib.hid hz1
  have HG1 : Hid (Sl .u8 w a1 n1 c1 z1) := hg1
  clear hg1 hz1
  have hx2 := hc 2 (by omega)
  have hg2 := hgood 2
  have hn2 := hmem 2 (by omega)
  have hz2 := hbn 2
  generalize ys.getD 2 Bd.no = y2 at hx2 hg2 hn2 hz2
  obtain ⟨a2, n2, c2, z2⟩ := y2
  change n2 ≤ 5000 at hn2
  change w.cell? ⟨b1, o1 + 2, none⟩ = some (.slice a2 n2 c2) at hx2
  change (bnums ys).getD 2 [] = z2 at hz2
  have HZ2 := Lib.hid hz2
  have HG2 : Hid (Sl .u8 w a2 n2 c2 z2) := hg2
  clear hg2 hz2
  have hx3 := hc 3 (by omega)
  have hg3 := hgood 3
  have hn3 := hmem 3 (by omega)
  have hz3 := hbn 3
  generalize ys.getD 3 Bd.no = y3 at hx3 hg3 hn3 hz3
  obtain ⟨a3, n3, c3, z3⟩ := y3
  change n3 ≤ 5000 at hn3
  change w.cell? ⟨b1, o1 + 3, none⟩ = some (.slice a3 n3 c3) at hx3
  change (bnums ys).getD 3 [] = z3 at hz3
  have HZ3 := Lib.hid hz3
  have HG3 : Hid (Sl .u8 w a3 n3 c3 z3) := hg3
  clear hg3 hz3
  have eREP : ((strOfNums Spec.wREP).toList == [82, 69, 80]) = true := word_is (g := Spec.wREP) Spec.wREP _ (by decide) (by decide) rfl (by decide)
  have eKEY : ((strOfNums Spec.wREP).toList == [75, 69, 89]) = false := word_is (g := Spec.wKEY) Spec.wREP _ (by decide) (by decide) rfl (by decide)
  have eMAP : ((strOfNums Spec.wREP).toList == [77, 65, 80]) = false := word_is (g := Spec.wMAP) Spec.wREP _ (by decide) (by decide) rfl (by decide)
  have HI : Hid ((Tryz.prog.info? 44).map (·.size) = some 2) := info_spec
  have HB : ∀ o, Hid (Below w.heap.size w (w.alloc o) ∧ w.heap.size + 1 ≤ (w.alloc o).heap.size) := fun o => ⟨(Below.refl _ w).alloc (Nat.le_refl _) o, by simp⟩
  have HNW : Hid (∀ o, (w.alloc o).heap[w.heap.size]? = some o) := fun o => heap_alloc_new w o
  have HCL : Hid (∀ (i : Nat) (W : World), i < 4 → Below w.heap.size w W → W.cell? ⟨b1, o1 + i, none⟩ = w.cell? ⟨b1, o1 + i, none⟩) := fun i W hi hB => hB.cell (p := ⟨b1, o1 + i, none⟩) hb1
  obtain ⟨l1, er1, hri⟩ := readIs_ex z1
  have HRI := Lib.hid hri
  have HR := Lib.hid hr
  have HLL : Hid (l1.length ≤ 5000) := by
    show _ ≤ _
    rcases hri with ⟨h, _⟩ | ⟨_, h, _⟩
    · have h1 := Utf.put_length_ge l1
      rw [h.2, HG1.out.1] at h1
      omega
    · rw [h]; simp
  clear hs hsh hr hl hc hgood hbn hmem hri
  go_enter Tryz.func46, Tryz.ntmps46
  go_wp2_with fail
  refine (rread_gen a1 n1 c1 z1 l1 er1 _ HRI.out (HG1.out.alloc _) (by omega)).mono ?_
  rintro e w1 ⟨a', c', rfl, hs1, hb⟩
  have HS1 := Lib.hid hs1
  have HBw1 : Hid (Below w.heap.size w w1 ∧ w.heap.size + 1 ≤ w1.heap.size) := ⟨(HB _).out.1.trans (hb.mono (HB _).out.1.size), Nat.le_trans (HB _).out.2 hb.size⟩
  have H0w1 : Hid (w1.heap[w.heap.size]? = some (.cells #[.slice none 0 0, .slice none 0 0] 44 (0, 0))) := (hb.block _ (lt_one' _ _)).trans (HNW.out _)
  clear hs1 hb
  have hx1w1 : w1.cell? ⟨b1, o1 + 1, none⟩ = some (.slice a1 n1 c1) := (HCL.out 1 w1 (by omega) HBw1.out.1).trans hx1
  have hx2w1 : w1.cell? ⟨b1, o1 + 2, none⟩ = some (.slice a2 n2 c2) := (HCL.out 2 w1 (by omega) HBw1.out.1).trans hx2
  have hx3w1 : w1.cell? ⟨b1, o1 + 3, none⟩ = some (.slice a3 n3 c3) := (HCL.out 3 w1 (by omega) HBw1.out.1).trans hx3
  go_wp2_with fail
  refine (rside_is a1 n1 c1 z1 _ w1 (HG1.out.below HBw1.out.1 (Nat.le_refl _)) (by omega) rfl).mono ?_
  rintro e w2 ⟨a4, m4, c4, l4, er4, rfl, hs4, hk4, hb⟩
  have HBw2 : Hid (Below w.heap.size w w2 ∧ w.heap.size + 1 ≤ w2.heap.size) := ⟨HBw1.out.1.trans (hb.mono HBw1.out.1.size), Nat.le_trans HBw1.out.2 hb.size⟩
  have H0w2 : Hid (w2.heap[w.heap.size]? = some (.cells #[.slice none 0 0, .slice none 0 0] 44 (0, 0))) := (hb.block _ (by have := HBw1.out.2; omega)).trans H0w1.out
  have HS4 := Lib.hid hs4
  have HK4 := Lib.hid hk4
  clear hs4 hk4 hb hx1w1 hx2w1 hx3w1
  have hx1w2 : w2.cell? ⟨b1, o1 + 1, none⟩ = some (.slice a1 n1 c1) := (HCL.out 1 w2 (by omega) HBw2.out.1).trans hx1
  have hx2w2 : w2.cell? ⟨b1, o1 + 2, none⟩ = some (.slice a2 n2 c2) := (HCL.out 2 w2 (by omega) HBw2.out.1).trans hx2
  have hx3w2 : w2.cell? ⟨b1, o1 + 3, none⟩ = some (.slice a3 n3 c3) := (HCL.out 3 w2 (by omega) HBw2.out.1).trans hx3
  go_wp2_with fail
  refine (rside_is a2 n2 c2 z2 _ w2 (HG2.out.below HBw2.out.1 (Nat.le_refl _)) (by omega) rfl).mono ?_
  rintro e w3 ⟨a5, m5, c5, l5, er5, rfl, hs5, hk5, hb⟩
  have HBw3 : Hid (Below w.heap.size w w3 ∧ w.heap.size + 1 ≤ w3.heap.size) := ⟨HBw2.out.1.trans (hb.mono HBw2.out.1.size), Nat.le_trans HBw2.out.2 hb.size⟩
  have H0w3 : Hid (w3.heap[w.heap.size]? = some (.cells #[.slice none 0 0, .slice none 0 0] 44 (0, 0))) := (hb.block _ (by have := HBw2.out.2; omega)).trans H0w2.out
  have HS5 := Lib.hid hs5
  have HK5 := Lib.hid hk5
  have HS43 : Hid (Sl .i64 w3 a4 m4 c4 l4) := HS4.out.below hb (Nat.le_refl _)
  clear hs5 hk5 hb hx1w2 hx2w2 hx3w2
  have hx1w3 : w3.cell? ⟨b1, o1 + 1, none⟩ = some (.slice a1 n1 c1) := (HCL.out 1 w3 (by omega) HBw3.out.1).trans hx1
  have hx2w3 : w3.cell? ⟨b1, o1 + 2, none⟩ = some (.slice a2 n2 c2) := (HCL.out 2 w3 (by omega) HBw3.out.1).trans hx2
  have hx3w3 : w3.cell? ⟨b1, o1 + 3, none⟩ = some (.slice a3 n3 c3) := (HCL.out 3 w3 (by omega) HBw3.out.1).trans hx3
  have hsw : Spec.rep (bnums ys) = (match Spec.side z1, Spec.side z2 with
      | some a, some b => Spec.last z3 fun c => Spec.told true [⟨a, b, c⟩]
      | _, _ => Spec.Sp.no 10) := by
    unfold Spec.rep; rw [HZ1.out, HZ2.out, HZ3.out]; cases Spec.side z1 <;> cases Spec.side z2 <;> rfl
  rw [HR.out] at hsw
  have HSW := Lib.hid hsw
  clear hsw
  have hk : (er4 = 10 ∧ s = Spec.Sp.no 10) ∨ (er4 = 0 ∧ er5 = 10 ∧ s = Spec.Sp.no 10) ∨ (er4 = 0 ∧ er5 = 0 ∧ Hid (s = Spec.last z3 fun c => Spec.told true [⟨l4, l5, c⟩])) := by
    rcases HK4.out with ⟨h4, e4⟩ | ⟨h4, _, e4⟩
    · rcases HK5.out with ⟨h5, e5⟩ | ⟨h5, _, e5⟩
      · exact .inr (.inr ⟨e4, e5, by show _ = _; rw [HSW.out, h4, h5]⟩)
      · exact .inr (.inl ⟨e4, e5, by rw [HSW.out, h4, h5]⟩)
    · exact .inl ⟨e4, by rw [HSW.out, h4]⟩
  clear HK4 HK5
  rcases hk with ⟨rfl, rfl⟩ | ⟨rfl, rfl, rfl⟩ | ⟨rfl, rfl, HSL⟩
  · go_wp2_with (refine wpList_store_g (by rfl) 44 (.tmp 4) (.tmp 45) (by rfl) w.heap.size #[.slice none 0 0, .slice none 0 0] (by rfl) (by rfl) 44 #[.slice none 0 0, .slice none 0 0] H0w3.out HI.out rfl (spec_cells _ _ _ _ _ _) ?_
                 intro w5 hw5 hgr5 hsz5
                 have HW5 := Lib.hid hw5
                 have HG5 := Lib.hid hgr5
                 have HB5 : Hid (Below w.heap.size w w5) := (HBw3.out.1).grown hgr5 (HBw3.out.1).size (fun k hk => by cases hk; exact Nat.le_refl _)
                 clear hw5 hgr5 hsz5)
    refine bodyPost_ret (results_cell_row_tmp rfl _ _ w.heap.size 44 #[.slice none 0 0, .slice none 0 0] (0, 0) _ (by rfl) HW5.out Tryz.underlying44 (by rfl) HI.out) rfl ?_
    exact ⟨none, 0, 0, none, 0, 0, [], rfl, Sl.nil, fun _ => rfl, Rs.nil, rfl, fun _ => rfl, HB5.out⟩
  · go_wp2_with (refine wpList_store_g (by rfl) 44 (.tmp 4) (.tmp 45) (by rfl) w.heap.size #[.slice none 0 0, .slice none 0 0] (by rfl) (by rfl) 44 #[.slice none 0 0, .slice none 0 0] H0w3.out HI.out rfl (spec_cells _ _ _ _ _ _) ?_
                 intro w5 hw5 hgr5 hsz5
                 have HW5 := Lib.hid hw5
                 have HG5 := Lib.hid hgr5
                 have HB5 : Hid (Below w.heap.size w w5) := (HBw3.out.1).grown hgr5 (HBw3.out.1).size (fun k hk => by cases hk; exact Nat.le_refl _)
                 clear hw5 hgr5 hsz5)
    refine bodyPost_ret (results_cell_row_tmp rfl _ _ w.heap.size 44 #[.slice none 0 0, .slice none 0 0] (0, 0) _ (by rfl) HW5.out Tryz.underlying44 (by rfl) HI.out) rfl ?_
    exact ⟨none, 0, 0, none, 0, 0, [], rfl, Sl.nil, fun _ => rfl, Rs.nil, rfl, fun _ => rfl, HB5.out⟩
  · go_wp2_with fail
    refine (rread_any a3 n3 c3 z3 w3 (HG3.out.below HBw3.out.1 (Nat.le_refl _))).mono ?_
    rintro e w4 ⟨ht, hb⟩
    have HBw4 : Hid (Below w.heap.size w w4 ∧ w.heap.size + 1 ≤ w4.heap.size) := ⟨HBw3.out.1.trans (hb.mono HBw3.out.1.size), Nat.le_trans HBw3.out.2 hb.size⟩
    have H0w4 : Hid (w4.heap[w.heap.size]? = some (.cells #[.slice none 0 0, .slice none 0 0] 44 (0, 0))) := (hb.block _ (by have := HBw3.out.2; omega)).trans H0w3.out
    have HS44 : Hid (Sl .i64 w4 a4 m4 c4 l4) := HS43.out.below hb (Nat.le_refl _)
    have HS54 : Hid (Sl .i64 w4 a5 m5 c5 l5) := HS5.out.below hb (Nat.le_refl _)
    clear hb hx1w3 hx2w3 hx3w3
    rcases ht with ⟨d, hd, rfl⟩ | ⟨hd, rfl⟩
    · have hdw : d < 18446744073709551615 := by have := (Num.read_some hd).2; omega
      obtain ⟨rs, hrs⟩ : ∃ rs : List Rul, rs = [⟨l4, l5, (d : Int)⟩] := ⟨_, rfl⟩
      have HT : Hid (Spec.told true rs = s) := by
        show _ = _
        rw [HSL.out]; unfold Spec.last; rw [hd, hrs]
      have HXX : Hid ((⟨a4, m4, c4, l4, a5, m5, c5, l5, (d : Int)⟩ : Rw).Good w4) := ⟨HS44.out, HS54.out, by show (0 : Int) ≤ d; omega, by show (d : Int) < _; omega⟩
      obtain ⟨xs, hxs⟩ : ∃ xs : List Rw, xs = [⟨a4, m4, c4, l4, a5, m5, c5, l5, (d : Int)⟩] := ⟨_, rfl⟩
      have HRU : Hid (ruls xs = rs) := by show _ = _; rw [hxs, hrs]; rfl
      have HXS := Lib.hid hxs
      have HRSS := Lib.hid hrs
      clear hd hrs hxs
      go_wp2
      generalize hV : World.alloc w4 _ = V
      have HRS4 : Hid (Rs V (some ⟨w4.heap.size, 0, none⟩) 1 1 xs) := by rw [HXS.out, ← hV]; exact Rs.single (HXX.out.alloc _) (RwAt.new w4 ⟨a4, m4, c4, l4, a5, m5, c5, l5, (d : Int)⟩ _)
      have HBV : Hid (Below w.heap.size w V ∧ w.heap.size + 1 ≤ V.heap.size) := by rw [← hV]; exact ⟨HBw4.out.1.alloc HBw4.out.1.size _, Nat.le_trans HBw4.out.2 (by simp)⟩
      have H0V : Hid (V.heap[w.heap.size]? = some (.cells #[.slice none 0 0, .slice none 0 0] 44 (0, 0))) := by rw [← hV, heap_alloc_old _ _ (show w.heap.size < w4.heap.size by have := HBw4.out.2; omega)]; exact H0w4.out
      clear hV
      generalize hra4 : (some ⟨w4.heap.size, 0, none⟩ : Option Addr) = ra at *
      have HRS : Hid (Rs V ra 1 1 xs) := HRS4.out
      have HCN : Hid (ra = none → 1 = 0) := fun h => by rw [h] at hra4; cases hra4
      clear hra4
      go_loopw [13, 14] (fun bx ix wr => ∃ (i : Nat) (b : Bool), i ≤ 1 ∧ ix = .int .i64 (i : Int) ∧ bx = .bool b ∧ Hid (b = (true && (rs.take i).all Spec.fit)) ∧ Hid (Below V.heap.size V wr)) (fun _ ix _ => 1 - (intOf ix).toNat)
      case atStart => exact ⟨0, true, Nat.zero_le _, rfl, rfl, by show _ = _; simp, Below.refl _ _⟩
      case round =>
        obtain ⟨i, b, hi, rfl, rfl, HBI, HBW⟩ := hrel
        have HBT : Hid (Below w.heap.size w wr) := HBV.out.1.trans (HBW.out.mono HBV.out.1.size)
        have H0W : Hid (wr.heap[w.heap.size]? = some (.cells #[.slice none 0 0, .slice none 0 0] 44 (0, 0))) := (HBW.out.block _ (by have := HBV.out.2; omega)).trans H0V.out
        by_cases hlt : i < 1
        · have hlti : (i : Int) < 1 := by omega
          obtain ⟨b1, o1, la, ln, lc, LL, ra1, rn1, rc1, RR, C1, hra, hbb, hx1, hx2, hx3, hsl, hsr, hC0, hC1, hz1⟩ := (HRS.out.below HBW.out (Nat.le_refl _)).one i hlt
          subst hra
          have HGX : Hid ((⟨la, ln, lc, LL, ra1, rn1, rc1, RR, C1⟩ : Rw).Good wr) := ⟨hsl, hsr, hC0, hC1⟩
          obtain ⟨fb, hfb⟩ : ∃ q, Spec.fit ⟨LL, RR, C1⟩ = q := ⟨_, rfl⟩
          have HFB := Lib.hid hfb
          have HTK : Hid (rs.take (i + 1) = rs.take i ++ [⟨LL, RR, C1⟩]) := by
            show _ = _
            rw [← HRU.out]
            exact take_rul (by rw [HRS.out.1]; exact hlt) hz1
          clear hsl hsr hC0 hC1 hz1 hfb
          go_wp2_with fail
          refine (rfit_is ⟨la, ln, lc, LL, ra1, rn1, rc1, RR, C1⟩ fb wr HGX.out HFB.out).mono ?_
          rintro e w9 ⟨rfl, hb9⟩
          have HB9 : Hid (Below V.heap.size V w9) := HBW.out.trans (hb9.mono HBW.out.size)
          clear hb9 hx1 hx2 hx3
          cases b
          · go_wp2
            go_roundw
            case rel => exact ⟨i + 1, false, by omega, by go_num, by first | rfl | trivial, by show _ = _; rw [HTK.out, List.all_append, ← Bool.and_assoc, ← HBI.out]; rfl, HB9.out⟩
            case measure => simp [intOf]; omega
          · go_wp2
            go_roundw
            case rel => exact ⟨i + 1, fb, by omega, by go_num, by first | rfl | trivial, by show _ = _; rw [HTK.out, List.all_append, ← Bool.and_assoc, ← HBI.out, ← HFB.out]; simp, HB9.out⟩
            case measure => simp [intOf]; omega
        · obtain rfl : 1 = i := by omega
          have hall : rs.take 1 = rs := List.take_of_length_le (by rw [← HRU.out, ruls_length, HRS.out.1]; exact Nat.le_refl _)
          have hb := HBI.out
          rw [hall] at hb
          have HS2 : Hid ((if b = true then (⟨0, [], rs⟩ : Spec.Sp) else Spec.Sp.no 60) = s) := by
            show _ = _
            rw [← HT.out, hb]
            unfold Spec.told
            cases h1 : true <;> cases h2 : rs.all Spec.fit <;> first | (simp; done) | (simp at h1; done) | rfl
          clear hall hb
          cases b
          · obtain rfl : s = Spec.Sp.no 60 := by rw [← HS2.out]; rfl
            go_wp2_with (refine wpList_store_g (by rfl) 44 (.tmp 4) (.tmp 98) (by rfl) w.heap.size #[.slice none 0 0, .slice none 0 0] (by rfl) (by rfl) 44 #[.slice none 0 0, .slice none 0 0] H0W.out HI.out rfl (spec_cells _ _ _ _ _ _) ?_
                         intro w5 hw5 hgr5 hsz5
                         have HW5 := Lib.hid hw5
                         have HG5 := Lib.hid hgr5
                         have HB5 : Hid (Below w.heap.size w w5) := (HBT.out).grown hgr5 (HBT.out).size (fun k hk => by cases hk; exact Nat.le_refl _)
                         clear hw5 hgr5 hsz5)
            refine bodyPost_ret (results_cell_row_tmp rfl _ _ w.heap.size 44 #[.slice none 0 0, .slice none 0 0] (0, 0) _ (by rfl) HW5.out Tryz.underlying44 (by rfl) HI.out) rfl ?_
            exact ⟨none, 0, 0, none, 0, 0, [], rfl, Sl.nil, fun _ => rfl, Rs.nil, rfl, fun _ => rfl, HB5.out⟩
          · obtain rfl : s = ⟨0, [], rs⟩ := by rw [← HS2.out]; rfl
            go_wp2_with (refine wpList_store_g (by rfl) 44 (.tmp 4) (.tmp 100) (by rfl) w.heap.size #[.slice none 0 0, .slice ra 1 1] (by rfl) (by rfl) 44 #[.slice none 0 0, .slice none 0 0] H0W.out HI.out rfl (spec_cells _ _ _ _ _ _) ?_
                         intro w5 hw5 hgr5 hsz5
                         have HW5 := Lib.hid hw5
                         have HG5 := Lib.hid hgr5
                         have HB5 : Hid (Below w.heap.size w w5) := (HBT.out).grown hgr5 (HBT.out).size (fun k hk => by cases hk; exact Nat.le_refl _)
                         clear hw5 hgr5 hsz5)
            have hgood : Rs w5 ra 1 1 xs := rs_kept (HRS.out.below HBW.out (Nat.le_refl _)) HG5.out H0W.out
            refine bodyPost_ret (results_cell_row_tmp rfl _ _ w.heap.size 44 #[.slice none 0 0, .slice ra 1 1] (0, 0) _ (by rfl) HW5.out Tryz.underlying44 (by rfl) HI.out) rfl ?_
            exact ⟨none, 0, 0, ra, 1, 1, xs, rfl, Sl.nil, fun _ => rfl, hgood, HRU.out, HCN.out, HB5.out⟩
    · obtain rfl : s = Spec.Sp.no 50 := by rw [HSL.out]; unfold Spec.last; rw [hd]
      clear hd
      go_wp2_with (refine wpList_store_g (by rfl) 44 (.tmp 4) (.tmp 58) (by rfl) w.heap.size #[.slice none 0 0, .slice none 0 0] (by rfl) (by rfl) 44 #[.slice none 0 0, .slice none 0 0] H0w4.out HI.out rfl (spec_cells _ _ _ _ _ _) ?_
                   intro w5 hw5 hgr5 hsz5
                   have HW5 := Lib.hid hw5
                   have HG5 := Lib.hid hgr5
                   have HB5 : Hid (Below w.heap.size w w5) := (HBw4.out.1).grown hgr5 (HBw4.out.1).size (fun k hk => by cases hk; exact Nat.le_refl _)
                   clear hw5 hgr5 hsz5)
      refine bodyPost_ret (results_cell_row_tmp rfl _ _ w.heap.size 44 #[.slice none 0 0, .slice none 0 0] (0, 0) _ (by rfl) HW5.out Tryz.underlying44 (by rfl) HI.out) rfl ?_
      exact ⟨none, 0, 0, none, 0, 0, [], rfl, Sl.nil, fun _ => rfl, Rs.nil, rfl, fun _ => rfl, HB5.out⟩

set_option maxHeartbeats 6400000 in
set_option maxRecDepth 100000 in
theorem rkey_is (a : Option Addr) (cap : Nat) (ys : List Bd) (s : Spec.Sp) (w : World) (hs : Bs w a 3 cap ys) (hsh : ∀ y ∈ ys, y.n ≤ 5000) (hr : Spec.key (bnums ys) = s) :
    Calls Tryz.prog 46 #[.slice a 3 cap, .string (strOfNums Spec.wKEY)] w fun e w' => SpecIs w w' e s := by
  have hnc := hs.2.1
  have hcm := hs.2.2.1
  unfold maxLen at hcm
  have hl := hs.1
  obtain ⟨b1, o1, rfl, hb1, hc⟩ := hs.at (by omega)
  have hgood := hs.good
  have hbn := bnums_at ys
  have hmem : ∀ i, i < 3 → (ys.getD i Bd.no).n ≤ 5000 := fun i hi => by
    rw [List.getD_eq_getElem?_getD, List.getElem?_eq_getElem (by omega), Option.getD_some]
    exact hsh _ (List.getElem_mem _)
  have hx1 := hc 1 (by omega)
  have hg1 := hgood 1
  have hn1 := hmem 1 (by omega)
  have hz1 := hbn 1
  generalize ys.getD 1 Bd.no = y1 at hx1 hg1 hn1 hz1
  obtain ⟨a1, n1, c1, z1⟩ := y1
  change n1 ≤ 5000 at hn1
  change w.cell? ⟨b1, o1 + 1, none⟩ = some (.slice a1 n1 c1) at hx1
  change (bnums ys).getD 1 [] = z1 at hz1
  have HZ1 := Lib.hid hz1
  have HG1 : Hid (Sl .u8 w a1 n1 c1 z1) := hg1
  clear hg1 hz1
  have hx2 := hc 2 (by omega)
  have hg2 := hgood 2
  have hn2 := hmem 2 (by omega)
  have hz2 := hbn 2
  generalize ys.getD 2 Bd.no = y2 at hx2 hg2 hn2 hz2
  obtain ⟨a2, n2, c2, z2⟩ := y2
  change n2 ≤ 5000 at hn2
  change w.cell? ⟨b1, o1 + 2, none⟩ = some (.slice a2 n2 c2) at hx2
  change (bnums ys).getD 2 [] = z2 at hz2
  have HZ2 := Lib.hid hz2
  have HG2 : Hid (Sl .u8 w a2 n2 c2 z2) := hg2
  clear hg2 hz2
  have eREP : ((strOfNums Spec.wKEY).toList == [82, 69, 80]) = false := word_is (g := Spec.wREP) Spec.wKEY _ (by decide) (by decide) rfl (by decide)
  have eKEY : ((strOfNums Spec.wKEY).toList == [75, 69, 89]) = true := word_is (g := Spec.wKEY) Spec.wKEY _ (by decide) (by decide) rfl (by decide)
  have eMAP : ((strOfNums Spec.wKEY).toList == [77, 65, 80]) = false := word_is (g := Spec.wMAP) Spec.wKEY _ (by decide) (by decide) rfl (by decide)
  have HI : Hid ((Tryz.prog.info? 44).map (·.size) = some 2) := info_spec
  have HB : ∀ o, Hid (Below w.heap.size w (w.alloc o) ∧ w.heap.size + 1 ≤ (w.alloc o).heap.size) := fun o => ⟨(Below.refl _ w).alloc (Nat.le_refl _) o, by simp⟩
  have HNW : Hid (∀ o, (w.alloc o).heap[w.heap.size]? = some o) := fun o => heap_alloc_new w o
  have HCL : Hid (∀ (i : Nat) (W : World), i < 3 → Below w.heap.size w W → W.cell? ⟨b1, o1 + i, none⟩ = w.cell? ⟨b1, o1 + i, none⟩) := fun i W hi hB => hB.cell (p := ⟨b1, o1 + i, none⟩) hb1
  obtain ⟨l1, er1, hri⟩ := readIs_ex z1
  have HRI := Lib.hid hri
  have HR := Lib.hid hr
  have HLL : Hid (l1.length ≤ 5000) := by
    show _ ≤ _
    rcases hri with ⟨h, _⟩ | ⟨_, h, _⟩
    · have h1 := Utf.put_length_ge l1
      rw [h.2, HG1.out.1] at h1
      omega
    · rw [h]; simp
  clear hs hsh hr hl hc hgood hbn hmem hri
  go_enter Tryz.func46, Tryz.ntmps46
  go_wp2_with fail
  refine (rread_gen a1 n1 c1 z1 l1 er1 _ HRI.out (HG1.out.alloc _) (by omega)).mono ?_
  rintro e w1 ⟨a', c', rfl, hs1, hb⟩
  have HS1 := Lib.hid hs1
  have HBw1 : Hid (Below w.heap.size w w1 ∧ w.heap.size + 1 ≤ w1.heap.size) := ⟨(HB _).out.1.trans (hb.mono (HB _).out.1.size), Nat.le_trans (HB _).out.2 hb.size⟩
  have H0w1 : Hid (w1.heap[w.heap.size]? = some (.cells #[.slice none 0 0, .slice none 0 0] 44 (0, 0))) := (hb.block _ (lt_one' _ _)).trans (HNW.out _)
  clear hs1 hb
  have hx1w1 : w1.cell? ⟨b1, o1 + 1, none⟩ = some (.slice a1 n1 c1) := (HCL.out 1 w1 (by omega) HBw1.out.1).trans hx1
  have hx2w1 : w1.cell? ⟨b1, o1 + 2, none⟩ = some (.slice a2 n2 c2) := (HCL.out 2 w1 (by omega) HBw1.out.1).trans hx2
  have hsw : Spec.key (bnums ys) = (match Spec.signs z1 with
      | some a => Spec.last z2 fun c => Spec.told (Spec.keysOk 0 a) (Spec.keysG c 0 0 a)
      | none => Spec.Sp.no 10) := by
    unfold Spec.key; rw [HZ1.out, HZ2.out]; cases Spec.signs z1 <;> rfl
  rw [HR.out] at hsw
  have hk : (er1 = 10 ∧ s = Spec.Sp.no 10) ∨ (er1 = 0 ∧ Hid (s = Spec.last z2 fun c => Spec.told (Spec.keysOk 0 l1) (Spec.keysG c 0 0 l1))) := by
    rcases HRI.out with ⟨h, e⟩ | ⟨h, _, e⟩
    · exact .inr ⟨e, by show _ = _; rw [hsw, Spec.signs_of h]⟩
    · exact .inl ⟨e, by rw [hsw, Spec.signs_of h]⟩
  clear hsw HRI
  rcases hk with ⟨rfl, rfl⟩ | ⟨rfl, HSL⟩
  · go_wp2_with (refine wpList_store_g (by rfl) 44 (.tmp 4) (.tmp 45) (by rfl) w.heap.size #[.slice none 0 0, .slice none 0 0] (by rfl) (by rfl) 44 #[.slice none 0 0, .slice none 0 0] H0w1.out HI.out rfl (spec_cells _ _ _ _ _ _) ?_
                 intro w5 hw5 hgr5 hsz5
                 have HW5 := Lib.hid hw5
                 have HG5 := Lib.hid hgr5
                 have HB5 : Hid (Below w.heap.size w w5) := (HBw1.out.1).grown hgr5 (HBw1.out.1).size (fun k hk => by cases hk; exact Nat.le_refl _)
                 clear hw5 hgr5 hsz5)
    refine bodyPost_ret (results_cell_row_tmp rfl _ _ w.heap.size 44 #[.slice none 0 0, .slice none 0 0] (0, 0) _ (by rfl) HW5.out Tryz.underlying44 (by rfl) HI.out) rfl ?_
    exact ⟨none, 0, 0, none, 0, 0, [], rfl, Sl.nil, fun _ => rfl, Rs.nil, rfl, fun _ => rfl, HB5.out⟩
  · go_wp2_with fail
    refine (rread_any a2 n2 c2 z2 w1 (HG2.out.below HBw1.out.1 (Nat.le_refl _))).mono ?_
    rintro e w4 ⟨ht, hb⟩
    have HBw4 : Hid (Below w.heap.size w w4 ∧ w.heap.size + 1 ≤ w4.heap.size) := ⟨HBw1.out.1.trans (hb.mono HBw1.out.1.size), Nat.le_trans HBw1.out.2 hb.size⟩
    have H0w4 : Hid (w4.heap[w.heap.size]? = some (.cells #[.slice none 0 0, .slice none 0 0] 44 (0, 0))) := (hb.block _ (by have := HBw1.out.2; omega)).trans H0w1.out
    have HS14 : Hid (Sl .i64 w4 a' l1.length c' l1) := HS1.out.below hb (Nat.le_refl _)
    clear hb hx1w1 hx2w1
    rcases ht with ⟨d, hd, rfl⟩ | ⟨hd, rfl⟩
    · have hdw : d < 18446744073709551615 := by have := (Num.read_some hd).2; omega
      obtain ⟨ok0, hok⟩ : ∃ q, Spec.keysOk 0 l1 = q := ⟨_, rfl⟩
      obtain ⟨rs, hrs⟩ : ∃ rs, Spec.keysG (d : Int) 0 0 l1 = rs := ⟨_, rfl⟩
      have HT : Hid (Spec.told ok0 rs = s) := by
        show _ = _
        rw [HSL.out]; unfold Spec.last; rw [hd]
        show _ = Spec.told (Spec.keysOk 0 l1) (Spec.keysG (d : Int) 0 0  l1)
        rw [hok, ← hrs]
      have HOK := Lib.hid hok
      have HRSS := Lib.hid hrs
      clear hd hok hrs
      go_wp2_with fail
      refine (rkeys_is a' l1.length c' l1 (d : Int) ok0 rs _ (HS14.out.alloc _) HLL.out (by omega) HOK.out HRSS.out).mono ?_
      rintro e V ⟨ra, m, rc, xs, rfl, hrs0, hru0, hcn0, hbv⟩
      have HRS := Lib.hid hrs0
      have HRU := Lib.hid hru0
      have HCN := Lib.hid hcn0
      have hmx : m ≤ 9223372036854775807 := by have h1 := hrs0.2.1; have h2 := hrs0.2.2.1; unfold maxLen at h2; omega
      have HBV : Hid (Below w.heap.size w V ∧ w.heap.size + 1 ≤ V.heap.size) := ⟨(HBw4.out.1.alloc HBw4.out.1.size _).trans (hbv.mono (by have := HBw4.out.2; simp; omega)), Nat.le_trans HBw4.out.2 (Nat.le_trans (by simp) hbv.size)⟩
      have H0V : Hid (V.heap[w.heap.size]? = some (.cells #[.slice none 0 0, .slice none 0 0] 44 (0, 0))) := by show _ = _; rw [hbv.block _ (by have := HBw4.out.2; simp; omega), heap_alloc_old _ _ (show w.heap.size < w4.heap.size by have := HBw4.out.2; omega)]; exact H0w4.out
      clear hrs0 hru0 hcn0 hbv
      go_wp2
      go_loopw [13, 14] (fun bx ix wr => ∃ (i : Nat) (b : Bool), i ≤ m ∧ ix = .int .i64 (i : Int) ∧ bx = .bool b ∧ Hid (b = (ok0 && (rs.take i).all Spec.fit)) ∧ Hid (Below V.heap.size V wr)) (fun _ ix _ => m - (intOf ix).toNat)
      case atStart => exact ⟨0, ok0, Nat.zero_le _, rfl, rfl, by show _ = _; simp, Below.refl _ _⟩
      case round =>
        obtain ⟨i, b, hi, rfl, rfl, HBI, HBW⟩ := hrel
        have HBT : Hid (Below w.heap.size w wr) := HBV.out.1.trans (HBW.out.mono HBV.out.1.size)
        have H0W : Hid (wr.heap[w.heap.size]? = some (.cells #[.slice none 0 0, .slice none 0 0] 44 (0, 0))) := (HBW.out.block _ (by have := HBV.out.2; omega)).trans H0V.out
        by_cases hlt : i < m
        · have hlti : (i : Int) < (m : Int) := by omega
          obtain ⟨b1, o1, la, ln, lc, LL, ra1, rn1, rc1, RR, C1, hra, hbb, hx1, hx2, hx3, hsl, hsr, hC0, hC1, hz1⟩ := (HRS.out.below HBW.out (Nat.le_refl _)).one i hlt
          subst hra
          have HGX : Hid ((⟨la, ln, lc, LL, ra1, rn1, rc1, RR, C1⟩ : Rw).Good wr) := ⟨hsl, hsr, hC0, hC1⟩
          obtain ⟨fb, hfb⟩ : ∃ q, Spec.fit ⟨LL, RR, C1⟩ = q := ⟨_, rfl⟩
          have HFB := Lib.hid hfb
          have HTK : Hid (rs.take (i + 1) = rs.take i ++ [⟨LL, RR, C1⟩]) := by
            show _ = _
            rw [← HRU.out]
            exact take_rul (by rw [HRS.out.1]; exact hlt) hz1
          clear hsl hsr hC0 hC1 hz1 hfb
          go_wp2_with fail
          refine (rfit_is ⟨la, ln, lc, LL, ra1, rn1, rc1, RR, C1⟩ fb wr HGX.out HFB.out).mono ?_
          rintro e w9 ⟨rfl, hb9⟩
          have HB9 : Hid (Below V.heap.size V w9) := HBW.out.trans (hb9.mono HBW.out.size)
          clear hb9 hx1 hx2 hx3
          cases b
          · go_wp2
            go_roundw
            case rel => exact ⟨i + 1, false, by omega, by go_num, by first | rfl | trivial, by show _ = _; rw [HTK.out, List.all_append, ← Bool.and_assoc, ← HBI.out]; rfl, HB9.out⟩
            case measure => simp [intOf]; omega
          · go_wp2
            go_roundw
            case rel => exact ⟨i + 1, fb, by omega, by go_num, by first | rfl | trivial, by show _ = _; rw [HTK.out, List.all_append, ← Bool.and_assoc, ← HBI.out, ← HFB.out]; simp, HB9.out⟩
            case measure => simp [intOf]; omega
        · obtain rfl : m = i := by omega
          have hall : rs.take m = rs := List.take_of_length_le (by rw [← HRU.out, ruls_length, HRS.out.1]; exact Nat.le_refl _)
          have hb := HBI.out
          rw [hall] at hb
          have HS2 : Hid ((if b = true then (⟨0, [], rs⟩ : Spec.Sp) else Spec.Sp.no 60) = s) := by
            show _ = _
            rw [← HT.out, hb]
            unfold Spec.told
            cases h1 : ok0 <;> cases h2 : rs.all Spec.fit <;> first | (simp; done) | (simp at h1; done) | rfl
          clear hall hb
          cases b
          · obtain rfl : s = Spec.Sp.no 60 := by rw [← HS2.out]; rfl
            go_wp2_with (refine wpList_store_g (by rfl) 44 (.tmp 4) (.tmp 98) (by rfl) w.heap.size #[.slice none 0 0, .slice none 0 0] (by rfl) (by rfl) 44 #[.slice none 0 0, .slice none 0 0] H0W.out HI.out rfl (spec_cells _ _ _ _ _ _) ?_
                         intro w5 hw5 hgr5 hsz5
                         have HW5 := Lib.hid hw5
                         have HG5 := Lib.hid hgr5
                         have HB5 : Hid (Below w.heap.size w w5) := (HBT.out).grown hgr5 (HBT.out).size (fun k hk => by cases hk; exact Nat.le_refl _)
                         clear hw5 hgr5 hsz5)
            refine bodyPost_ret (results_cell_row_tmp rfl _ _ w.heap.size 44 #[.slice none 0 0, .slice none 0 0] (0, 0) _ (by rfl) HW5.out Tryz.underlying44 (by rfl) HI.out) rfl ?_
            exact ⟨none, 0, 0, none, 0, 0, [], rfl, Sl.nil, fun _ => rfl, Rs.nil, rfl, fun _ => rfl, HB5.out⟩
          · obtain rfl : s = ⟨0, [], rs⟩ := by rw [← HS2.out]; rfl
            go_wp2_with (refine wpList_store_g (by rfl) 44 (.tmp 4) (.tmp 100) (by rfl) w.heap.size #[.slice none 0 0, .slice ra m rc] (by rfl) (by rfl) 44 #[.slice none 0 0, .slice none 0 0] H0W.out HI.out rfl (spec_cells _ _ _ _ _ _) ?_
                         intro w5 hw5 hgr5 hsz5
                         have HW5 := Lib.hid hw5
                         have HG5 := Lib.hid hgr5
                         have HB5 : Hid (Below w.heap.size w w5) := (HBT.out).grown hgr5 (HBT.out).size (fun k hk => by cases hk; exact Nat.le_refl _)
                         clear hw5 hgr5 hsz5)
            have hgood : Rs w5 ra m rc xs := rs_kept (HRS.out.below HBW.out (Nat.le_refl _)) HG5.out H0W.out
            refine bodyPost_ret (results_cell_row_tmp rfl _ _ w.heap.size 44 #[.slice none 0 0, .slice ra m rc] (0, 0) _ (by rfl) HW5.out Tryz.underlying44 (by rfl) HI.out) rfl ?_
            exact ⟨none, 0, 0, ra, m, rc, xs, rfl, Sl.nil, fun _ => rfl, hgood, HRU.out, HCN.out, HB5.out⟩
    · obtain rfl : s = Spec.Sp.no 50 := by rw [HSL.out]; unfold Spec.last; rw [hd]
      clear hd
      go_wp2_with (refine wpList_store_g (by rfl) 44 (.tmp 4) (.tmp 58) (by rfl) w.heap.size #[.slice none 0 0, .slice none 0 0] (by rfl) (by rfl) 44 #[.slice none 0 0, .slice none 0 0] H0w4.out HI.out rfl (spec_cells _ _ _ _ _ _) ?_
                   intro w5 hw5 hgr5 hsz5
                   have HW5 := Lib.hid hw5
                   have HG5 := Lib.hid hgr5
                   have HB5 : Hid (Below w.heap.size w w5) := (HBw4.out.1).grown hgr5 (HBw4.out.1).size (fun k hk => by cases hk; exact Nat.le_refl _)
                   clear hw5 hgr5 hsz5)
      refine bodyPost_ret (results_cell_row_tmp rfl _ _ w.heap.size 44 #[.slice none 0 0, .slice none 0 0] (0, 0) _ (by rfl) HW5.out Tryz.underlying44 (by rfl) HI.out) rfl ?_
      exact ⟨none, 0, 0, none, 0, 0, [], rfl, Sl.nil, fun _ => rfl, Rs.nil, rfl, fun _ => rfl, HB5.out⟩

set_option maxHeartbeats 6400000 in
set_option maxRecDepth 100000 in
theorem rmap_is (a : Option Addr) (cap : Nat) (ys : List Bd) (s : Spec.Sp) (w : World) (hs : Bs w a 3 cap ys) (hsh : ∀ y ∈ ys, y.n ≤ 5000) (hr : Spec.map (bnums ys) = s) :
    Calls Tryz.prog 46 #[.slice a 3 cap, .string (strOfNums Spec.wMAP)] w fun e w' => SpecIs w w' e s := by
  have hnc := hs.2.1
  have hcm := hs.2.2.1
  unfold maxLen at hcm
  have hl := hs.1
  obtain ⟨b1, o1, rfl, hb1, hc⟩ := hs.at (by omega)
  have hgood := hs.good
  have hbn := bnums_at ys
  have hmem : ∀ i, i < 3 → (ys.getD i Bd.no).n ≤ 5000 := fun i hi => by
    rw [List.getD_eq_getElem?_getD, List.getElem?_eq_getElem (by omega), Option.getD_some]
    exact hsh _ (List.getElem_mem _)
  have hx1 := hc 1 (by omega)
  have hg1 := hgood 1
  have hn1 := hmem 1 (by omega)
  have hz1 := hbn 1
  generalize ys.getD 1 Bd.no = y1 at hx1 hg1 hn1 hz1
  obtain ⟨a1, n1, c1, z1⟩ := y1
  change n1 ≤ 5000 at hn1
  change w.cell? ⟨b1, o1 + 1, none⟩ = some (.slice a1 n1 c1) at hx1
  change (bnums ys).getD 1 [] = z1 at hz1
  have HZ1 := Lib.hid hz1
  have HG1 : Hid (Sl .u8 w a1 n1 c1 z1) := hg1
  clear hg1 hz1
  have hx2 := hc 2 (by omega)
  have hg2 := hgood 2
  have hn2 := hmem 2 (by omega)
  have hz2 := hbn 2
  generalize ys.getD 2 Bd.no = y2 at hx2 hg2 hn2 hz2
  obtain ⟨a2, n2, c2, z2⟩ := y2
  change n2 ≤ 5000 at hn2
  change w.cell? ⟨b1, o1 + 2, none⟩ = some (.slice a2 n2 c2) at hx2
  change (bnums ys).getD 2 [] = z2 at hz2
  have HZ2 := Lib.hid hz2
  have HG2 : Hid (Sl .u8 w a2 n2 c2 z2) := hg2
  clear hg2 hz2
  have eREP : ((strOfNums Spec.wMAP).toList == [82, 69, 80]) = false := word_is (g := Spec.wREP) Spec.wMAP _ (by decide) (by decide) rfl (by decide)
  have eKEY : ((strOfNums Spec.wMAP).toList == [75, 69, 89]) = false := word_is (g := Spec.wKEY) Spec.wMAP _ (by decide) (by decide) rfl (by decide)
  have eMAP : ((strOfNums Spec.wMAP).toList == [77, 65, 80]) = true := word_is (g := Spec.wMAP) Spec.wMAP _ (by decide) (by decide) rfl (by decide)
  have HI : Hid ((Tryz.prog.info? 44).map (·.size) = some 2) := info_spec
  have HB : ∀ o, Hid (Below w.heap.size w (w.alloc o) ∧ w.heap.size + 1 ≤ (w.alloc o).heap.size) := fun o => ⟨(Below.refl _ w).alloc (Nat.le_refl _) o, by simp⟩
  have HNW : Hid (∀ o, (w.alloc o).heap[w.heap.size]? = some o) := fun o => heap_alloc_new w o
  have HCL : Hid (∀ (i : Nat) (W : World), i < 3 → Below w.heap.size w W → W.cell? ⟨b1, o1 + i, none⟩ = w.cell? ⟨b1, o1 + i, none⟩) := fun i W hi hB => hB.cell (p := ⟨b1, o1 + i, none⟩) hb1
  obtain ⟨l1, er1, hri⟩ := readIs_ex z1
  have HRI := Lib.hid hri
  have HR := Lib.hid hr
  have HLL : Hid (l1.length ≤ 5000) := by
    show _ ≤ _
    rcases hri with ⟨h, _⟩ | ⟨_, h, _⟩
    · have h1 := Utf.put_length_ge l1
      rw [h.2, HG1.out.1] at h1
      omega
    · rw [h]; simp
  clear hs hsh hr hl hc hgood hbn hmem hri
  go_enter Tryz.func46, Tryz.ntmps46
  go_wp2_with fail
  refine (rread_gen a1 n1 c1 z1 l1 er1 _ HRI.out (HG1.out.alloc _) (by omega)).mono ?_
  rintro e w1 ⟨a', c', rfl, hs1, hb⟩
  have HS1 := Lib.hid hs1
  have HBw1 : Hid (Below w.heap.size w w1 ∧ w.heap.size + 1 ≤ w1.heap.size) := ⟨(HB _).out.1.trans (hb.mono (HB _).out.1.size), Nat.le_trans (HB _).out.2 hb.size⟩
  have H0w1 : Hid (w1.heap[w.heap.size]? = some (.cells #[.slice none 0 0, .slice none 0 0] 44 (0, 0))) := (hb.block _ (lt_one' _ _)).trans (HNW.out _)
  clear hs1 hb
  have hx1w1 : w1.cell? ⟨b1, o1 + 1, none⟩ = some (.slice a1 n1 c1) := (HCL.out 1 w1 (by omega) HBw1.out.1).trans hx1
  have hx2w1 : w1.cell? ⟨b1, o1 + 2, none⟩ = some (.slice a2 n2 c2) := (HCL.out 2 w1 (by omega) HBw1.out.1).trans hx2
  have hsw : Spec.map (bnums ys) = (match Spec.signs z1 with
      | some a => Spec.last z2 fun c => Spec.told (Spec.mapsOk a) (Spec.mapsG c a)
      | none => Spec.Sp.no 10) := by
    unfold Spec.map; rw [HZ1.out, HZ2.out]; cases Spec.signs z1 <;> rfl
  rw [HR.out] at hsw
  have hk : (er1 = 10 ∧ s = Spec.Sp.no 10) ∨ (er1 = 0 ∧ Hid (s = Spec.last z2 fun c => Spec.told (Spec.mapsOk l1) (Spec.mapsG c l1))) := by
    rcases HRI.out with ⟨h, e⟩ | ⟨h, _, e⟩
    · exact .inr ⟨e, by show _ = _; rw [hsw, Spec.signs_of h]⟩
    · exact .inl ⟨e, by rw [hsw, Spec.signs_of h]⟩
  clear hsw HRI
  rcases hk with ⟨rfl, rfl⟩ | ⟨rfl, HSL⟩
  · go_wp2_with (refine wpList_store_g (by rfl) 44 (.tmp 4) (.tmp 45) (by rfl) w.heap.size #[.slice none 0 0, .slice none 0 0] (by rfl) (by rfl) 44 #[.slice none 0 0, .slice none 0 0] H0w1.out HI.out rfl (spec_cells _ _ _ _ _ _) ?_
                 intro w5 hw5 hgr5 hsz5
                 have HW5 := Lib.hid hw5
                 have HG5 := Lib.hid hgr5
                 have HB5 : Hid (Below w.heap.size w w5) := (HBw1.out.1).grown hgr5 (HBw1.out.1).size (fun k hk => by cases hk; exact Nat.le_refl _)
                 clear hw5 hgr5 hsz5)
    refine bodyPost_ret (results_cell_row_tmp rfl _ _ w.heap.size 44 #[.slice none 0 0, .slice none 0 0] (0, 0) _ (by rfl) HW5.out Tryz.underlying44 (by rfl) HI.out) rfl ?_
    exact ⟨none, 0, 0, none, 0, 0, [], rfl, Sl.nil, fun _ => rfl, Rs.nil, rfl, fun _ => rfl, HB5.out⟩
  · go_wp2_with fail
    refine (rread_any a2 n2 c2 z2 w1 (HG2.out.below HBw1.out.1 (Nat.le_refl _))).mono ?_
    rintro e w4 ⟨ht, hb⟩
    have HBw4 : Hid (Below w.heap.size w w4 ∧ w.heap.size + 1 ≤ w4.heap.size) := ⟨HBw1.out.1.trans (hb.mono HBw1.out.1.size), Nat.le_trans HBw1.out.2 hb.size⟩
    have H0w4 : Hid (w4.heap[w.heap.size]? = some (.cells #[.slice none 0 0, .slice none 0 0] 44 (0, 0))) := (hb.block _ (by have := HBw1.out.2; omega)).trans H0w1.out
    have HS14 : Hid (Sl .i64 w4 a' l1.length c' l1) := HS1.out.below hb (Nat.le_refl _)
    clear hb hx1w1 hx2w1
    rcases ht with ⟨d, hd, rfl⟩ | ⟨hd, rfl⟩
    · have hdw : d < 18446744073709551615 := by have := (Num.read_some hd).2; omega
      obtain ⟨ok0, hok⟩ : ∃ q, Spec.mapsOk l1 = q := ⟨_, rfl⟩
      obtain ⟨rs, hrs⟩ : ∃ rs, (if ok0 = true then Spec.mapsG (d : Int) l1 else []) = rs := ⟨_, rfl⟩
      have HT : Hid (Spec.told ok0 rs = s) := by
        show _ = _
        rw [HSL.out]; unfold Spec.last; rw [hd]
        show _ = Spec.told (Spec.mapsOk l1) (Spec.mapsG (d : Int)  l1)
        rw [hok, ← hrs]
        cases ok0 <;> rfl
      have HOK := Lib.hid hok
      have HRSS := Lib.hid hrs
      clear hd hok hrs
      go_wp2_with fail
      refine (rmaps_is a' l1.length c' l1 (d : Int) ok0 rs _ (HS14.out.alloc _) HLL.out (by omega) HOK.out HRSS.out).mono ?_
      rintro e V ⟨ra, m, rc, xs, rfl, hrs0, hru0, hcn0, hbv⟩
      have HRS := Lib.hid hrs0
      have HRU := Lib.hid hru0
      have HCN := Lib.hid hcn0
      have hmx : m ≤ 9223372036854775807 := by have h1 := hrs0.2.1; have h2 := hrs0.2.2.1; unfold maxLen at h2; omega
      have HBV : Hid (Below w.heap.size w V ∧ w.heap.size + 1 ≤ V.heap.size) := ⟨(HBw4.out.1.alloc HBw4.out.1.size _).trans (hbv.mono (by have := HBw4.out.2; simp; omega)), Nat.le_trans HBw4.out.2 (Nat.le_trans (by simp) hbv.size)⟩
      have H0V : Hid (V.heap[w.heap.size]? = some (.cells #[.slice none 0 0, .slice none 0 0] 44 (0, 0))) := by show _ = _; rw [hbv.block _ (by have := HBw4.out.2; simp; omega), heap_alloc_old _ _ (show w.heap.size < w4.heap.size by have := HBw4.out.2; omega)]; exact H0w4.out
      clear hrs0 hru0 hcn0 hbv
      go_wp2
      go_loopw [13, 14] (fun bx ix wr => ∃ (i : Nat) (b : Bool), i ≤ m ∧ ix = .int .i64 (i : Int) ∧ bx = .bool b ∧ Hid (b = (ok0 && (rs.take i).all Spec.fit)) ∧ Hid (Below V.heap.size V wr)) (fun _ ix _ => m - (intOf ix).toNat)
      case atStart => exact ⟨0, ok0, Nat.zero_le _, rfl, rfl, by show _ = _; simp, Below.refl _ _⟩
      case round =>
        obtain ⟨i, b, hi, rfl, rfl, HBI, HBW⟩ := hrel
        have HBT : Hid (Below w.heap.size w wr) := HBV.out.1.trans (HBW.out.mono HBV.out.1.size)
        have H0W : Hid (wr.heap[w.heap.size]? = some (.cells #[.slice none 0 0, .slice none 0 0] 44 (0, 0))) := (HBW.out.block _ (by have := HBV.out.2; omega)).trans H0V.out
        by_cases hlt : i < m
        · have hlti : (i : Int) < (m : Int) := by omega
          obtain ⟨b1, o1, la, ln, lc, LL, ra1, rn1, rc1, RR, C1, hra, hbb, hx1, hx2, hx3, hsl, hsr, hC0, hC1, hz1⟩ := (HRS.out.below HBW.out (Nat.le_refl _)).one i hlt
          subst hra
          have HGX : Hid ((⟨la, ln, lc, LL, ra1, rn1, rc1, RR, C1⟩ : Rw).Good wr) := ⟨hsl, hsr, hC0, hC1⟩
          obtain ⟨fb, hfb⟩ : ∃ q, Spec.fit ⟨LL, RR, C1⟩ = q := ⟨_, rfl⟩
          have HFB := Lib.hid hfb
          have HTK : Hid (rs.take (i + 1) = rs.take i ++ [⟨LL, RR, C1⟩]) := by
            show _ = _
            rw [← HRU.out]
            exact take_rul (by rw [HRS.out.1]; exact hlt) hz1
          clear hsl hsr hC0 hC1 hz1 hfb
          go_wp2_with fail
          refine (rfit_is ⟨la, ln, lc, LL, ra1, rn1, rc1, RR, C1⟩ fb wr HGX.out HFB.out).mono ?_
          rintro e w9 ⟨rfl, hb9⟩
          have HB9 : Hid (Below V.heap.size V w9) := HBW.out.trans (hb9.mono HBW.out.size)
          clear hb9 hx1 hx2 hx3
          cases b
          · go_wp2
            go_roundw
            case rel => exact ⟨i + 1, false, by omega, by go_num, by first | rfl | trivial, by show _ = _; rw [HTK.out, List.all_append, ← Bool.and_assoc, ← HBI.out]; rfl, HB9.out⟩
            case measure => simp [intOf]; omega
          · go_wp2
            go_roundw
            case rel => exact ⟨i + 1, fb, by omega, by go_num, by first | rfl | trivial, by show _ = _; rw [HTK.out, List.all_append, ← Bool.and_assoc, ← HBI.out, ← HFB.out]; simp, HB9.out⟩
            case measure => simp [intOf]; omega
        · obtain rfl : m = i := by omega
          have hall : rs.take m = rs := List.take_of_length_le (by rw [← HRU.out, ruls_length, HRS.out.1]; exact Nat.le_refl _)
          have hb := HBI.out
          rw [hall] at hb
          have HS2 : Hid ((if b = true then (⟨0, [], rs⟩ : Spec.Sp) else Spec.Sp.no 60) = s) := by
            show _ = _
            rw [← HT.out, hb]
            unfold Spec.told
            cases h1 : ok0 <;> cases h2 : rs.all Spec.fit <;> first | (simp; done) | (simp at h1; done) | rfl
          clear hall hb
          cases b
          · obtain rfl : s = Spec.Sp.no 60 := by rw [← HS2.out]; rfl
            go_wp2_with (refine wpList_store_g (by rfl) 44 (.tmp 4) (.tmp 98) (by rfl) w.heap.size #[.slice none 0 0, .slice none 0 0] (by rfl) (by rfl) 44 #[.slice none 0 0, .slice none 0 0] H0W.out HI.out rfl (spec_cells _ _ _ _ _ _) ?_
                         intro w5 hw5 hgr5 hsz5
                         have HW5 := Lib.hid hw5
                         have HG5 := Lib.hid hgr5
                         have HB5 : Hid (Below w.heap.size w w5) := (HBT.out).grown hgr5 (HBT.out).size (fun k hk => by cases hk; exact Nat.le_refl _)
                         clear hw5 hgr5 hsz5)
            refine bodyPost_ret (results_cell_row_tmp rfl _ _ w.heap.size 44 #[.slice none 0 0, .slice none 0 0] (0, 0) _ (by rfl) HW5.out Tryz.underlying44 (by rfl) HI.out) rfl ?_
            exact ⟨none, 0, 0, none, 0, 0, [], rfl, Sl.nil, fun _ => rfl, Rs.nil, rfl, fun _ => rfl, HB5.out⟩
          · obtain rfl : s = ⟨0, [], rs⟩ := by rw [← HS2.out]; rfl
            go_wp2_with (refine wpList_store_g (by rfl) 44 (.tmp 4) (.tmp 100) (by rfl) w.heap.size #[.slice none 0 0, .slice ra m rc] (by rfl) (by rfl) 44 #[.slice none 0 0, .slice none 0 0] H0W.out HI.out rfl (spec_cells _ _ _ _ _ _) ?_
                         intro w5 hw5 hgr5 hsz5
                         have HW5 := Lib.hid hw5
                         have HG5 := Lib.hid hgr5
                         have HB5 : Hid (Below w.heap.size w w5) := (HBT.out).grown hgr5 (HBT.out).size (fun k hk => by cases hk; exact Nat.le_refl _)
                         clear hw5 hgr5 hsz5)
            have hgood : Rs w5 ra m rc xs := rs_kept (HRS.out.below HBW.out (Nat.le_refl _)) HG5.out H0W.out
            refine bodyPost_ret (results_cell_row_tmp rfl _ _ w.heap.size 44 #[.slice none 0 0, .slice ra m rc] (0, 0) _ (by rfl) HW5.out Tryz.underlying44 (by rfl) HI.out) rfl ?_
            exact ⟨none, 0, 0, ra, m, rc, xs, rfl, Sl.nil, fun _ => rfl, hgood, HRU.out, HCN.out, HB5.out⟩
    · obtain rfl : s = Spec.Sp.no 50 := by rw [HSL.out]; unfold Spec.last; rw [hd]
      clear hd
      go_wp2_with (refine wpList_store_g (by rfl) 44 (.tmp 4) (.tmp 58) (by rfl) w.heap.size #[.slice none 0 0, .slice none 0 0] (by rfl) (by rfl) 44 #[.slice none 0 0, .slice none 0 0] H0w4.out HI.out rfl (spec_cells _ _ _ _ _ _) ?_
                   intro w5 hw5 hgr5 hsz5
                   have HW5 := Lib.hid hw5
                   have HG5 := Lib.hid hgr5
                   have HB5 : Hid (Below w.heap.size w w5) := (HBw4.out.1).grown hgr5 (HBw4.out.1).size (fun k hk => by cases hk; exact Nat.le_refl _)
                   clear hw5 hgr5 hsz5)
      refine bodyPost_ret (results_cell_row_tmp rfl _ _ w.heap.size 44 #[.slice none 0 0, .slice none 0 0] (0, 0) _ (by rfl) HW5.out Tryz.underlying44 (by rfl) HI.out) rfl ?_
      exact ⟨none, 0, 0, none, 0, 0, [], rfl, Sl.nil, fun _ => rfl, Rs.nil, rfl, fun _ => rfl, HB5.out⟩

end Go.Proofs.YtjmabjeaodojeaaGreat

/- Used by the law. -/
namespace Go.Proofs.YtjmabjeaodojeaaGreat
open Go.RowKit

theorem fieldsA_short : ∀ (b cur : List Int), ∀ x ∈ Line.fieldsA cur b, x.length ≤ cur.length + b.length
  | [], cur, x, hx => by
    unfold Line.fieldsA at hx
    split at hx
    · simp at hx
    · simp only [List.mem_singleton] at hx; subst hx; simp
  | c :: cs, cur, x, hx => by
    unfold Line.fieldsA at hx
    simp only [List.length_cons]
    split at hx
    · split at hx
      · have := fieldsA_short cs [] x hx; simp at this; omega
      · rcases List.mem_cons.1 hx with rfl | hx
        · omega
        · have := fieldsA_short cs [] x hx; simp at this; omega
    · have := fieldsA_short cs (cur ++ [c]) x hx
      simp at this; omega
theorem fields_short {b : List Int} : ∀ x ∈ Line.fields b, x.length ≤ b.length := fun x hx => by
  have := fieldsA_short b [] x hx
  simpa using this

set_option maxHeartbeats 6400000 in
set_option maxRecDepth 100000 in
theorem rread7_is (a : Option Addr) (n cap : Nat) (zs : List Int) (s : Spec.Sp) (w : World) (hs : Sl .u8 w a n cap zs) (hn : n ≤ 5000) (hr : Spec.read zs = s) :
    Calls Tryz.prog 17 #[.slice a n cap] w fun e w' => SpecIs w w' e s := by
  obtain ⟨b, hbr⟩ : ∃ b, Line.bare zs = b := ⟨_, rfl⟩
  unfold Spec.read at hr
  rw [hbr] at hr
  have hzl := hs.1
  have HS := Lib.hid hs
  have HA := Lib.hid hbr
  have HI : Hid ((Tryz.prog.info? 44).map (·.size) = some 2) := info_spec
  have HB : ∀ o, Hid (Below w.heap.size w (w.alloc o) ∧ w.heap.size + 1 ≤ (w.alloc o).heap.size) := fun o => ⟨(Below.refl _ w).alloc (Nat.le_refl _) o, by simp⟩
  have HNW : Hid (∀ o, (w.alloc o).heap[w.heap.size]? = some o) := fun o => heap_alloc_new w o
  have HSHZ : Hid (∀ x ∈ Line.fields zs, x.length ≤ 5000) := fun x hx => by have := fields_short x hx; omega
  have HNE : Hid (b = false → 0 < (Line.fields zs).length) := fun h => by
    subst h
    unfold Line.bare at hbr
    cases hf : Line.fields zs with
    | nil => rw [hf] at hbr; cases hbr
    | cons f fs => simp
  clear hs hbr hzl
  go_enter Tryz.func17, Tryz.ntmps17
  go_wp2_with fail
  refine (rbare_is a n cap zs b _ (HS.out.alloc _) (by omega) HA.out).mono ?_
  rintro e w1 ⟨rfl, hb⟩
  have HBw1 : Hid (Below w.heap.size w w1 ∧ w.heap.size + 1 ≤ w1.heap.size) := ⟨(HB _).out.1.trans (hb.mono (HB _).out.1.size), Nat.le_trans (HB _).out.2 hb.size⟩
  have H0w1 : Hid (w1.heap[w.heap.size]? = some (.cells #[.slice none 0 0, .slice none 0 0] 44 (0, 0))) := (hb.block _ (lt_one' _ _)).trans (HNW.out _)
  clear hb
  cases b
  · have HR0 : Hid (Spec.byWord (Line.fields zs) = s) := by show _ = _; rw [← hr]; rfl
    have HNF := Lib.hid (HNE.out rfl)
    clear hr HNE
    go_wp2_with fail
    refine (rfields_any a n cap zs w1 (HS.out.below HBw1.out.1 (Nat.le_refl _)) (by omega)).mono ?_
    rintro e w2 ⟨a5, m5, c5, ys, rfl, hys, hyf, hyn, hb⟩
    have HBw2 : Hid (Below w.heap.size w w2 ∧ w.heap.size + 1 ≤ w2.heap.size) := ⟨HBw1.out.1.trans (hb.mono HBw1.out.1.size), Nat.le_trans HBw1.out.2 hb.size⟩
    have H0w2 : Hid (w2.heap[w.heap.size]? = some (.cells #[.slice none 0 0, .slice none 0 0] 44 (0, 0))) := (hb.block _ (by have := HBw1.out.2; omega)).trans H0w1.out
    have HYS := Lib.hid hys
    have HR : Hid (Spec.byWord (bnums ys) = s) := by show _ = _; rw [hyf]; exact HR0.out
    have HLN : Hid ((bnums ys).length = m5) := by show _ = _; rw [bnums_length, hys.1]
    have HSH : Hid (∀ y ∈ ys, y.n ≤ 5000) := fun y hy => by
      have h1 := HSHZ.out y.zs (by rw [← hyf]; exact List.mem_map_of_mem hy)
      rw [(hys.2.2.2.1 y hy).1] at h1
      exact h1
    have hm0 : 0 < m5 := by have := HNF.out; rw [← hyf, HLN.out] at this; exact this
    obtain ⟨b1, o1, a0, n0, c0, z0, rfl, hb1, _, hx0, hs0, hz0⟩ := hys.one 0 hm0
    change w2.cell? ⟨b1, o1, none⟩ = some (.slice a0 n0 c0) at hx0
    have hwf := hs0.2.2.2.1
    have hstr := hs0.str
    have HZ0 : Hid ((bnums ys).getD 0 [] = z0) := hz0
    have hm0i : (0 : Int) < (m5 : Int) := by omega
    clear hys hyf hyn hb hb1 hs0 hz0
    by_cases hBASE : z0 = Spec.wBASE
    · subst hBASE
      have eBASE : ((strOfNums Spec.wBASE).toList == [66, 65, 83, 69]) = true := word_is (g := Spec.wBASE) Spec.wBASE _ (by decide) (by decide) rfl (by decide)
      have eREP : ((strOfNums Spec.wBASE).toList == [82, 69, 80]) = false := word_is (g := Spec.wREP) Spec.wBASE _ (by decide) (by decide) rfl (by decide)
      have eKEY : ((strOfNums Spec.wBASE).toList == [75, 69, 89]) = false := word_is (g := Spec.wKEY) Spec.wBASE _ (by decide) (by decide) rfl (by decide)
      have eMAP : ((strOfNums Spec.wBASE).toList == [77, 65, 80]) = false := word_is (g := Spec.wMAP) Spec.wBASE _ (by decide) (by decide) rfl (by decide)
      have hsw : s = if m5 = 5 then Spec.base (bnums ys) else Spec.Sp.no 71 := by
        rw [← HR.out]; unfold Spec.byWord; rw [HZ0.out, if_pos rfl, HLN.out]
      clear hwf
      by_cases hm : m5 = 5
      · subst hm
        have HRR : Hid (Spec.base (bnums ys) = s) := by show _ = _; rw [hsw]; rfl
        clear hsw
        go_wp2_with fail
        refine (rbase_is _ c5 ys s w2 HYS.out HRR.out).mono ?_
        rintro e w3 ⟨ba, bn, bc, ra, rn, rc, xs, rfl, hbs, hbc, hrs, hru, hrc, hb⟩
        have HBw3 : Hid (Below w.heap.size w w3 ∧ w.heap.size + 1 ≤ w3.heap.size) := ⟨HBw2.out.1.trans (hb.mono HBw2.out.1.size), Nat.le_trans HBw2.out.2 hb.size⟩
        have H0w3 : Hid (w3.heap[w.heap.size]? = some (.cells #[.slice none 0 0, .slice none 0 0] 44 (0, 0))) := (hb.block _ (by have := HBw2.out.2; omega)).trans H0w2.out
        have HBS := Lib.hid hbs
        have HRS := Lib.hid hrs
        have HBC := Lib.hid hbc
        have HRC := Lib.hid hrc
        have HRU := Lib.hid hru
        clear hbs hrs hbc hrc hru hb
        go_wp2_with (refine wpList_store_g (by rfl) 44 (.tmp 2) (.tmp 38) (by rfl) w.heap.size #[.slice ba bn bc, .slice ra rn rc] (by rfl) (by rfl) 44 #[.slice none 0 0, .slice none 0 0] H0w3.out HI.out rfl (spec_cells _ _ _ _ _ _) ?_
                     intro w5 hw5 hgr5 hsz5
                     have HW5 := Lib.hid hw5
                     have HG5 := Lib.hid hgr5
                     have HB5 : Hid (Below w.heap.size w w5) := (HBw3.out.1).grown hgr5 (HBw3.out.1).size (fun k hk => by cases hk; exact Nat.le_refl _)
                     clear hw5 hgr5 hsz5)
        have hbase : Sl .u64 w5 ba bn bc s.base := HBS.out.grown HG5.out (slf_spec H0w3.out HBS.out)
        have hgood : Rs w5 ra rn rc xs := rs_kept HRS.out HG5.out H0w3.out
        refine bodyPost_ret (results_cell_row_tmp rfl _ _ w.heap.size 44 #[.slice ba bn bc, .slice ra rn rc] (0, 0) _ (by rfl) HW5.out Tryz.underlying44 (by rfl) HI.out) rfl ?_
        exact ⟨ba, bn, bc, ra, rn, rc, xs, rfl, hbase, HBC.out, hgood, HRU.out, HRC.out, HB5.out⟩
      · have hmi : ¬ (m5 : Int) = 5 := by omega
        have hmb : ((m5 : Int) == 5) = false := by simpa using hmi
        obtain rfl : s = Spec.Sp.no 71 := by rw [hsw, if_neg hm]
        clear hsw hm
        go_wp2_with (refine wpList_store_g (by rfl) 44 (.tmp 2) (.tmp 33) (by rfl) w.heap.size #[.slice none 0 0, .slice none 0 0] (by rfl) (by rfl) 44 #[.slice none 0 0, .slice none 0 0] H0w2.out HI.out rfl (spec_cells _ _ _ _ _ _) ?_
                     intro w5 hw5 hgr5 hsz5
                     have HW5 := Lib.hid hw5
                     have HG5 := Lib.hid hgr5
                     have HB5 : Hid (Below w.heap.size w w5) := (HBw2.out.1).grown hgr5 (HBw2.out.1).size (fun k hk => by cases hk; exact Nat.le_refl _)
                     clear hw5 hgr5 hsz5)
        refine bodyPost_ret (results_cell_row_tmp rfl _ _ w.heap.size 44 #[.slice none 0 0, .slice none 0 0] (0, 0) _ (by rfl) HW5.out Tryz.underlying44 (by rfl) HI.out) rfl ?_
        exact ⟨none, 0, 0, none, 0, 0, [], rfl, Sl.nil, fun _ => rfl, Rs.nil, rfl, fun _ => rfl, HB5.out⟩
    by_cases hREP : z0 = Spec.wREP
    · subst hREP
      have eBASE : ((strOfNums Spec.wREP).toList == [66, 65, 83, 69]) = false := word_is (g := Spec.wBASE) Spec.wREP _ (by decide) (by decide) rfl (by decide)
      have eREP : ((strOfNums Spec.wREP).toList == [82, 69, 80]) = true := word_is (g := Spec.wREP) Spec.wREP _ (by decide) (by decide) rfl (by decide)
      have eKEY : ((strOfNums Spec.wREP).toList == [75, 69, 89]) = false := word_is (g := Spec.wKEY) Spec.wREP _ (by decide) (by decide) rfl (by decide)
      have eMAP : ((strOfNums Spec.wREP).toList == [77, 65, 80]) = false := word_is (g := Spec.wMAP) Spec.wREP _ (by decide) (by decide) rfl (by decide)
      have hsw : s = if m5 = 4 then Spec.rep (bnums ys) else Spec.Sp.no 71 := by
        rw [← HR.out]; unfold Spec.byWord; rw [HZ0.out, if_neg (show ¬ Spec.wREP = Spec.wBASE by decide), if_pos rfl, HLN.out]
      clear hwf
      by_cases hm : m5 = 4
      · subst hm
        have HRR : Hid (Spec.rep (bnums ys) = s) := by show _ = _; rw [hsw]; rfl
        clear hsw
        go_wp2_with fail
        refine (rrep_is _ c5 ys s w2 HYS.out HSH.out HRR.out).mono ?_
        rintro e w3 ⟨ba, bn, bc, ra, rn, rc, xs, rfl, hbs, hbc, hrs, hru, hrc, hb⟩
        have HBw3 : Hid (Below w.heap.size w w3 ∧ w.heap.size + 1 ≤ w3.heap.size) := ⟨HBw2.out.1.trans (hb.mono HBw2.out.1.size), Nat.le_trans HBw2.out.2 hb.size⟩
        have H0w3 : Hid (w3.heap[w.heap.size]? = some (.cells #[.slice none 0 0, .slice none 0 0] 44 (0, 0))) := (hb.block _ (by have := HBw2.out.2; omega)).trans H0w2.out
        have HBS := Lib.hid hbs
        have HRS := Lib.hid hrs
        have HBC := Lib.hid hbc
        have HRC := Lib.hid hrc
        have HRU := Lib.hid hru
        clear hbs hrs hbc hrc hru hb
        go_wp2_with (refine wpList_store_g (by rfl) 44 (.tmp 2) (.tmp 43) (by rfl) w.heap.size #[.slice ba bn bc, .slice ra rn rc] (by rfl) (by rfl) 44 #[.slice none 0 0, .slice none 0 0] H0w3.out HI.out rfl (spec_cells _ _ _ _ _ _) ?_
                     intro w5 hw5 hgr5 hsz5
                     have HW5 := Lib.hid hw5
                     have HG5 := Lib.hid hgr5
                     have HB5 : Hid (Below w.heap.size w w5) := (HBw3.out.1).grown hgr5 (HBw3.out.1).size (fun k hk => by cases hk; exact Nat.le_refl _)
                     clear hw5 hgr5 hsz5)
        have hbase : Sl .u64 w5 ba bn bc s.base := HBS.out.grown HG5.out (slf_spec H0w3.out HBS.out)
        have hgood : Rs w5 ra rn rc xs := rs_kept HRS.out HG5.out H0w3.out
        refine bodyPost_ret (results_cell_row_tmp rfl _ _ w.heap.size 44 #[.slice ba bn bc, .slice ra rn rc] (0, 0) _ (by rfl) HW5.out Tryz.underlying44 (by rfl) HI.out) rfl ?_
        exact ⟨ba, bn, bc, ra, rn, rc, xs, rfl, hbase, HBC.out, hgood, HRU.out, HRC.out, HB5.out⟩
      · have hmi : ¬ (m5 : Int) = 4 := by omega
        have hmb : ((m5 : Int) == 4) = false := by simpa using hmi
        obtain rfl : s = Spec.Sp.no 71 := by rw [hsw, if_neg hm]
        clear hsw hm
        go_wp2_with (refine wpList_store_g (by rfl) 44 (.tmp 2) (.tmp 33) (by rfl) w.heap.size #[.slice none 0 0, .slice none 0 0] (by rfl) (by rfl) 44 #[.slice none 0 0, .slice none 0 0] H0w2.out HI.out rfl (spec_cells _ _ _ _ _ _) ?_
                     intro w5 hw5 hgr5 hsz5
                     have HW5 := Lib.hid hw5
                     have HG5 := Lib.hid hgr5
                     have HB5 : Hid (Below w.heap.size w w5) := (HBw2.out.1).grown hgr5 (HBw2.out.1).size (fun k hk => by cases hk; exact Nat.le_refl _)
                     clear hw5 hgr5 hsz5)
        refine bodyPost_ret (results_cell_row_tmp rfl _ _ w.heap.size 44 #[.slice none 0 0, .slice none 0 0] (0, 0) _ (by rfl) HW5.out Tryz.underlying44 (by rfl) HI.out) rfl ?_
        exact ⟨none, 0, 0, none, 0, 0, [], rfl, Sl.nil, fun _ => rfl, Rs.nil, rfl, fun _ => rfl, HB5.out⟩
    by_cases hKEY : z0 = Spec.wKEY
    · subst hKEY
      have eBASE : ((strOfNums Spec.wKEY).toList == [66, 65, 83, 69]) = false := word_is (g := Spec.wBASE) Spec.wKEY _ (by decide) (by decide) rfl (by decide)
      have eREP : ((strOfNums Spec.wKEY).toList == [82, 69, 80]) = false := word_is (g := Spec.wREP) Spec.wKEY _ (by decide) (by decide) rfl (by decide)
      have eKEY : ((strOfNums Spec.wKEY).toList == [75, 69, 89]) = true := word_is (g := Spec.wKEY) Spec.wKEY _ (by decide) (by decide) rfl (by decide)
      have eMAP : ((strOfNums Spec.wKEY).toList == [77, 65, 80]) = false := word_is (g := Spec.wMAP) Spec.wKEY _ (by decide) (by decide) rfl (by decide)
      have hsw : s = if m5 = 3 then Spec.key (bnums ys) else Spec.Sp.no 71 := by
        rw [← HR.out]; unfold Spec.byWord; rw [HZ0.out, if_neg (show ¬ Spec.wKEY = Spec.wBASE by decide), if_neg (show ¬ Spec.wKEY = Spec.wREP by decide), if_pos rfl, HLN.out]
      clear hwf
      by_cases hm : m5 = 3
      · subst hm
        have HRR : Hid (Spec.key (bnums ys) = s) := by show _ = _; rw [hsw]; rfl
        clear hsw
        go_wp2_with fail
        refine (rkey_is _ c5 ys s w2 HYS.out HSH.out HRR.out).mono ?_
        rintro e w3 ⟨ba, bn, bc, ra, rn, rc, xs, rfl, hbs, hbc, hrs, hru, hrc, hb⟩
        have HBw3 : Hid (Below w.heap.size w w3 ∧ w.heap.size + 1 ≤ w3.heap.size) := ⟨HBw2.out.1.trans (hb.mono HBw2.out.1.size), Nat.le_trans HBw2.out.2 hb.size⟩
        have H0w3 : Hid (w3.heap[w.heap.size]? = some (.cells #[.slice none 0 0, .slice none 0 0] 44 (0, 0))) := (hb.block _ (by have := HBw2.out.2; omega)).trans H0w2.out
        have HBS := Lib.hid hbs
        have HRS := Lib.hid hrs
        have HBC := Lib.hid hbc
        have HRC := Lib.hid hrc
        have HRU := Lib.hid hru
        clear hbs hrs hbc hrc hru hb
        go_wp2_with (refine wpList_store_g (by rfl) 44 (.tmp 2) (.tmp 43) (by rfl) w.heap.size #[.slice ba bn bc, .slice ra rn rc] (by rfl) (by rfl) 44 #[.slice none 0 0, .slice none 0 0] H0w3.out HI.out rfl (spec_cells _ _ _ _ _ _) ?_
                     intro w5 hw5 hgr5 hsz5
                     have HW5 := Lib.hid hw5
                     have HG5 := Lib.hid hgr5
                     have HB5 : Hid (Below w.heap.size w w5) := (HBw3.out.1).grown hgr5 (HBw3.out.1).size (fun k hk => by cases hk; exact Nat.le_refl _)
                     clear hw5 hgr5 hsz5)
        have hbase : Sl .u64 w5 ba bn bc s.base := HBS.out.grown HG5.out (slf_spec H0w3.out HBS.out)
        have hgood : Rs w5 ra rn rc xs := rs_kept HRS.out HG5.out H0w3.out
        refine bodyPost_ret (results_cell_row_tmp rfl _ _ w.heap.size 44 #[.slice ba bn bc, .slice ra rn rc] (0, 0) _ (by rfl) HW5.out Tryz.underlying44 (by rfl) HI.out) rfl ?_
        exact ⟨ba, bn, bc, ra, rn, rc, xs, rfl, hbase, HBC.out, hgood, HRU.out, HRC.out, HB5.out⟩
      · have hmi : ¬ (m5 : Int) = 3 := by omega
        have hmb : ((m5 : Int) == 3) = false := by simpa using hmi
        obtain rfl : s = Spec.Sp.no 71 := by rw [hsw, if_neg hm]
        clear hsw hm
        go_wp2_with (refine wpList_store_g (by rfl) 44 (.tmp 2) (.tmp 33) (by rfl) w.heap.size #[.slice none 0 0, .slice none 0 0] (by rfl) (by rfl) 44 #[.slice none 0 0, .slice none 0 0] H0w2.out HI.out rfl (spec_cells _ _ _ _ _ _) ?_
                     intro w5 hw5 hgr5 hsz5
                     have HW5 := Lib.hid hw5
                     have HG5 := Lib.hid hgr5
                     have HB5 : Hid (Below w.heap.size w w5) := (HBw2.out.1).grown hgr5 (HBw2.out.1).size (fun k hk => by cases hk; exact Nat.le_refl _)
                     clear hw5 hgr5 hsz5)
        refine bodyPost_ret (results_cell_row_tmp rfl _ _ w.heap.size 44 #[.slice none 0 0, .slice none 0 0] (0, 0) _ (by rfl) HW5.out Tryz.underlying44 (by rfl) HI.out) rfl ?_
        exact ⟨none, 0, 0, none, 0, 0, [], rfl, Sl.nil, fun _ => rfl, Rs.nil, rfl, fun _ => rfl, HB5.out⟩
    by_cases hMAP : z0 = Spec.wMAP
    · subst hMAP
      have eBASE : ((strOfNums Spec.wMAP).toList == [66, 65, 83, 69]) = false := word_is (g := Spec.wBASE) Spec.wMAP _ (by decide) (by decide) rfl (by decide)
      have eREP : ((strOfNums Spec.wMAP).toList == [82, 69, 80]) = false := word_is (g := Spec.wREP) Spec.wMAP _ (by decide) (by decide) rfl (by decide)
      have eKEY : ((strOfNums Spec.wMAP).toList == [75, 69, 89]) = false := word_is (g := Spec.wKEY) Spec.wMAP _ (by decide) (by decide) rfl (by decide)
      have eMAP : ((strOfNums Spec.wMAP).toList == [77, 65, 80]) = true := word_is (g := Spec.wMAP) Spec.wMAP _ (by decide) (by decide) rfl (by decide)
      have hsw : s = if m5 = 3 then Spec.map (bnums ys) else Spec.Sp.no 71 := by
        rw [← HR.out]; unfold Spec.byWord; rw [HZ0.out, if_neg (show ¬ Spec.wMAP = Spec.wBASE by decide), if_neg (show ¬ Spec.wMAP = Spec.wREP by decide), if_neg (show ¬ Spec.wMAP = Spec.wKEY by decide), if_pos rfl, HLN.out]
      clear hwf
      by_cases hm : m5 = 3
      · subst hm
        have HRR : Hid (Spec.map (bnums ys) = s) := by show _ = _; rw [hsw]; rfl
        clear hsw
        go_wp2_with fail
        refine (rmap_is _ c5 ys s w2 HYS.out HSH.out HRR.out).mono ?_
        rintro e w3 ⟨ba, bn, bc, ra, rn, rc, xs, rfl, hbs, hbc, hrs, hru, hrc, hb⟩
        have HBw3 : Hid (Below w.heap.size w w3 ∧ w.heap.size + 1 ≤ w3.heap.size) := ⟨HBw2.out.1.trans (hb.mono HBw2.out.1.size), Nat.le_trans HBw2.out.2 hb.size⟩
        have H0w3 : Hid (w3.heap[w.heap.size]? = some (.cells #[.slice none 0 0, .slice none 0 0] 44 (0, 0))) := (hb.block _ (by have := HBw2.out.2; omega)).trans H0w2.out
        have HBS := Lib.hid hbs
        have HRS := Lib.hid hrs
        have HBC := Lib.hid hbc
        have HRC := Lib.hid hrc
        have HRU := Lib.hid hru
        clear hbs hrs hbc hrc hru hb
        go_wp2_with (refine wpList_store_g (by rfl) 44 (.tmp 2) (.tmp 43) (by rfl) w.heap.size #[.slice ba bn bc, .slice ra rn rc] (by rfl) (by rfl) 44 #[.slice none 0 0, .slice none 0 0] H0w3.out HI.out rfl (spec_cells _ _ _ _ _ _) ?_
                     intro w5 hw5 hgr5 hsz5
                     have HW5 := Lib.hid hw5
                     have HG5 := Lib.hid hgr5
                     have HB5 : Hid (Below w.heap.size w w5) := (HBw3.out.1).grown hgr5 (HBw3.out.1).size (fun k hk => by cases hk; exact Nat.le_refl _)
                     clear hw5 hgr5 hsz5)
        have hbase : Sl .u64 w5 ba bn bc s.base := HBS.out.grown HG5.out (slf_spec H0w3.out HBS.out)
        have hgood : Rs w5 ra rn rc xs := rs_kept HRS.out HG5.out H0w3.out
        refine bodyPost_ret (results_cell_row_tmp rfl _ _ w.heap.size 44 #[.slice ba bn bc, .slice ra rn rc] (0, 0) _ (by rfl) HW5.out Tryz.underlying44 (by rfl) HI.out) rfl ?_
        exact ⟨ba, bn, bc, ra, rn, rc, xs, rfl, hbase, HBC.out, hgood, HRU.out, HRC.out, HB5.out⟩
      · have hmi : ¬ (m5 : Int) = 3 := by omega
        have hmb : ((m5 : Int) == 3) = false := by simpa using hmi
        obtain rfl : s = Spec.Sp.no 71 := by rw [hsw, if_neg hm]
        clear hsw hm
        go_wp2_with (refine wpList_store_g (by rfl) 44 (.tmp 2) (.tmp 33) (by rfl) w.heap.size #[.slice none 0 0, .slice none 0 0] (by rfl) (by rfl) 44 #[.slice none 0 0, .slice none 0 0] H0w2.out HI.out rfl (spec_cells _ _ _ _ _ _) ?_
                     intro w5 hw5 hgr5 hsz5
                     have HW5 := Lib.hid hw5
                     have HG5 := Lib.hid hgr5
                     have HB5 : Hid (Below w.heap.size w w5) := (HBw2.out.1).grown hgr5 (HBw2.out.1).size (fun k hk => by cases hk; exact Nat.le_refl _)
                     clear hw5 hgr5 hsz5)
        refine bodyPost_ret (results_cell_row_tmp rfl _ _ w.heap.size 44 #[.slice none 0 0, .slice none 0 0] (0, 0) _ (by rfl) HW5.out Tryz.underlying44 (by rfl) HI.out) rfl ?_
        exact ⟨none, 0, 0, none, 0, 0, [], rfl, Sl.nil, fun _ => rfl, Rs.nil, rfl, fun _ => rfl, HB5.out⟩
    have eBASE : ((strOfNums z0).toList == [66, 65, 83, 69]) = false := word_is (g := Spec.wBASE) z0 false hwf (by decide) rfl (decide_eq_false hBASE)
    have eREP : ((strOfNums z0).toList == [82, 69, 80]) = false := word_is (g := Spec.wREP) z0 false hwf (by decide) rfl (decide_eq_false hREP)
    have eKEY : ((strOfNums z0).toList == [75, 69, 89]) = false := word_is (g := Spec.wKEY) z0 false hwf (by decide) rfl (decide_eq_false hKEY)
    have eMAP : ((strOfNums z0).toList == [77, 65, 80]) = false := word_is (g := Spec.wMAP) z0 false hwf (by decide) rfl (decide_eq_false hMAP)
    obtain rfl : s = Spec.Sp.no 70 := by
      rw [← HR.out]; unfold Spec.byWord; rw [HZ0.out, if_neg hBASE, if_neg hREP, if_neg hKEY, if_neg hMAP]
    clear hwf hBASE hREP hKEY hMAP
    go_wp2_with (refine wpList_store_g (by rfl) 44 (.tmp 2) (.tmp 28) (by rfl) w.heap.size #[.slice none 0 0, .slice none 0 0] (by rfl) (by rfl) 44 #[.slice none 0 0, .slice none 0 0] H0w2.out HI.out rfl (spec_cells _ _ _ _ _ _) ?_
                 intro w5 hw5 hgr5 hsz5
                 have HW5 := Lib.hid hw5
                 have HG5 := Lib.hid hgr5
                 have HB5 : Hid (Below w.heap.size w w5) := (HBw2.out.1).grown hgr5 (HBw2.out.1).size (fun k hk => by cases hk; exact Nat.le_refl _)
                 clear hw5 hgr5 hsz5)
    refine bodyPost_ret (results_cell_row_tmp rfl _ _ w.heap.size 44 #[.slice none 0 0, .slice none 0 0] (0, 0) _ (by rfl) HW5.out Tryz.underlying44 (by rfl) HI.out) rfl ?_
    exact ⟨none, 0, 0, none, 0, 0, [], rfl, Sl.nil, fun _ => rfl, Rs.nil, rfl, fun _ => rfl, HB5.out⟩
  · obtain rfl : s = Spec.Sp.no 0 := by rw [← hr]; rfl
    go_wp2_with (refine wpList_store_g (by rfl) 44 (.tmp 2) (.tmp 9) (by rfl) w.heap.size #[.slice none 0 0, .slice none 0 0] (by rfl) (by rfl) 44 #[.slice none 0 0, .slice none 0 0] H0w1.out HI.out rfl (spec_cells _ _ _ _ _ _) ?_
                 intro w5 hw5 hgr5 hsz5
                 have HW5 := Lib.hid hw5
                 have HG5 := Lib.hid hgr5
                 have HB5 : Hid (Below w.heap.size w w5) := (HBw1.out.1).grown hgr5 (HBw1.out.1).size (fun k hk => by cases hk; exact Nat.le_refl _)
                 clear hw5 hgr5 hsz5)
    refine bodyPost_ret (results_cell_row_tmp rfl _ _ w.heap.size 44 #[.slice none 0 0, .slice none 0 0] (0, 0) _ (by rfl) HW5.out Tryz.underlying44 (by rfl) HI.out) rfl ?_
    exact ⟨none, 0, 0, none, 0, 0, [], rfl, Sl.nil, fun _ => rfl, Rs.nil, rfl, fun _ => rfl, HB5.out⟩

end Go.Proofs.YtjmabjeaodojeaaGreat
