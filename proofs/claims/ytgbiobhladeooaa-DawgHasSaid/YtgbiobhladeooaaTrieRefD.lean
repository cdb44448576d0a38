/- The document's Beginnings and Is of layer 10. -/
import Derived.Test.YtgbiobhladeooaaTrieRefB
import Derived.Test.YtgbiobhladeooaaPackA
import Derived.Test.YtgbiobhladeooaaPackO
import Derived.Test.YtgbiobhladeooaaPackV
namespace Go.Proofs.Ytgbiobhladeooaa
open Go.RowKit Tri

/-- words that a call answers -/
def BegsIs (w w' : World) (e : Ending) (l : List (List Int)) : Prop :=
  ∃ a n c ys, e = .returned (.slice a n c) ∧ Ws w' a n c ys ∧ nums ys = l ∧ (a = none → c = 0) ∧ Below w.heap.size w w'
set_option maxRecDepth 100000 in
theorem owns_nil_word (w : World) : (w.alloc (.cells #[.slice none 0 0] 33)).ownsRow w.heap.size 33 1 (.slice (some ⟨w.heap.size, 0, none⟩) 1 1) 1 (vals [Wd.no]) :=
  World.ownsRow_lit (base := w.heap.size) (e := 33) (size := 1) w #[.slice none 0 0] 1 (Nat.le_refl _) (by unfold maxLen; omega) (by simp)
set_option maxRecDepth 100000 in
theorem level_len (ws : List (List Int)) (i n : Nat) : (level (ws.take i) n).length ≤ i := by
  refine Nat.le_trans (level_le _ _) ?_
  rw [List.length_take]; omega

set_option maxRecDepth 100000 in
set_option maxHeartbeats 6400000 in
theorem rbegs_is (a : Option Addr) (n cap : Nat) (xs : List Wd) (w : World) (hs : Ws w a n cap xs) (_hnil : a = none → cap = 0) (hn : n ≤ 10000) (hr : Rise (nums xs)) :
    Calls Try.prog 27 #[.slice a n cap] w fun e w' => BegsIs w w' e (begs (nums xs)) := by
  have hnc := hs.2.1
  have hcm := hs.2.2.1
  unfold maxLen at hcm
  have HS := Lib.hid hs
  have HR := Lib.hid hr
  have HL : Hid ((nums xs).length = n) := by show _ = _; rw [nums_length, hs.1]
  have HO0 := Lib.hid (owns_nil_word w)
  have HB0 : ∀ o, Hid (Below w.heap.size w (w.alloc o)) := fun o => (Below.refl _ w).alloc (Nat.le_refl _) o
  clear hs hr _hnil
  go_enter Try.func27, Try.ntmps27
  go_wp2
  go_loopw [3, 4] (fun ov ix wr => ∃ (p N : Nat) (a1 : Option Addr) (c1 : Nat) (outs : List Wd), p ≤ 20 ∧ ov = .slice a1 N c1 ∧ ix = .int .i64 ((p : Int) + 1) ∧ N ≤ 1 + p * n ∧ Hid (a1 = none → c1 = 0) ∧ Hid (wr.ownsRow w.heap.size 33 1 (.slice a1 N c1) N (vals outs)) ∧ Hid (∀ x ∈ outs, x.Good w) ∧ Hid (nums outs = upto (nums xs) p) ∧ Hid (Below w.heap.size w wr)) (fun _ ix _ => 21 - (intOf ix).toNat)
  case atStart => exact ⟨0, 1, _, _, [Wd.no], Nat.zero_le _, rfl, rfl, by omega, (fun h => by cases h), HO0.out, (by show ∀ x ∈ [Wd.no], x.Good w; intro x hx; rw [List.mem_singleton.1 hx]; exact Wd.no_good w), rfl, (HB0 _).out⟩
  case round =>
    obtain ⟨p, N, a1, c1, outs, hp, rfl, rfl, hN, HNIL, HOW, HGD, HNU, HBW⟩ := hrel
    by_cases hlt : p < 20
    · have hlti : (p : Int) + 1 ≤ 20 := by omega
      have hNM : N ≤ 200001 := by
        have : p * n ≤ 20 * 10000 := Nat.mul_le_mul (by omega) hn
        omega
      go_wp2
      generalize wr = wo at *
      go_loopw [5, 6] (fun lv ix wr => ∃ (i L : Nat) (a2 : Option Addr) (c2 : Nat) (ls : List Wd), i ≤ n ∧ lv = .slice a2 L c2 ∧ ix = .int .i64 (i : Int) ∧ L ≤ i ∧ Hid (a2 = none → c2 = 0) ∧ Hid (wr.ownsRow wo.heap.size 33 1 (.slice a2 L c2) L (vals ls)) ∧ Hid (∀ x ∈ ls, x.Good w) ∧ Hid (nums ls = level ((nums xs).take i) (p + 1)) ∧ Hid (Below wo.heap.size wo wr)) (fun _ ix _ => n - (intOf ix).toNat)
      case atStart => exact ⟨0, 0, none, 0, [], Nat.zero_le _, rfl, rfl, Nat.le_refl _, (fun _ => rfl), ⟨rfl, .inl ⟨rfl, rfl⟩⟩, (by show ∀ x ∈ ([] : List Wd), x.Good w; simp), rfl, Below.refl _ _⟩
      case round =>
        obtain ⟨i, L, a2, c2, ls, hi, rfl, rfl, hL, HNIL2, HOL, HGL, HNL, HBV⟩ := hrel
        have HBX : Hid (Below w.heap.size w wr) := HBW.out.trans (HBV.out.mono HBW.out.size)
        by_cases hli : i < n
        · obtain ⟨b1, o1, za, zn, zc, z, rfl, hb1, hgd, hclw, hslw, hz⟩ := HS.out.one i hli
          have hcl : wr.cell? ⟨b1, o1 + i, none⟩ = some (.slice za zn zc) := by rw [HBX.out.cell (p := ⟨b1, o1 + i, none⟩) hb1]; exact hclw
          have hzl := hslw.1
          have hznc := hslw.2.1
          have hzcm := hslw.2.2.1
          unfold maxLen at hzcm
          have HSLW := Lib.hid hslw
          have HSL : Hid (Sl .i64 wr za zn zc z) := hslw.below HBX.out (Nat.le_refl _)
          have HSTEP := Lib.hid (level_step (n := p + 1) HR.out (by rw [HL.out]; exact hli) hz)
          have hlii : (i : Int) < (n : Int) := by omega
          have HLL : Hid ((level ((nums xs).take i) (p + 1)).length = L) := by
            show _ = _
            rw [← HNL.out, nums_length]
            have := HOL.out.1; unfold vals at this; rw [List.length_map] at this; omega
          clear hgd hclw hslw hz
          have HBQ : Hid (∀ q, Below wo.heap.size wo (wr.drewN q)) := fun q => below_drewN HBV.out q
          by_cases c1 : p + 1 ≤ z.length
          · have c1i : (zn : Int) ≥ (p : Int) + 1 := by omega
            have c1d : decide ((zn : Int) ≥ (p : Int) + 1) = true := decide_eq_true c1i
            rw [if_pos c1] at HSTEP
            obtain ⟨zb, zo, rfl, _, _⟩ := HSL.out.at (by omega)
            have HPC : Hid (Wd.Good wr ⟨some ⟨zb, zo, none⟩, p + 1, zc, z.take (p + 1)⟩) := HSL.out.first (p + 1) (by omega)
            have HPW : Hid (Wd.Good w ⟨some ⟨zb, zo, none⟩, p + 1, zc, z.take (p + 1)⟩) := HSLW.out.first (p + 1) (by omega)
            have htn : ((p : Int) + 1).toNat = p + 1 := by omega
            have hp1 : (0 : Int) ≤ (p : Int) + 1 := by omega
            have hpc : (p : Int) + 1 ≤ (zc : Int) := by omega
            rw [HLL.out] at HSTEP
            clear c1i
            cases L with
            | zero =>
              have HMORE : Hid (level ((nums xs).take (i + 1)) (p + 1) = level ((nums xs).take i) (p + 1) ++ [z.take (p + 1)]) := by
                have h := HSTEP.out
                rw [if_pos (.inl rfl)] at h; exact h
              have d2 : (((0 : Nat) : Int) == 0) = true := by decide
              clear HSTEP c1
              go_wp2
              go_quiet (fail)
              go_wp2_with (at_builtin; refine append_words rfl (.tmp 46) (.tmp 53) (by rfl) wo.heap.size _ 0 ls (by rfl) (World.ownsRow.alloc HOL.out _) (some ⟨wr.heap.size, 0, none⟩) 1 1 [⟨some ⟨zb, zo, none⟩, p + 1, zc, z.take (p + 1)⟩] (by rfl) (Ws.newc [⟨some ⟨zb, zo, none⟩, p + 1, zc, z.take (p + 1)⟩] (by intro x hx; rw [List.mem_singleton.1 hx]; exact HPC.out) (by simp [maxLen]) rfl rfl rfl) (fun h => by cases h) (0 + 1) rfl (by omega) (by first | exact (HBV.out.alloc HBV.out.size _).size | exact Nat.le_trans HBV.out.size (by simp)) ?_
                           intro a3 c3 w3 hown3 hb3 hnil3
                           have HO3 := Lib.hid hown3
                           have HN3 := Lib.hid hnil3
                           have HB3 : Hid (Below wo.heap.size wo w3) := ((HBQ.out _).alloc (HBQ.out _).size _).trans hb3
                           clear hown3 hb3 hnil3)
              go_roundw
              case rel =>
                refine ⟨i + 1, 0 + 1, a3, c3, ls ++ [Wd.mk (some ⟨zb, zo, none⟩) (p + 1) zc (z.take (p + 1))], by omega, rfl, by go_num, by omega, HN3.out, HO3.out, ?_, ?_, HB3.out⟩
                · intro x hx
                  rcases List.mem_append.1 hx with hx | hx
                  · exact HGL.out x hx
                  · rw [List.mem_singleton.1 hx]; exact HPW.out
                · show _ = _
                  rw [nums_app, HNL.out]; exact HMORE.out.symm
              case measure => simp [intOf]; omega
            | succ L =>
              have HWL : Hid (Ws wr a2 (L + 1) c2 ls) := Ws.of_owns HOL.out (fun x hx => (HGL.out x hx).below HBX.out (Nat.le_refl _)) (by have := HOL.out.1; unfold vals at this; rw [List.length_map] at this; omega)
              obtain ⟨b3, o3, la, ln, lc, lz, rfl, hb3, hgd3, hcl3, hsl3, hz3⟩ := HWL.out.one L (by omega)
              have hLc := HWL.out.2.1
              have hcm2 := HWL.out.2.2.1
              unfold maxLen at hcm2
              have HS3 := Lib.hid hsl3
              have HZ3 : Hid ((level ((nums xs).take i) (p + 1)).getD (L + 1 - 1) [] = lz) := by show _ = _; rw [← HNL.out, Nat.add_sub_cancel]; exact hz3
              obtain ⟨q, hq⟩ : ∃ q, decide (lz = z.take (p + 1)) = q := ⟨_, rfl⟩
              have HQ := Lib.hid hq
              have d2 : (((L + 1 : Nat) : Int) == 0) = false := by simp; omega
              have d2' : ((L : Int) + 1 == 0) = false := by simp; omega
              have hpw : IntKind.i64.wrap (((L + 1 : Nat) : Int) - 1) = (L : Int) := by rw [IntKind.wrap_i64]; omega
              have hpw' : IntKind.i64.wrap ((L : Int) + 1 - 1) = (L : Int) := by rw [IntKind.wrap_i64]; omega
              have hL0 : (0 : Int) ≤ (L : Int) := by omega
              have hLn : (L : Int) < ((L + 1 : Nat) : Int) := by omega
              have hLn' : (L : Int) < (L : Int) + 1 := by omega
              clear hgd3 hsl3 hz3 hq c1 HWL
              cases q
              · have HMORE : Hid (level ((nums xs).take (i + 1)) (p + 1) = level ((nums xs).take i) (p + 1) ++ [z.take (p + 1)]) := by
                  have h := HSTEP.out
                  rw [HZ3.out, if_pos (.inr (of_decide_eq_false HQ.out))] at h; exact h
                clear HSTEP
                go_wp2
                go_quiet ((go_at_call 30; exact Calls.quiet_of (same_is la (some ⟨zb, zo, none⟩) ln (p + 1) lc zc lz (z.take (p + 1)) false _ (HS3.out.drewN _) (Sl.drewN HPC.out _) HQ.out)))
                go_wp2_with (at_builtin; refine append_words rfl (.tmp 46) (.tmp 53) (by rfl) wo.heap.size _ (L + 1) ls (by rfl) (World.ownsRow.alloc HOL.out _) (some ⟨wr.heap.size, 0, none⟩) 1 1 [⟨some ⟨zb, zo, none⟩, p + 1, zc, z.take (p + 1)⟩] (by rfl) (Ws.newc [⟨some ⟨zb, zo, none⟩, p + 1, zc, z.take (p + 1)⟩] (by intro x hx; rw [List.mem_singleton.1 hx]; exact HPC.out) (by simp [maxLen]) rfl rfl rfl) (fun h => by cases h) (L + 1 + 1) rfl (by omega) (by first | exact (HBV.out.alloc HBV.out.size _).size | exact Nat.le_trans HBV.out.size (by simp)) ?_
                             intro a3 c3 w3 hown3 hb3 hnil3
                             have HO3 := Lib.hid hown3
                             have HN3 := Lib.hid hnil3
                             have HB3 : Hid (Below wo.heap.size wo w3) := ((HBQ.out _).alloc (HBQ.out _).size _).trans hb3
                             clear hown3 hb3 hnil3)
                go_roundw
                case rel =>
                  refine ⟨i + 1, L + 1 + 1, a3, c3, ls ++ [Wd.mk (some ⟨zb, zo, none⟩) (p + 1) zc (z.take (p + 1))], by omega, rfl, by go_num, by omega, HN3.out, HO3.out, ?_, ?_, HB3.out⟩
                  · intro x hx
                    rcases List.mem_append.1 hx with hx | hx
                    · exact HGL.out x hx
                    · rw [List.mem_singleton.1 hx]; exact HPW.out
                  · show _ = _
                    rw [nums_app, HNL.out]; exact HMORE.out.symm
                case measure => simp [intOf]; omega
              · have HSAME : Hid (level ((nums xs).take (i + 1)) (p + 1) = level ((nums xs).take i) (p + 1)) := by
                  have h := HSTEP.out
                  rw [HZ3.out, if_neg (by rw [of_decide_eq_true HQ.out]; simp)] at h; exact h
                clear HSTEP
                go_wp2
                go_quiet ((go_at_call 30; exact Calls.quiet_of (same_is la (some ⟨zb, zo, none⟩) ln (p + 1) lc zc lz (z.take (p + 1)) true _ (HS3.out.drewN _) (Sl.drewN HPC.out _) HQ.out)))
                go_wp2
                go_roundw
                case rel =>
                  refine ⟨i + 1, L + 1, _, c2, ls, by omega, rfl, by go_num, by omega, HNIL2.out, HOL.out, HGL.out, ?_, HBQ.out _⟩
                  show _ = _
                  rw [HNL.out]; exact HSAME.out.symm
                case measure => simp [intOf]; omega
          · have c1d : decide ((zn : Int) ≥ (p : Int) + 1) = false := decide_eq_false (by omega)
            have HSAME : Hid (level ((nums xs).take (i + 1)) (p + 1) = level ((nums xs).take i) (p + 1)) := by
              have h := HSTEP.out
              rw [if_neg c1] at h; exact h
            clear HSTEP c1
            go_wp2
            go_quiet (fail)
            go_wp2
            go_roundw
            case rel =>
              refine ⟨i + 1, L, _, c2, ls, by omega, rfl, by go_num, by omega, HNIL2.out, HOL.out, HGL.out, ?_, HBQ.out _⟩
              show _ = _
              rw [HNL.out]; exact HSAME.out.symm
            case measure => simp [intOf]; omega
        · obtain rfl : n = i := by omega
          go_wp2_with (at_builtin; refine append_words rfl (.tmp 55) (.tmp 56) (by rfl) w.heap.size _ N outs (by rfl) (ownsRow_below HOW.out HBV.out (Nat.le_refl _)) a2 L c2 ls (by rfl) (Ws.of_owns HOL.out (fun x hx => (HGL.out x hx).below HBX.out (Nat.le_refl _)) (by have := HOL.out.1; unfold vals at this; rw [List.length_map] at this; omega)) HNIL2.out (N + L) rfl (by omega) HBX.out.size ?_
                       intro a3 c3 w3 hown3 hb3 hnil3
                       have HO3 := Lib.hid hown3
                       have HN3 := Lib.hid hnil3
                       have HB3 : Hid (Below w.heap.size w w3) := HBX.out.trans hb3
                       clear hown3 hb3 hnil3)
          go_roundw
          case rel =>
            refine ⟨p + 1, N + L, a3, c3, outs ++ ls, by omega, rfl, by go_num, ?_, HN3.out, HO3.out, ?_, ?_, HB3.out⟩
            · rw [Nat.succ_mul]; omega
            · intro x hx
              rcases List.mem_append.1 hx with hx | hx
              · exact HGD.out x hx
              · exact HGL.out x hx
            · show _ = _
              have h := HNL.out
              rw [List.take_of_length_le (by rw [HL.out]; exact Nat.le_refl _)] at h
              rw [nums_app, HNU.out, h, upto_next]
          case measure => simp [intOf]; omega
    · obtain rfl : p = 20 := by omega
      have hlti : ¬ (((20 : Nat) : Int) + 1 ≤ 20) := by omega
      go_wp2
      go_ret
      exact ⟨a1, N, c1, outs, rfl, Ws.of_owns HOW.out (fun x hx => (HGD.out x hx).below HBW.out (Nat.le_refl _)) (by have := HOW.out.1; unfold vals at this; rw [List.length_map] at this; omega), HNU.out, HNIL.out, HBW.out⟩

set_option maxRecDepth 100000 in
theorem ris_is (a b : Option Addr) (n m cap cap2 : Nat) (xs : List Wd) (zs : List Int) (r : Bool) (w : World) (ha : Ws w a n cap xs) (hb : Sl .i64 w b m cap2 zs) (h : decide (zs ∈ nums xs) = r) :
    Calls Try.prog 52 #[.slice a n cap, .slice b m cap2] w fun e w' => e = .returned (.bool r) ∧ ∃ q, w' = w.drewN q := by
  have HA := Lib.hid ha
  have HB := Lib.hid hb
  have HH := Lib.hid h
  clear ha hb h
  go_enter Try.func52, Try.ntmps52
  go_wp2_with fail
  refine (rfind_is a b n m cap cap2 xs zs _ r w HA.out HB.out rfl HH.out).mono ?_
  rintro e w1 ⟨rfl, hq⟩
  have HQ := Lib.hid hq
  clear hq
  go_wp2
  go_ret
  exact ⟨rfl, HQ.out⟩

end Go.Proofs.Ytgbiobhladeooaa
