/- The document's Fields and Bare of layer 4. -/
import Derived.Test.YtflikfnehpaohaaLineStr
namespace Go.Proofs.Ytflikfnehpaohaa
open Go.RowKit

set_option maxRecDepth 100000 in
theorem rblank_is (c : Int) (r : Bool) (w : World) (h : Line.isBlank c = r) :
    Calls Try.prog 53 #[.int .u8 c] w fun e w' => e = .returned (.bool r) ∧ w = w' := by
  subst h
  by_cases h1 : c = 32
  · subst h1
    go_enter Try.func53, Try.ntmps53
    go_wp2
    go_ret
    exact ⟨rfl, rfl⟩
  · have hb1 : (c == 32) = false := by simpa using h1
    by_cases h2 : c = 9
    · subst h2
      go_enter Try.func53, Try.ntmps53
      go_wp2
      go_ret
      exact ⟨rfl, rfl⟩
    · have hb2 : (c == 9) = false := by simpa using h2
      have hr : Line.isBlank c = false := by unfold Line.isBlank; rw [hb1, hb2]; rfl
      rw [hr]
      clear hr
      go_enter Try.func53, Try.ntmps53
      go_wp2
      go_ret
      exact ⟨rfl, rfl⟩

set_option maxHeartbeats 3200000 in
set_option maxRecDepth 100000 in
theorem rfields_any (a : Option Addr) (n cap : Nat) (zs : List Int) (w : World) (hs : Sl .u8 w a n cap zs) (hn : n ≤ 1000000) :
    Calls Try.prog 30 #[.slice a n cap] w fun e w' => RowsIs w w' e (Line.fields zs) := by
  have hnc := hs.2.1
  have hcm := hs.2.2.1
  unfold maxLen at hcm
  have HS := Lib.hid hs
  clear hs
  go_enter Try.func30, Try.ntmps30
  go_wp2
  go_loopw [3, 4, 5] (fun ov fv ix wr => ∃ (i f : Nat) (a' : Option Addr) (L c' : Nat) (outs : List Bd), f ≤ i ∧ i ≤ n + 1 ∧ (n < i → f = i) ∧ L ≤ i ∧ ix = .int .i64 (i : Int) ∧ fv = .int .i64 (f : Int) ∧ ov = .slice a' L c' ∧ Hid (wr.ownsRow w.heap.size 22 1 (.slice a' L c') L (bvals outs)) ∧
      Hid (outs.length = L) ∧ Hid (∀ x ∈ outs, x.Good w) ∧ Hid (bnums outs ++ Line.fieldsA ((zs.take i).drop f) (zs.drop i) = Line.fields zs) ∧ Hid (a' = none → c' = 0) ∧ Below w.heap.size w wr) (fun _ _ ix _ => n + 1 - (intOf ix).toNat)
  case atStart => exact ⟨0, 0, none, 0, 0, [], Nat.le_refl _, Nat.zero_le _, (fun _ => rfl), Nat.le_refl _, rfl, rfl, rfl, owns_nil_brows _ _, rfl, (by first | exact (trivial : True) | (intro x hx; simp at hx)), (by first | exact (trivial : True) | (show _ = _; simp [Line.fields, bnums])), (fun _ => rfl), Below.refl _ _⟩
  case round =>
    obtain ⟨i, f, a', L, c', outs, hfi, hin, hni, hLi, rfl, rfl, rfl, HO, HL, HG, HE, HN, hbr⟩ := hrel
    by_cases hle : i ≤ n
    · -- what the end of a piece makes, where one has begun
      have hout : ∀ rest, f < i → bnums outs ++ (zs.take i).drop f :: rest = bnums (outs ++ [⟨a.map fun x => ⟨x.block, x.off + f, x.spot⟩, i - f, cap - f, (zs.take i).drop f⟩]) ++ rest := by
        intro rest _
        rw [bnums_app]; simp [bnums]
      have HOUT := Lib.hid hout
      clear hout
      have hlei : (i : Int) ≤ (n : Int) := by omega
      have hz9 := hbr.size
      have hdrop : (zs.take (i + 1)).drop (i + 1) = [] := List.drop_eq_nil_of_le (by simp; omega)
      have HDR := Lib.hid hdrop
      clear hdrop
      by_cases hlt : i < n
      · obtain ⟨b, off, rfl, _, hc⟩ := (HS.out.below hbr (Nat.le_refl _)).at (by omega)
        have hx1 := hc i hlt
        have hat := Line.fieldsA_at (b := zs) hfi (by rw [HS.out.1]; exact hlt)
        obtain ⟨x, hx⟩ : ∃ x, x = zs.getD i 0 := ⟨_, rfl⟩
        rw [← hx] at hx1 hat
        have hlti : (i : Int) < (n : Int) := by omega
        have hne1 : ((i : Int) == (n : Int)) = false := by simp; omega
        have hne2 : ¬ (i : Int) = (n : Int) := by omega
        clear hc
        cases hr : Line.isBlank x
        · rw [hr] at hat
          simp only [Bool.false_eq_true, if_false] at hat
          have hnext := HE.out
          rw [hat] at hnext
          have HNX := Lib.hid hnext
          have HR := Lib.hid hr
          clear hat hx hnext hr
          go_wp2_with (go_at_call 53; refine (rblank_is _ _ _ HR.out).mono ?_; rintro e w1 ⟨rfl, rfl⟩)
          go_roundw
          case rel => exact ⟨i + 1, f, a', L, c', outs, by omega, by omega, (fun h => by omega), by omega, by go_num, rfl, rfl, HO.out, HL.out, HG.out, HNX.out, HN.out, hbr⟩
          case measure => simp [intOf]; omega
        · rw [hr] at hat
          simp only [if_true] at hat
          have HR := Lib.hid hr
          clear hr hx
          by_cases hfl : f < i
          · rw [if_pos hfl] at hat
            have hnext := HE.out
            rw [hat, HOUT.out _ hfl] at hnext
            have HNX := Lib.hid hnext
            have hfi1 : (f : Int) < (i : Int) := by omega
            have hfi2 : (f : Int) ≤ (i : Int) := by omega
            have hf0 : (0 : Int) ≤ (f : Int) := by omega
            have hic : (i : Int) ≤ (cap : Int) := by omega
            have hfc1 : ¬ (f : Int) = (cap : Int) := by omega
            have hfc2 : ¬ (cap : Int) = (f : Int) := by omega
            have hfc3 : ¬ cap = f := by omega
            clear hat hnext
            go_wp2_with (first
              | (go_at_call 53; refine (rblank_is _ _ _ HR.out).mono ?_; rintro e w1 ⟨rfl, rfl⟩)
              | (at_builtin; refine append_brows rfl (.tmp 26) (.tmp 31) (by rfl) w.heap.size _ L outs (by rfl) (HO.out.alloc _) (some ⟨wr.heap.size, 0, none⟩) 1 1 [⟨some ⟨b, off + f, none⟩, i - f, cap - f, (zs.take i).drop f⟩] (by rfl) (Bs.newc _ (by intro x hx; simp only [List.mem_singleton] at hx; subst hx; exact (HS.out.part f i hfi hle).below hbr (Nat.le_refl _)) (by show 1 ≤ maxLen; unfold maxLen; omega) rfl rfl rfl) (fun h => by cases h) (L + 1) (by rfl) (by omega) (by simp; omega) ?_; intro a5 c5 w5 hown5 hb5 hnil5)
              | fail)
            go_roundw
            case rel =>
              refine ⟨i + 1, i + 1, a5, L + 1, c5, _, Nat.le_refl _, by omega, (fun _ => rfl), by omega, by go_num, by go_num, rfl, hown5, (by show _ = _; rw [List.length_append, HL.out]; rfl), ?_, HNX.out, hnil5, (hbr.alloc hz9 _).trans hb5⟩
              intro x hx
              rcases List.mem_append.1 hx with hx | hx
              · exact HG.out x hx
              · simp only [List.mem_singleton] at hx
                subst hx
                exact HS.out.part f i hfi hle
            case measure => simp [intOf]; omega
          · rw [if_neg hfl] at hat
            have hnext := HE.out
            rw [hat] at hnext
            have HNX := Lib.hid hnext
            have hfi1 : ¬ (f : Int) < (i : Int) := by omega
            clear hat hnext
            go_wp2_with (go_at_call 53; refine (rblank_is _ _ _ HR.out).mono ?_; rintro e w1 ⟨rfl, rfl⟩)
            go_roundw
            case rel => exact ⟨i + 1, i + 1, a', L, c', outs, Nat.le_refl _, by omega, (fun _ => rfl), by omega, by go_num, by go_num, rfl, HO.out, HL.out, HG.out, HNX.out, HN.out, hbr⟩
            case measure => simp [intOf]; omega
      · obtain rfl : i = n := by omega
        have heq : ((i : Int) == (i : Int)) = true := by simp
        have hd1 : zs.drop i = [] := List.drop_eq_nil_of_le (by rw [HS.out.1]; exact Nat.le_refl _)
        have hd2 : zs.drop (i + 1) = [] := List.drop_eq_nil_of_le (by rw [HS.out.1]; omega)
        by_cases hfl : f < i
        · obtain ⟨b, off, rfl, _, hc⟩ := (HS.out.below hbr (Nat.le_refl _)).at (by omega)
          have hlen : ((zs.take i).drop f).length = i - f := (HS.out.part f i hfi (Nat.le_refl _)).1
          have hnext := HE.out
          rw [hd1, Line.fieldsA, if_neg (by intro h; rw [h] at hlen; simp at hlen; omega), HOUT.out _ hfl] at hnext
          have hnext2 : bnums (outs ++ [⟨some ⟨b, off + f, none⟩, i - f, cap - f, (zs.take i).drop f⟩]) ++ Line.fieldsA ((zs.take (i + 1)).drop (i + 1)) (zs.drop (i + 1)) = Line.fields zs := by
            rw [HDR.out, hd2, Line.fieldsA, if_pos rfl, List.append_nil]; simpa using hnext
          have HNX := Lib.hid hnext2
          have hfi1 : (f : Int) < (i : Int) := by omega
          have hfi2 : (f : Int) ≤ (i : Int) := by omega
          have hf0 : (0 : Int) ≤ (f : Int) := by omega
          have hic : (i : Int) ≤ (cap : Int) := by omega
          have hfc1 : ¬ (f : Int) = (cap : Int) := by omega
          have hfc2 : ¬ (cap : Int) = (f : Int) := by omega
          have hfc3 : ¬ cap = f := by omega
          clear hc hlen hnext hnext2 hd1 hd2
          go_wp2_with (first
            | (at_builtin; refine append_brows rfl (.tmp 26) (.tmp 31) (by rfl) w.heap.size _ L outs (by rfl) (HO.out.alloc _) (some ⟨wr.heap.size, 0, none⟩) 1 1 [⟨some ⟨b, off + f, none⟩, i - f, cap - f, (zs.take i).drop f⟩] (by rfl) (Bs.newc _ (by intro x hx; simp only [List.mem_singleton] at hx; subst hx; exact (HS.out.part f i hfi (Nat.le_refl _)).below hbr (Nat.le_refl _)) (by show 1 ≤ maxLen; unfold maxLen; omega) rfl rfl rfl) (fun h => by cases h) (L + 1) (by rfl) (by omega) (by simp; omega) ?_; intro a5 c5 w5 hown5 hb5 hnil5)
            | fail)
          go_roundw
          case rel =>
            refine ⟨i + 1, i + 1, a5, L + 1, c5, _, Nat.le_refl _, by omega, (fun _ => rfl), by omega, by go_num, by go_num, rfl, hown5, (by show _ = _; rw [List.length_append, HL.out]; rfl), ?_, HNX.out, hnil5, (hbr.alloc hz9 _).trans hb5⟩
            intro x hx
            rcases List.mem_append.1 hx with hx | hx
            · exact HG.out x hx
            · simp only [List.mem_singleton] at hx
              subst hx
              exact HS.out.part f i hfi (Nat.le_refl _)
          case measure => simp [intOf]
        · have hnext := HE.out
          rw [hd1, Line.fieldsA, if_pos (List.drop_eq_nil_of_le (by simp; omega))] at hnext
          have hnext2 : bnums outs ++ Line.fieldsA ((zs.take (i + 1)).drop (i + 1)) (zs.drop (i + 1)) = Line.fields zs := by
            rw [HDR.out, hd2, Line.fieldsA, if_pos rfl, List.append_nil]; simpa using hnext
          have HNX := Lib.hid hnext2
          have hfi1 : ¬ (f : Int) < (i : Int) := by omega
          clear hnext hnext2 hd1 hd2
          go_wp2
          go_roundw
          case rel => exact ⟨i + 1, i + 1, a', L, c', outs, Nat.le_refl _, by omega, (fun _ => rfl), by omega, by go_num, by go_num, rfl, HO.out, HL.out, HG.out, HNX.out, HN.out, hbr⟩
          case measure => simp [intOf]
    · have hend : bnums outs = Line.fields zs := by
        have h := HE.out
        rw [List.drop_eq_nil_of_le (show zs.length ≤ i by rw [HS.out.1]; omega), Line.fieldsA] at h
        have hin1 : i = n + 1 := by omega
        rw [if_pos (List.drop_eq_nil_of_le (by have := hni (by omega); simp; omega))] at h
        simpa using h
      have HND := Lib.hid hend
      have hlei : ¬ (i : Int) ≤ (n : Int) := by omega
      clear hend
      go_wp2
      go_ret
      exact ⟨a', L, c', outs, rfl, Bs.of_owns HO.out (fun x hx => (HG.out x hx).below hbr (Nat.le_refl _)) HL.out, HND.out, HN.out, hbr⟩

end Go.Proofs.Ytflikfnehpaohaa
