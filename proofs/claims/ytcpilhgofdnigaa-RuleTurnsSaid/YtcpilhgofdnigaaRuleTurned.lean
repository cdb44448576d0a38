/- turned, of RuleTurns: rules with their sides turned. -/
import Derived.Test.YtcpilhgofdnigaaRuleRefC
import Derived.Test.YtcpilhgofdnigaaRuleLike
import Derived.Deep.RegionHeld3
import Derived.LoopN
namespace Go.Proofs.Ytcpilhgofdnigaa
open Go.RowKit

def Turns (w wr : World) (b : Option Addr) (c j : Nat) (xs outs : List Rw) : Prop :=
  wr.ownsRow w.heap.size 26 3 (.slice b j c) j (rcells outs) ∧ (∀ x ∈ outs, x.Good w) ∧ ruls outs = ((ruls xs).take j).map Rul.turn ∧ outs.length = j ∧ Below w.heap.size w wr

set_option maxHeartbeats 3200000 in
set_option maxRecDepth 100000 in
theorem turned_any (a : Option Addr) (n cap : Nat) (xs : List Rw) (w : World) (hs : Rs w a n cap xs) (hn : n ≤ 300) :
    Calls Try.prog 17 #[.slice a n cap] w fun e w' => ∃ a' c' outs, e = .returned (.slice a' n c') ∧ Rs w' a' n c' outs ∧ ruls outs = (ruls xs).map Rul.turn ∧ (a' = none → c' = 0) ∧ Below w.heap.size w w' := by
  have hnc := hs.2.1
  have hcm := hs.2.2.1
  unfold maxLen at hcm
  have HS := Lib.hid hs
  clear hs
  go_enter Try.func17, Try.ntmps17
  go_wp2
  go_loopw [3, 4] (fun ov ix wr => ∃ (j c : Nat) (b : Option Addr) (outs : List Rw), j ≤ n ∧ ix = .int .i64 (j : Int) ∧ ov = .slice b j c ∧ Hid (Turns w wr b c j xs outs)) (fun _ ix _ => n - (intOf ix).toNat)
  case atStart => exact ⟨0, 0, none, [], Nat.zero_le _, rfl, rfl, ⟨owns_nil_rules _ _, by simp, by simp [ruls], rfl, Below.refl _ _⟩⟩
  case round =>
    obtain ⟨j, c, b, outs, hj, rfl, rfl, HO⟩ := hrel
    by_cases hlt : j < n
    · obtain ⟨b1, o1, la, ln, lc, LL, ra, rn, rc, RR, C, rfl, hb1, hx1, hx2, hx3, hsl, hsr, hC0, hC1, hz1⟩ := HS.out.one j hlt
      have hB := HO.out.2.2.2.2
      have hy1 : wr.cell? ⟨b1, o1 + j * 3, none⟩ = some (.slice la ln lc) := by rw [hB.cell (p := ⟨b1, o1 + j * 3, none⟩) hb1]; exact hx1
      have hy2 : wr.cell? ⟨b1, o1 + j * 3 + 1, none⟩ = some (.slice ra rn rc) := by rw [hB.cell (p := ⟨b1, o1 + j * 3 + 1, none⟩) hb1]; exact hx2
      have hy3 : wr.cell? ⟨b1, o1 + j * 3 + 2, none⟩ = some (.int .u64 C) := by rw [hB.cell (p := ⟨b1, o1 + j * 3 + 2, none⟩) hb1]; exact hx3
      have HG : Hid ((⟨ra, rn, rc, RR, la, ln, lc, LL, C⟩ : Rw).Good w) := ⟨hsr, hsl, hC0, hC1⟩
      have HZ := Lib.hid hz1
      have hbw := cell_lt hy1
      have hlti : (j : Int) < (n : Int) := by omega
      have hbs := HO.out.2.2.2.2.size
      have hne : wr.heap.size ≠ b1 := by omega
      have KEEP : Hid (∀ W, Below w.heap.size wr W → W.cell? ⟨b1, o1 + j * 3, none⟩ = some (.slice la ln lc) ∧ W.cell? ⟨b1, o1 + j * 3 + 1, none⟩ = some (.slice ra rn rc) ∧ W.cell? ⟨b1, o1 + j * 3 + 2, none⟩ = some (.int .u64 C)) := fun W hb =>
        ⟨(hb.cell (p := ⟨b1, o1 + j * 3, none⟩) hb1).trans hy1, (hb.cell (p := ⟨b1, o1 + j * 3 + 1, none⟩) hb1).trans hy2, (hb.cell (p := ⟨b1, o1 + j * 3 + 2, none⟩) hb1).trans hy3⟩
      have BEL0 : Hid (Below wr.heap.size wr wr.drew) := below_drawn (Below.refl _ wr) ⟨1, rfl⟩
      have BEL1 : Hid (∀ o, Below wr.heap.size wr (wr.alloc o)) := fun o => (Below.refl _ wr).alloc (Nat.le_refl _) o
      have BEW : Hid (∀ o, Below w.heap.size wr (wr.alloc o)) := fun o => ((Below.refl _ wr).alloc (Nat.le_refl _) o).mono hbs
      clear hsl hsr hz1 hx1 hx2 hx3 hB
      go_wp2
      go_region_held3 (fun W => W.cell? ⟨b1, o1 + j * 3, none⟩ = some (.slice la ln lc) ∧ W.cell? ⟨b1, o1 + j * 3 + 1, none⟩ = some (.slice ra rn rc) ∧ W.cell? ⟨b1, o1 + j * 3 + 2, none⟩ = some (.int .u64 C)) (first | exact KEEP.out _ (BEL0.out.mono hbs) | exact KEEP.out _ (Below.like (BEW.out _) rfl rfl rfl rfl) | exact KEEP.out _ hb5) (first
        | (refine step_append_rules (w0 := wr) (by rfl) (.tmp 11) (.tmp 28) (by rfl) w.heap.size _ j outs (by rfl) (by exact ownsRow_below HO.out.1 (Below.like (BEL1.out _) rfl rfl rfl rfl) (Nat.le_refl _)) (some ⟨_, 0, none⟩) 1 1 [⟨ra, rn, rc, RR, la, ln, lc, LL, C⟩] (by rfl) (by exact Rs.single ((HG.out.below HO.out.2.2.2.2 (Nat.le_refl _)).alloc _) (RwAt.new wr ⟨ra, rn, rc, RR, la, ln, lc, LL, C⟩ _)) (j + 1) (by rfl) (by omega) hbs (by exact Below.like (BEW.out _) rfl rfl rfl rfl) ?_; intro a5 c5 w5 hown5 hb5 hgrow5 _))
      all_goals
        have hT : Turns w w5 a5 c5 (j + 1) xs (outs ++ [⟨ra, rn, rc, RR, la, ln, lc, LL, C⟩]) := by
          refine ⟨hown5, fun x hx => ?_, ?_, by simp [HO.out.2.2.2.1], HO.out.2.2.2.2.trans hb5⟩
          · rcases List.mem_append.1 hx with hx | hx
            · exact HO.out.2.1 x hx
            · rw [List.mem_singleton.1 hx]; exact HG.out
          · have hjl : j < (ruls xs).length := by rw [ruls_length, HS.out.1]; exact hlt
            have hr := ruls_at xs j
            rw [HZ.out, List.getD_eq_getElem?_getD, List.getElem?_eq_getElem hjl, Option.getD_some] at hr
            rw [List.take_succ_eq_append_getElem hjl, List.map_append, ← HO.out.2.2.1, hr, ruls_app]
            rfl
        have HT := Lib.hid hT
        clear hT hown5 hb5 hgrow5
        go_wp2
        go_roundw
        case rel => exact ⟨j + 1, c5, a5, _, by omega, by go_num, rfl, HT.out⟩
        case measure => simp [intOf]; omega
    · obtain rfl : j = n := by omega
      have hfin : ruls outs = (ruls xs).map Rul.turn := by
        rw [HO.out.2.2.1, List.take_of_length_le (by rw [ruls_length, HS.out.1]; omega)]
      have HFI := Lib.hid hfin
      obtain ⟨b9, c9, hbe, hnil9⟩ := own_form HO.out.1
      cases hbe
      have HN9 := Lib.hid hnil9
      clear hfin hnil9
      go_wp2
      go_ret
      exact ⟨b, c, outs, rfl, Rs.of_owns HO.out.1 (fun x hx => (HO.out.2.1 x hx).below HO.out.2.2.2.2 (Nat.le_refl _)) HO.out.2.2.2.1, HFI.out, HN9.out, HO.out.2.2.2.2⟩

end Go.Proofs.Ytcpilhgofdnigaa
