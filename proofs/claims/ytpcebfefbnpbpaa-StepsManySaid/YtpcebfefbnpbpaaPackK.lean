import Derived.Test.YtpcebfefbnpbpaaRuleRef
import Derived.Deep.RegionWith
import Derived.StillTailTactics
import Derived.Deep.RegionLaw
import Derived.Deep.RegionHeld3
import Derived.LoopN
import Derived.Test.YtpcebfefbnpbpaaRuleApp
set_option linter.all false
set_option maxRecDepth 100000
set_option maxHeartbeats 12800000
namespace Go.Proofs.Ytpcebfefbnpbpaa
section
open Go.RowKit

theorem ruls_take_same {xs ys : List Rw} {j : Nat} (h : (ruls xs).take j = (ruls ys).take j) (hx : j < xs.length) (hy : j < ys.length) (e : (xs.getD j Rw.no).r = (ys.getD j Rw.no).r) :
    (ruls xs).take (j + 1) = (ruls ys).take (j + 1) := by
  have h1 : j < (ruls xs).length := by rw [ruls_length]; exact hx
  have h2 : j < (ruls ys).length := by rw [ruls_length]; exact hy
  rw [List.take_succ_eq_append_getElem h1, List.take_succ_eq_append_getElem h2, h]
  rw [← ruls_at, ← ruls_at] at e
  simp [h1, h2] at e
  rw [e]

theorem rsames_is (a b : Option Addr) (n m cap cap2 : Nat) (xs ys : List Rw) (r : Bool) (w : World) (ha : Rs w a n cap xs) (hb : Rs w b m cap2 ys) (h : decide (ruls xs = ruls ys) = r) :
    Calls Try.prog 28 #[.slice a n cap, .slice b m cap2] w fun e w' => e = .returned (.bool r) ∧ ∃ q, w' = w.drewN q := by
  have hnc := ha.2.1
  have hcm := ha.2.2.1
  unfold maxLen at hcm
  have hmc := hb.2.1
  have hcm2 := hb.2.2.1
  unfold maxLen at hcm2
  have HA := Lib.hid ha
  have HB := Lib.hid hb
  have HR := Lib.hid h
  clear ha hb h
  by_cases hnm : n = m
  · subst hnm
    go_enter Try.func28, Try.ntmps28
    go_wp2
    go_loopw [5] (fun ix wr => ∃ j : Nat, j ≤ n ∧ ix = .int .i64 (j : Int) ∧ Hid ((ruls xs).take j = (ruls ys).take j) ∧ Hid (∃ q, wr = w.drewN q)) (fun ix _ => n - (intOf ix).toNat)
    case atStart => exact ⟨0, Nat.zero_le _, rfl, rfl, ⟨0, rfl⟩⟩
    case round =>
      obtain ⟨j, hj, rfl, HT, HQ⟩ := hrel
      by_cases hlt : j < n
      · obtain ⟨b1, o1, la, ln, lc, L, ra, rn, rc, R, C, rfl, _, hx1, hx2, hx3, hsl, hsr, _, _, hz1⟩ := (HA.out.drawn HQ.out).one j hlt
        obtain ⟨b2, o2, la', ln', lc', L', ra', rn', rc', R', C', rfl, _, hy1, hy2, hy3, hsl', hsr', _, _, hz2⟩ := (HB.out.drawn HQ.out).one j hlt
        have HSL := Lib.hid hsl
        have HSR := Lib.hid hsr
        have HSL' := Lib.hid hsl'
        have HSR' := Lib.hid hsr'
        have HZ1 := Lib.hid hz1
        have HZ2 := Lib.hid hz2
        have hlti : (j : Int) < (n : Int) := by omega
        clear hsl hsr hsl' hsr' hz1 hz2
        by_cases he : L = L' ∧ R = R' ∧ C = C'
        · obtain ⟨he1, he2, rfl⟩ := he
          have HD1 : Hid (decide (L = L') = true) := Lib.hid (decide_eq_true he1)
          have HD2 : Hid (decide (R = R') = true) := Lib.hid (decide_eq_true he2)
          have HE : Hid (L = L' ∧ R = R') := ⟨he1, he2⟩
          clear he1 he2
          go_wp2
          go_quiet (first | (go_at_call_of 16 la; exact Calls.quiet_of (same_is la la' ln ln' lc lc' L L' true _ (HSL.out.drewN _) (HSL'.out.drewN _) HD1.out)) | (go_at_call_of 16 ra; exact Calls.quiet_of (same_is ra ra' rn rn' rc rc' R R' true _ (HSR.out.drewN _) (HSR'.out.drewN _) HD2.out)))
          go_wp2
          go_roundw
          case rel => exact ⟨j + 1, by omega, by go_num, ruls_take_same HT.out (by rw [HA.out.1]; exact hlt) (by rw [HB.out.1]; exact hlt) (by rw [HZ1.out, HZ2.out]; simp [Rw.r, HE.out]), (by obtain ⟨q, hq⟩ := HQ.out; exact ⟨_, by rw [hq, World.drewN_drewN]⟩)⟩
          case measure => simp [intOf]; omega
        · have hrf : r = false := by
            rw [← HR.out, decide_eq_false_iff_not]; intro h; apply he
            have h1 := ruls_at xs j
            have h2 := ruls_at ys j
            rw [h, h2, HZ1.out, HZ2.out] at h1
            simp only [Rw.r, Rul.mk.injEq] at h1
            exact ⟨h1.1.symm, h1.2.1.symm, h1.2.2.symm⟩
          have hcase : L ≠ L' ∨ (L = L' ∧ R ≠ R') ∨ (L = L' ∧ R = R' ∧ C ≠ C') := by
            by_cases h1 : L = L'
            · by_cases h2 : R = R'
              · exact .inr (.inr ⟨h1, h2, fun h => he ⟨h1, h2, h⟩⟩)
              · exact .inr (.inl ⟨h1, h2⟩)
            · exact .inl h1
          have HRF := Lib.hid hrf
          clear he hrf HR
          rcases hcase with h1 | ⟨h1, h2⟩ | ⟨h1, h2, h3⟩
          · have HD1 : Hid (decide (L = L') = false) := Lib.hid (decide_eq_false h1)
            clear h1
            go_wp2
            go_quiet (first | (go_at_call_of 16 la; exact Calls.quiet_of (same_is la la' ln ln' lc lc' L L' false _ (HSL.out.drewN _) (HSL'.out.drewN _) HD1.out)) | fail)
            go_wp2
            go_ret
            exact ⟨by rw [HRF.out]; rfl, (by obtain ⟨q, hq⟩ := HQ.out; exact ⟨_, by rw [hq, World.drewN_drewN]⟩)⟩
          · have HD1 : Hid (decide (L = L') = true) := Lib.hid (decide_eq_true h1)
            have HD2 : Hid (decide (R = R') = false) := Lib.hid (decide_eq_false h2)
            clear h1 h2
            go_wp2
            go_quiet (first | (go_at_call_of 16 la; exact Calls.quiet_of (same_is la la' ln ln' lc lc' L L' true _ (HSL.out.drewN _) (HSL'.out.drewN _) HD1.out)) | (go_at_call_of 16 ra; exact Calls.quiet_of (same_is ra ra' rn rn' rc rc' R R' false _ (HSR.out.drewN _) (HSR'.out.drewN _) HD2.out)))
            go_wp2
            go_ret
            exact ⟨by rw [HRF.out]; rfl, (by obtain ⟨q, hq⟩ := HQ.out; exact ⟨_, by rw [hq, World.drewN_drewN]⟩)⟩
          · have HD1 : Hid (decide (L = L') = true) := Lib.hid (decide_eq_true h1)
            have HD2 : Hid (decide (R = R') = true) := Lib.hid (decide_eq_true h2)
            have h3' : (C == C') = false := by simpa using h3
            have h3'' : (C != C') = true := by simpa using h3
            clear h1 h2
            go_wp2
            go_quiet (first | (go_at_call_of 16 la; exact Calls.quiet_of (same_is la la' ln ln' lc lc' L L' true _ (HSL.out.drewN _) (HSL'.out.drewN _) HD1.out)) | (go_at_call_of 16 ra; exact Calls.quiet_of (same_is ra ra' rn rn' rc rc' R R' true _ (HSR.out.drewN _) (HSR'.out.drewN _) HD2.out)))
            go_wp2
            go_ret
            exact ⟨by rw [HRF.out]; rfl, (by obtain ⟨q, hq⟩ := HQ.out; exact ⟨_, by rw [hq, World.drewN_drewN]⟩)⟩
      · have hfin : r = true := by
          rw [← HR.out, decide_eq_true_iff]
          have h := HT.out
          rwa [List.take_of_length_le (by rw [ruls_length, HA.out.1]; omega), List.take_of_length_le (by rw [ruls_length, HB.out.1]; omega)] at h
        have HF := Lib.hid hfin
        clear hfin HR
        go_wp2
        go_ret
        exact ⟨by rw [HF.out]; rfl, HQ.out⟩
  · have hfin : r = false := by
      rw [← HR.out, decide_eq_false_iff_not]; intro h
      have := congrArg List.length h
      rw [ruls_length, ruls_length, HA.out.1, HB.out.1] at this
      exact hnm this
    have h1 : ((n : Int) == (m : Int)) = false := by simp; omega
    have h2 : ((n : Int) != (m : Int)) = true := by simp; omega
    subst hfin
    clear HR
    go_enter Try.func28, Try.ntmps28
    go_wp2
    go_ret
    exact ⟨rfl, 0, rfl⟩

/-- no side longer than a hundred -/
def ShortR (xs : List Rw) : Prop := ∀ x ∈ xs, x.ln ≤ 100 ∧ x.rn ≤ 100

theorem ShortR.snoc {xs : List Rw} {j : Nat} (h : ShortR (xs.take j)) (hj : j < xs.length) (hx : (xs.getD j Rw.no).ln ≤ 100 ∧ (xs.getD j Rw.no).rn ≤ 100) : ShortR (xs.take (j + 1)) := by
  intro x hm
  rw [List.take_succ_eq_append_getElem hj] at hm
  rcases List.mem_append.1 hm with hm | hm
  · exact h x hm
  · rw [List.mem_singleton.1 hm]; simpa [hj] using hx

/-- few rules, or the answer is no -/
theorem rfew_any (a : Option Addr) (n cap : Nat) (xs : List Rw) (most : Nat) (_hmost : most ≤ 1000) (w : World) (ha : Rs w a n cap xs) :
    Calls Try.prog 17 #[.slice a n cap, .int .i64 (most : Int)] w fun e w' => (e = .returned (.bool false) ∨ (e = .returned (.bool true) ∧ ShortR xs ∧ n ≤ most)) ∧ w' = w := by
  have hnc := ha.2.1
  have hcm := ha.2.2.1
  unfold maxLen at hcm
  have HA := Lib.hid ha
  clear ha
  go_enter Try.func17, Try.ntmps17
  go_wp2
  go_loopw [5] (fun ix wr => ∃ j : Nat, j ≤ n ∧ ix = .int .i64 (j : Int) ∧ Hid (ShortR (xs.take j)) ∧ Hid (wr = w)) (fun ix _ => n - (intOf ix).toNat)
  case atStart => exact ⟨0, Nat.zero_le _, rfl, (fun x hx => by simp at hx), rfl⟩
  case round =>
    obtain ⟨j, hj, rfl, HT, HW⟩ := hrel
    obtain rfl := HW.out
    clear HW
    by_cases hlt : j < n
    · obtain ⟨b1, o1, la, ln, lc, L, ra, rn, rc, R, C, rfl, _, hx1, hx2, hx3, _, _, _, _, hz1⟩ := HA.out.one j hlt
      have HZ1 := Lib.hid hz1
      have hlti : (j : Int) < (n : Int) := by omega
      clear hz1
      by_cases h1 : 100 < ln
      · have h1i : (100 : Int) < (ln : Int) := by omega
        go_wp2
        go_ret
        exact ⟨.inl rfl, rfl⟩
      have h1i : ¬ (100 : Int) < (ln : Int) := by omega
      by_cases h2 : 100 < rn
      · have h2i : (100 : Int) < (rn : Int) := by omega
        go_wp2
        go_ret
        exact ⟨.inl rfl, rfl⟩
      have h2i : ¬ (100 : Int) < (rn : Int) := by omega
      go_wp2
      go_roundw
      case rel => exact ⟨j + 1, by omega, by go_num, HT.out.snoc (by rw [HA.out.1]; exact hlt) (by rw [HZ1.out]; exact ⟨by show ln ≤ 100; omega, by show rn ≤ 100; omega⟩), (by first | exact (trivial : True) | rfl)⟩
      case measure => simp [intOf]; omega
    · have hfin : ShortR xs := by
        have h := HT.out
        rwa [List.take_of_length_le (by rw [HA.out.1]; omega)] at h
      have HF := Lib.hid hfin
      clear hfin
      by_cases hm : n ≤ most
      · have hmi : (n : Int) ≤ (most : Int) := by omega
        go_wp2
        go_ret
        exact ⟨.inr ⟨rfl, HF.out, hm⟩, rfl⟩
      · have hmi : ¬ (n : Int) ≤ (most : Int) := by omega
        go_wp2
        go_ret
        exact ⟨by first | exact .inl rfl | rfl, rfl⟩

end
section
open Go.RowKit

/-- rules that a call answers, in memory that reads so -/
def RulesIs (w w' : World) (e : Ending) (l : List Rul) (most : Nat) : Prop :=
  ∃ a' n' c' outs, e = .returned (.slice a' n' c') ∧ Rs w' a' n' c' outs ∧ ruls outs = l ∧ n' ≤ most ∧ (a' = none → c' = 0) ∧ Below w.heap.size w w'

/-- the rules put in order so far -/
def Outs (w wr : World) (a : Option Addr) (L c j : Nat) (xs outs : List Rw) : Prop :=
  wr.ownsRow w.heap.size 41 3 (.slice a L c) L (rcells outs) ∧ (∀ x ∈ outs, x.Good w) ∧ ruls outs = nrm ((ruls xs).take j) ∧ outs.length = L ∧ Below w.heap.size w wr
theorem Outs.rs {w wr : World} {a : Option Addr} {L c j : Nat} {xs outs : List Rw} (h : Outs w wr a L c j xs outs) : Rs wr a L c outs :=
  Rs.of_owns h.1 (fun x hx => (h.2.1 x hx).below h.2.2.2.2 (Nat.le_refl _)) h.2.2.2.1
theorem Outs.below {w wr wr' : World} {a : Option Addr} {L c j : Nat} {xs outs : List Rw} (h : Outs w wr a L c j xs outs) (hb : Below wr.heap.size wr wr') : Outs w wr' a L c j xs outs :=
  ⟨ownsRow_below h.1 hb (Nat.le_refl _), h.2.1, h.2.2.1, h.2.2.2.1, h.2.2.2.2.trans (hb.mono h.2.2.2.2.size)⟩

theorem take_nrm {l : List Rul} {j : Nat} {r : Rul} (hj : j < l.length) (hr : l.getD j Rul.no = r) : nrm (l.take (j + 1)) = stepR (nrm (l.take j)) r := by
  rw [List.take_succ_eq_append_getElem hj, nrm_snoc]
  congr 1
  rw [← hr]; simp [hj]

theorem Outs.ins {w w2 w7 : World} {b : Option Addr} {L c j : Nat} {xs outs : List Rw} (h : Outs w w2 b L c j xs outs) {k : Nat} {x : Rw} (hk : k ≤ L) (hj : j < xs.length) (hx : xs.getD j Rw.no = x) (hg : x.Good w) (hc : chk x.r = true)
    (hK : ∀ y ∈ (ruls outs).take k, lessS y x.r = true) (hn : k < L → lessS ((ruls outs).getD k Rul.no) x.r = false ∧ ¬ ((ruls outs).getD k Rul.no).like x.r) {a8 : Option Addr} {c8 : Nat}
    (ho : w7.ownsRow w2.heap.size 41 3 (.slice a8 (L + 1) c8) (L + 1) (rcells (outs.take k ++ [x] ++ outs.drop k))) (hb : Below w2.heap.size w2 w7) : Outs w w7 a8 (L + 1) c8 (j + 1) xs (outs.take k ++ [x] ++ outs.drop k) := by
  obtain ⟨h1, h2, h3, h4, h5⟩ := h
  refine ⟨own_mono ho h5.size, fun y hy => ?_, ?_, ?_, h5.trans (hb.mono h5.size)⟩
  · rcases List.mem_append.1 hy with hy | hy
    · rcases List.mem_append.1 hy with hy | hy
      · exact h2 y (List.mem_of_mem_take hy)
      · rw [List.mem_singleton.1 hy]; exact hg
    · exact h2 y (List.mem_of_mem_drop hy)
  · have hr : (ruls xs).getD j Rul.no = x.r := by rw [ruls_at, hx]
    rw [take_nrm (by rw [ruls_length]; exact hj) hr, ← h3]
    unfold stepR
    have hl : (ruls outs).length = L := by rw [ruls_length, h4]
    rw [if_pos hc, insR_at (ruls outs) k (by rw [hl]; exact hk) hK (fun hkl => (hn (by rw [hl] at hkl; exact hkl)).1), if_neg (fun hh => (hn (by rw [← hl]; exact hh.1)).2 hh.2)]
    simp [ruls, List.map_take, List.map_drop]
  · simp [h4]; omega

theorem rcells_set : ∀ (xs : List Rw) (k : Nat) (y : Rw), k < xs.length → y.l = (xs.getD k Rw.no).l → y.rt = (xs.getD k Rw.no).rt → rcells (xs.set k y) = (rcells xs).set (k * 3 + 2) y.c
  | [], k, y, h, _, _ => by simp at h
  | x :: xs, 0, y, _, h1, h2 => by
    simp only [List.getD_cons_zero] at h1 h2
    rw [List.set_cons_zero, rcells_cons, rcells_cons]
    simp [Rw.cells, h1, h2]
  | x :: xs, k + 1, y, h, h1, h2 => by
    rw [List.set_cons_succ, rcells_cons, rcells_cons, rcells_set xs k y (by simpa using h) (by simpa using h1) (by simpa using h2), List.set_append_right _ _ (by simp [Rw.cells]; omega)]
    congr 2
    simp [Rw.cells]; omega

theorem Outs.set {w w2 : World} {g L c j : Nat} {xs outs : List Rw} (h : Outs w w2 (some ⟨g, 0, none⟩) L c j xs outs) {k : Nat} {x y : Rw} (hk : k < L) (hj : j < xs.length) (hx : xs.getD j Rw.no = x) (hg : x.Good w) (hc : chk x.r = true)
    (hK : ∀ y ∈ (ruls outs).take k, lessS y x.r = true) (hy : outs.getD k Rw.no = y) (hn : lessS y.r x.r = false) (hl : y.r.like x.r) {m : Int} (hme : m = min y.C x.C) :
    Outs w (w2.setCell ⟨g, k * 3 + 2, none⟩ (.int .u64 m)) (some ⟨g, 0, none⟩) L c (j + 1) xs (outs.set k ⟨y.la, y.ln, y.lc, y.L, y.ra, y.rn, y.rc, y.R, m⟩) := by
  subst hme
  obtain ⟨h1, h2, h3, h4, h5⟩ := h
  have hyg : y.Good w := by
    rw [← hy, List.getD_eq_getElem?_getD, List.getElem?_eq_getElem (by omega)]; exact h2 _ (List.getElem_mem _)
  have hm : 0 ≤ min y.C x.C ∧ min y.C x.C < 18446744073709551616 := by
    have := hyg.2.2; have := hg.2.2; omega
  have hgw : w.heap.size ≤ g := by
    rcases h1.2 with ⟨h', _⟩ | ⟨g', c', cur, h', hb', _⟩
    · simp at h'
    · simp only [Value.slice.injEq, Option.some.injEq, Addr.mk.injEq] at h'
      omega
  refine ⟨?_, fun z hz => ?_, ?_, by simp [h4], h5.setCell (p := ⟨g, k * 3 + 2, none⟩) hgw _⟩
  · rw [rcells_set outs k _ (by omega) (by rw [hy]; rfl) (by rw [hy]; rfl)]
    exact (h1.stored (k * 3 + 2) _).1
  · rcases List.mem_or_eq_of_mem_set hz with hz | hz
    · exact h2 z hz
    · rw [hz]; exact ⟨hyg.1, hyg.2.1, hm⟩
  · have hr : (ruls xs).getD j Rul.no = x.r := by rw [ruls_at, hx]
    have hyr : (ruls outs).getD k Rul.no = y.r := by rw [ruls_at, hy]
    have hlen : (ruls outs).length = L := by rw [ruls_length, h4]
    rw [take_nrm (by rw [ruls_length]; exact hj) hr, ← h3]
    unfold stepR
    rw [if_pos hc, insR_at (ruls outs) k (by omega) hK (fun _ => by rw [hyr]; exact hn), if_pos ⟨by omega, by rw [hyr]; exact hl⟩, hyr]
    simp [ruls, List.map_set, Rw.r]


end
end Go.Proofs.Ytpcebfefbnpbpaa
