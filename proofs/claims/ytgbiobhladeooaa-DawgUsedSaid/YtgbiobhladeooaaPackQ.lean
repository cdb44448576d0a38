import Derived.Test.YtgbiobhladeooaaTrieRefB
import Derived.Test.YtgbiobhladeooaaPackT
import Derived.Test.YtgbiobhladeooaaPackA
/- The document's Same of layer 10, of any automata, and its Least of layer 11. -/
namespace Go.Proofs.Ytgbiobhladeooaa
open Go.RowKit Tri

set_option maxRecDepth 100000 in
theorem drew_next {w w1 : World} (h : ∃ q, w1 = w.drewN q) (n : Nat) : ∃ p, w1.drewN n = w.drewN p := by
  obtain ⟨p, rfl⟩ := h
  exact ⟨_, World.drewN_drewN _ _ _⟩
set_option maxRecDepth 100000 in
theorem sts_take_same {xs ys : List Sw} {j : Nat} (h : (sts xs).take j = (sts ys).take j) (hx : j < xs.length) (hy : j < ys.length) (e : (xs.getD j Sw.no).st = (ys.getD j Sw.no).st) : (sts xs).take (j + 1) = (sts ys).take (j + 1) := by
  have hx' : j < (sts xs).length := by rw [sts_length]; exact hx
  have hy' : j < (sts ys).length := by rw [sts_length]; exact hy
  rw [List.take_succ_eq_append_getElem hx', List.take_succ_eq_append_getElem hy', h]
  rw [← sts_at, ← sts_at] at e
  simp only [List.getD_eq_getElem?_getD, List.getElem?_eq_getElem hx', List.getElem?_eq_getElem hy', Option.getD_some] at e
  rw [e]

set_option maxRecDepth 100000 in
set_option maxHeartbeats 6400000 in
theorem rsame10_any (a b : Option Addr) (n m cap cap2 : Nat) (xs ys : List Sw) (r : Bool) (w : World) (ha : Ss w a n cap xs) (hb : Ss w b m cap2 ys) (hr : r = true ↔ sts xs = sts ys) :
    Calls Try.prog 13 #[.slice a n cap, .slice b m cap2] w fun e w' => e = .returned (.bool r) ∧ ∃ q, w' = w.drewN q := by
  have hnc := ha.2.1
  have hcm := ha.2.2.1
  have hnc2 := hb.2.1
  have hcm2 := hb.2.2.1
  unfold maxLen at hcm hcm2
  have HA := Lib.hid ha
  have HB := Lib.hid hb
  have HR := Lib.hid hr
  clear ha hb hr
  by_cases hnm : n = m
  · subst hnm
    have hlen : ((n : Int) != (n : Int)) = false := by simp
    go_enter Try.func13, Try.ntmps13
    go_wp2
    go_loopw [5] (fun ix wr => ∃ j : Nat, j ≤ n ∧ ix = .int .i64 (j : Int) ∧ Hid ((sts xs).take j = (sts ys).take j) ∧ Hid (∃ q, wr = w.drewN q)) (fun ix _ => n - (intOf ix).toNat)
    case atStart => exact ⟨0, Nat.zero_le _, rfl, rfl, ⟨0, rfl⟩⟩
    case round =>
      obtain ⟨j, hj, rfl, HT, HQ⟩ := hrel
      by_cases hlt : j < n
      · obtain ⟨b1, o1, f, sa, sn, sc, arcs, rfl, _, hx1, hx2, hars, hz1⟩ := (HA.out.drawn HQ.out).one j hlt
        obtain ⟨b2, o2, f', sa', sn', sc', arcs', rfl, _, hy1, hy2, hars', hz2⟩ := (HB.out.drawn HQ.out).one j hlt
        have HZ1 := Lib.hid hz1
        have HZ2 := Lib.hid hz2
        have HAR := Lib.hid hars
        have HAR' := Lib.hid hars'
        have hsc := hars.2.1
        have hscm := hars.2.2.1
        have hsc' := hars'.2.1
        have hscm' := hars'.2.2.1
        unfold maxLen at hscm hscm'
        have hlti : (j : Int) < (n : Int) := by omega
        have HNO : Hid ((⟨f, arcs⟩ : St) ≠ ⟨f', arcs'⟩ → r = false) := fun hne => by
          cases hrr : r with
          | false => rfl
          | true =>
            exfalso
            have h1 := sts_at xs j
            have h2 := sts_at ys j
            rw [HR.out.1 hrr, h2, hz1, hz2] at h1
            exact hne h1.symm
        clear hars hars' hz1 hz2
        by_cases hf : f = f'
        · subst hf
          have hff : (f != f) = false := by simp
          by_cases hs : sn = sn'
          · subst hs
            have hss : ((sn : Int) != (sn : Int)) = false := by simp
            go_wp2
            go_quiet (fail)
            go_wp2
            generalize wr = wo at *
            go_loopw [6] (fun ix wr => ∃ k : Nat, k ≤ sn ∧ ix = .int .i64 (k : Int) ∧ Hid (arcs.take k = arcs'.take k) ∧ Hid (∃ q, wr = wo.drewN q)) (fun ix _ => sn - (intOf ix).toNat)
            case atStart => exact ⟨0, Nat.zero_le _, rfl, rfl, ⟨_, rfl⟩⟩
            case round =>
              obtain ⟨k, hk, rfl, HTA, HQ2⟩ := hrel
              obtain ⟨q2, rfl⟩ := HQ2.out
              by_cases hlk : k < sn
              · obtain ⟨b3, o3, s3, t3, rfl, _, hu1, hu2, _, _, hu3⟩ := HAR.out.one k hlk
                obtain ⟨b4, o4, s4, t4, rfl, _, hv1, hv2, _, _, hv3⟩ := HAR'.out.one k hlk
                have hlki : (k : Int) < (sn : Int) := by omega
                by_cases he : s3 = s4 ∧ t3 = t4
                · obtain ⟨rfl, rfl⟩ := he
                  have HTK : Hid (arcs.take (k + 1) = arcs'.take (k + 1)) := by
                    show _ = _
                    rw [arcs_step (by rw [HAR.out.1]; exact hlk) hu3, arcs_step (by rw [HAR'.out.1]; exact hlk) hv3, HTA.out]
                  have e1 : (s3 != s3) = false := by simp
                  have e2 : (t3 != t3) = false := by simp
                  have e3 : (s3 == s3) = true := by simp
                  have e4 : (t3 == t3) = true := by simp
                  clear hu3 hv3
                  go_wp2
                  go_quiet (fail)
                  go_wp2
                  go_roundw
                  case rel => exact ⟨k + 1, by omega, by go_num, HTK.out, ⟨_, by first | rfl | exact World.drewN_drewN _ _ _⟩⟩
                  case measure => simp [intOf]; omega
                · have hfin : r = false := HNO.out fun e => by
                    have e' : arcs = arcs' := congrArg St.arcs e
                    rw [e', hv3] at hu3
                    simp only [Prod.mk.injEq] at hu3
                    exact he ⟨hu3.1.symm, hu3.2.symm⟩
                  subst hfin
                  clear hu3 hv3
                  by_cases h34 : s3 = s4
                  · subst h34
                    have ht : ¬ t3 = t4 := fun e => he ⟨rfl, e⟩
                    have e1 : (s3 != s3) = false := by simp
                    have e2 : (t3 != t4) = true := by simpa using ht
                    have e3 : (s3 == s3) = true := by simp
                    have e4 : (t3 == t4) = false := by simpa using ht
                    clear he ht
                    go_wp2
                    go_quiet (fail)
                    go_wp2
                    go_ret
                    exact ⟨rfl, drew_next (drew_more HQ.out) _⟩
                  · have e1 : (s3 != s4) = true := by simpa using h34
                    have e3 : (s3 == s4) = false := by simpa using h34
                    clear he h34
                    go_wp2
                    go_quiet (fail)
                    go_wp2
                    go_ret
                    exact ⟨rfl, drew_next (drew_more HQ.out) _⟩
              · obtain rfl : sn = k := by omega
                have HST : Hid ((sts xs).take (j + 1) = (sts ys).take (j + 1)) := sts_take_same HT.out (by rw [HA.out.1]; exact hlt) (by rw [HB.out.1]; exact hlt) (by
                  rw [HZ1.out, HZ2.out]
                  have h := HTA.out
                  rw [List.take_of_length_le (by rw [HAR.out.1]; exact Nat.le_refl _), List.take_of_length_le (by rw [HAR'.out.1]; exact Nat.le_refl _)] at h
                  show (⟨f, arcs⟩ : St) = ⟨f, arcs'⟩
                  rw [h])
                go_wp2
                go_roundw
                case rel => exact ⟨j + 1, by omega, by go_num, HST.out, drew_more HQ.out⟩
                case measure => simp [intOf]; omega
          · have hss : ((sn : Int) != (sn' : Int)) = true := by simp; omega
            have hfin : r = false := HNO.out fun e => by
              have e' : arcs = arcs' := congrArg St.arcs e
              exact hs (by rw [← HAR.out.1, ← HAR'.out.1, e'])
            subst hfin
            clear hs
            go_wp2
            go_quiet (fail)
            go_wp2
            go_ret
            exact ⟨rfl, drew_next HQ.out _⟩
        · have hfin : r = false := HNO.out fun e => hf (congrArg St.final e)
          subst hfin
          have hbb : f = false ∧ f' = true ∨ f = true ∧ f' = false := by cases f <;> cases f' <;> simp at hf ⊢
          clear hf HNO
          rcases hbb with ⟨rfl, rfl⟩ | ⟨rfl, rfl⟩
          · go_wp2
            go_quiet (fail)
            go_wp2
            go_ret
            exact ⟨rfl, drew_next HQ.out _⟩
          · go_wp2
            go_quiet (fail)
            go_wp2
            go_ret
            exact ⟨rfl, drew_next HQ.out _⟩
      · have hfin : r = true := by
          rw [HR.out]
          have h := HT.out
          rwa [List.take_of_length_le (by rw [sts_length, HA.out.1]; omega), List.take_of_length_le (by rw [sts_length, HB.out.1]; omega)] at h
        subst hfin
        go_wp2
        go_ret
        exact ⟨rfl, HQ.out⟩
  · have hfin : r = false := by
      cases hrr : r with
      | false => rfl
      | true =>
        exfalso
        have := congrArg List.length (HR.out.1 hrr)
        rw [sts_length, sts_length, HA.out.1, HB.out.1] at this
        exact hnm this
    subst hfin
    have hlen : ((n : Int) != (m : Int)) = true := by simp; omega
    clear hnm
    go_enter Try.func13, Try.ntmps13
    go_wp2
    go_ret
    exact ⟨rfl, 0, rfl⟩

end Go.Proofs.Ytgbiobhladeooaa

/- The document's Least of layer 11. -/
namespace Go.Proofs.Ytgbiobhladeooaa
open Go.RowKit Tri Daw

set_option maxRecDepth 100000 in
theorem Ss.mid {w : World} {b off n cap : Nat} {xs : List Sw} (h : Ss w (some ⟨b, off, none⟩) n cap xs) {i o' m c' : Nat} (hi : i < n) (ho : o' = off + i * 2) (hm : m = 1) (hc : c' = cap - i) : Ss w (some ⟨b, o', none⟩) m c' [xs.getD i Sw.no] := by
  subst ho hm hc
  have h2 := h.2.1
  have h3 := h.2.2.1
  refine ⟨rfl, by omega, by omega, fun x hx => by rw [List.mem_singleton.1 hx]; exact h.good i, .inr ⟨b, off + i * 2, rfl, fun k hk => ?_⟩⟩
  obtain rfl : k = 0 := by omega
  obtain ⟨b', off', e, _, hc⟩ := h.at (by omega)
  simp only [Option.some.injEq, Addr.mk.injEq, and_true] at e
  obtain ⟨rfl, rfl⟩ := e
  simpa using hc i hi
set_option maxRecDepth 100000 in
theorem sameS_symm (a b : St) : sameS a b = sameS b a := by
  unfold sameS
  rw [decide_eq_decide.2 (eq_comm (a := a.final) (b := b.final)), decide_eq_decide.2 (eq_comm (a := a.arcs) (b := b.arcs))]
set_option maxRecDepth 100000 in
theorem sameS_iff {a b : St} : sameS a b = true ↔ a = b := by
  unfold sameS
  rw [Bool.and_eq_true, decide_eq_true_eq, decide_eq_true_eq]
  constructor
  · rintro ⟨h1, h2⟩; cases a; cases b; simp only at h1 h2; rw [h1, h2]
  · rintro rfl; exact ⟨rfl, rfl⟩
set_option maxRecDepth 100000 in
theorem unlike_pairs {l : List St} : unlike l = true ↔ ∀ q, q < l.length → ∀ p, p < q → sameS (l.getD q St.no) (l.getD p St.no) = false := by
  rw [unlike_iff, List.pairwise_iff_getElem]
  constructor
  · intro h q hq p hp
    have := h p q (by omega) hq hp
    rw [sameS_symm]
    simpa [hq, show p < l.length by omega] using this
  · intro h p q hp hq hpq
    have := h q hq p hpq
    rw [sameS_symm] at this
    simpa [hq, hp] using this

set_option maxRecDepth 100000 in
set_option maxHeartbeats 6400000 in
theorem rleast11_is (a : Option Addr) (n cap : Nat) (xs : List Sw) (r : Bool) (w : World) (ha : Ss w a n cap xs) (hr : least (sts xs) = r) :
    Calls Try.prog 15 #[.slice a n cap] w fun e w' => e = .returned (.bool r) ∧ Below w.heap.size w w' := by
  have hnc := ha.2.1
  have hcm := ha.2.2.1
  unfold maxLen at hcm
  have HA := Lib.hid ha
  have HR := Lib.hid hr
  have HL : Hid ((sts xs).length = n) := by show _ = _; rw [sts_length, ha.1]
  clear ha hr
  go_enter Try.func15, Try.ntmps15
  go_wp2
  go_loopw [3] (fun ix wr => ∃ i : Nat, i ≤ n ∧ ix = .int .i64 (i : Int) ∧ Hid (∀ q, q < i → ∀ p, p < q → sameS ((sts xs).getD q St.no) ((sts xs).getD p St.no) = false) ∧ Hid (∃ q, wr = w.drewN q)) (fun ix _ => n - (intOf ix).toNat)
  case atStart => exact ⟨0, Nat.zero_le _, rfl, (fun q hq => by omega), ⟨0, rfl⟩⟩
  case round =>
    obtain ⟨i, hi, rfl, HT, HQ⟩ := hrel
    by_cases hlt : i < n
    · have hlti : (i : Int) < (n : Int) := by omega
      go_wp2
      generalize wr = wo at *
      go_loopw [4] (fun ix wr => ∃ k : Nat, k ≤ i ∧ ix = .int .i64 (k : Int) ∧ Hid (∀ p, p < k → sameS ((sts xs).getD i St.no) ((sts xs).getD p St.no) = false) ∧ Hid (∃ q, wr = w.drewN q)) (fun ix _ => i - (intOf ix).toNat)
      case atStart => exact ⟨0, Nat.zero_le _, rfl, (fun p hp => by omega), HQ.out⟩
      case round =>
        obtain ⟨k, hk, rfl, HTK, HQ2⟩ := hrel
        by_cases hlk : k < i
        · have hlki : (k : Int) < (i : Int) := by omega
          obtain ⟨b1, o1, rfl, _, _⟩ := HA.out.at (by omega)
          have HAW : Hid (Ss wr (some ⟨b1, o1, none⟩) n cap xs) := HA.out.drawn HQ2.out
          obtain ⟨g, hg⟩ : ∃ g, sameS ((sts xs).getD i St.no) ((sts xs).getD k St.no) = g := ⟨_, rfl⟩
          have HG := Lib.hid hg
          have HGG : Hid (g = true ↔ sts [xs.getD i Sw.no] = sts [xs.getD k Sw.no]) := by
            show _ ↔ _
            rw [← hg, sameS_iff, sts_at, sts_at]
            simp [sts]
          have hw1 : IntKind.i64.wrap ((i : Int) + 1) = (i : Int) + 1 := by rw [IntKind.wrap_i64]; omega
          have hw2 : IntKind.i64.wrap ((k : Int) + 1) = (k : Int) + 1 := by rw [IntKind.wrap_i64]; omega
          have hi0 : (0 : Int) ≤ (i : Int) := by omega
          have hk0 : (0 : Int) ≤ (k : Int) := by omega
          have hi1 : (i : Int) ≤ (i : Int) + 1 := by omega
          have hk1 : (k : Int) ≤ (k : Int) + 1 := by omega
          have hi2 : (i : Int) + 1 ≤ (cap : Int) := by omega
          have hk2 : (k : Int) + 1 ≤ (cap : Int) := by omega
          have hci : ¬ cap = i := by omega
          have hck : ¬ cap = k := by omega
          have HMI : Hid (Ss wr (some ⟨b1, o1 + i * 2, none⟩) 1 (cap - i) [xs.getD i Sw.no]) := HAW.out.mid (i := i) hlt rfl rfl rfl
          have HMK : Hid (Ss wr (some ⟨b1, o1 + k * 2, none⟩) 1 (cap - k) [xs.getD k Sw.no]) := HAW.out.mid (i := k) (by omega) rfl rfl rfl
          clear hg
          cases g
          · go_wp2
            go_quiet ((go_at_call 13; exact Calls.quiet_of (rsame10_any _ _ _ _ _ _ _ _ false _ (Ss.drawn HMI.out ⟨_, rfl⟩) (Ss.drawn HMK.out ⟨_, rfl⟩) HGG.out)))
            go_wp2
            go_roundw
            case rel =>
              refine ⟨k + 1, by omega, by go_num, fun p hp => ?_, drew_next HQ2.out _⟩
              rcases Nat.lt_or_ge p k with h | h
              · exact HTK.out p h
              · rw [show p = k by omega]; exact HG.out
            case measure => simp [intOf]; omega
          · have hfin : r = false := by
              rw [← HR.out]
              unfold least
              have : unlike (sts xs) = false := by
                cases hc : unlike (sts xs) with
                | false => rfl
                | true =>
                  have := unlike_pairs.1 hc i (by rw [HL.out]; exact hlt) k hlk
                  rw [HG.out] at this; cases this
              rw [this]; rfl
            subst hfin
            have HEQ : Hid (sts [xs.getD i Sw.no] = sts [xs.getD k Sw.no]) := HGG.out.1 rfl
            go_wp2
            go_quiet ((go_at_call 13; exact Calls.quiet_of (rsame10_any _ _ _ _ _ _ _ _ true _ (Ss.drawn HMI.out ⟨_, rfl⟩) (Ss.drawn HMK.out ⟨_, rfl⟩) ⟨fun _ => HEQ.out, fun _ => rfl⟩)))
            go_wp2
            go_ret
            exact ⟨rfl, below_drawn (Below.refl _ _) (drew_next HQ2.out _)⟩
        · obtain rfl : i = k := by omega
          go_wp2
          go_roundw
          case rel =>
            refine ⟨i + 1, by omega, by go_num, fun q hq => ?_, HQ2.out⟩
            rcases Nat.lt_or_ge q i with h | h
            · exact HT.out q h
            · rw [show q = i by omega]; exact HTK.out
          case measure => simp [intOf]; omega
    · obtain rfl : i = n := by omega
      obtain ⟨ok, hok⟩ : ∃ b, check (sts xs) = b := ⟨_, rfl⟩
      have hfin : r = ok := by
        rw [← HR.out]
        unfold least
        rw [unlike_pairs.2 (by rw [HL.out]; exact HT.out), hok]; rfl
      subst hfin
      have HOK := Lib.hid hok
      clear hok
      go_wp2_with fail
      refine (rcheck10_is a i cap xs r wr (HA.out.drawn HQ.out) HOK.out).mono ?_
      rintro e w1 ⟨rfl, hb1⟩
      have HB1 : Hid (Below w.heap.size w w1) := (below_drawn (Below.refl _ _) HQ.out).trans (hb1.mono (by obtain ⟨q, rfl⟩ := HQ.out; exact Nat.le_refl _))
      clear hb1
      go_wp2
      go_ret
      exact ⟨rfl, HB1.out⟩

end Go.Proofs.Ytgbiobhladeooaa
