/- The document's Common, Less and Find of layer 3. They read alone. -/
import Derived.Test.YtehdojhblekgeaaOrderWalkD
import Derived.Test.YtehdojhblekgeaaOrderRLess
namespace Go.Proofs.Ytehdojhblekgeaa
open Go.RowKit

set_option maxRecDepth 100000 in
theorem cnt_snoc {l : List (List Int)} {z w : List Int} {j : Nat} (hj : j < l.length) (hz : l.getD j [] = z) : cnt (l.take (j + 1)) w = cnt (l.take j) w + (if lessL z w then 1 else 0) := by
  have e : l[j] = z := by rw [← hz]; simp [hj]
  unfold cnt
  rw [List.take_succ_eq_append_getElem hj, List.countP_append, e]
  simp [List.countP_cons]
set_option maxRecDepth 100000 in
theorem mem_snoc {l : List (List Int)} {z w : List Int} {j : Nat} (hj : j < l.length) (hz : l.getD j [] = z) : decide (w ∈ l.take (j + 1)) = (decide (w ∈ l.take j) || decide (z = w)) := by
  have e : l[j] = z := by rw [← hz]; simp [hj]
  rw [List.take_succ_eq_append_getElem hj, e, ← Bool.decide_or]
  congr 1
  simp only [List.mem_append, List.mem_singleton, eq_iff_iff]
  constructor
  · rintro (h | h)
    · exact .inl h
    · exact .inr h.symm
  · rintro (h | h)
    · exact .inl h
    · exact .inr h.symm

set_option maxRecDepth 100000 in
set_option maxHeartbeats 1600000 in
theorem rfind_is (a b : Option Addr) (n m cap cap2 : Nat) (xs : List Wd) (zs : List Int) (k : Nat) (r : Bool) (w : World) (ha : Ws w a n cap xs) (hb : Sl .i64 w b m cap2 zs)
    (hk : cnt (nums xs) zs = k) (h : decide (zs ∈ nums xs) = r) :
    Calls Try.prog 45 #[.slice a n cap, .slice b m cap2] w fun e w' => e = .returned (.tuple #[.int .i64 (k : Nat), .bool r]) ∧ ∃ q, w' = w.drewN q := by
  subst hk h
  have hnc := ha.2.1
  have hcm := ha.2.2.1
  unfold maxLen at hcm
  have HA := Lib.hid ha
  have HB := Lib.hid hb
  clear ha hb
  go_enter Try.func45, Try.ntmps45
  go_wp2
  go_loopw [6, 7, 8] (fun nv bv ix wr => ∃ (j c : Nat) (g : Bool), j ≤ n ∧ c ≤ j ∧ ix = .int .i64 (j : Int) ∧ nv = .int .i64 (c : Int) ∧ bv = .bool g ∧ Hid (cnt ((nums xs).take j) zs = c) ∧ Hid (decide (zs ∈ (nums xs).take j) = g) ∧ Hid (∃ q, wr = w.drewN q)) (fun _ _ ix _ => n - (intOf ix).toNat)
  case atStart => exact ⟨0, 0, false, Nat.zero_le _, Nat.le_refl _, rfl, rfl, rfl, rfl, (by show decide _ = _; simp), ⟨0, rfl⟩⟩
  case round =>
    obtain ⟨j, c, g, hj, hcj, rfl, rfl, rfl, HC, HG, HQ⟩ := hrel
    by_cases hlt : j < n
    · obtain ⟨b1, o1, a3, n3, c3, z3, rfl, _, _, hx1, hs1, hz1⟩ := (HA.out.drawn HQ.out).one j hlt
      have hS := HB.out.drawn HQ.out
      have hjl : j < (nums xs).length := by rw [nums_length, HA.out.1]; exact hlt
      have hcn := cnt_snoc (w := zs) hjl hz1
      have hmm := mem_snoc (w := zs) hjl hz1
      rw [HC.out] at hcn
      rw [HG.out] at hmm
      have HS1 := Lib.hid hs1
      have HS := Lib.hid hS
      have hlti : (j : Int) < (n : Int) := by omega
      obtain ⟨rl, hrl⟩ : ∃ rl, lessL z3 zs = rl := ⟨_, rfl⟩
      obtain ⟨re, hre⟩ : ∃ re, decide (z3 = zs) = re := ⟨_, rfl⟩
      rw [hrl] at hcn
      rw [hre] at hmm
      have HRL := Lib.hid hrl
      have HRE := Lib.hid hre
      have HCN := Lib.hid hcn
      have HMM := Lib.hid hmm
      clear hs1 hz1 hS hjl hcn hmm hrl hre HC HG
      cases rl
      · cases g
        · go_wp2_with (first | (go_at_call 43; refine (rless_is _ _ _ _ _ _ z3 zs false _ HS1.out HS.out HRL.out).mono ?_; rintro e w1 ⟨rfl, q1, rfl⟩) | (go_at_call 27; refine (same_is _ _ _ _ _ _ z3 zs re _ (HS1.out.drewN _) (HS.out.drewN _) HRE.out).mono ?_; rintro e w1 ⟨rfl, q2, rfl⟩))
          go_roundw
          case rel => exact ⟨j + 1, c, re, by omega, by omega, by go_num, by go_num, rfl, HCN.out, HMM.out.trans (by simp), (by obtain ⟨q, hq⟩ := HQ.out; exact ⟨q + (q1 + q2), by rw [hq, World.drewN_drewN]⟩)⟩
          case measure => simp [intOf]; omega
        · go_wp2_with (first | (go_at_call 43; refine (rless_is _ _ _ _ _ _ z3 zs false _ HS1.out HS.out HRL.out).mono ?_; rintro e w1 ⟨rfl, q1, rfl⟩))
          go_roundw
          case rel => exact ⟨j + 1, c, true, by omega, by omega, by go_num, by go_num, rfl, HCN.out, HMM.out.trans (by simp), (by obtain ⟨q, hq⟩ := HQ.out; exact ⟨q + q1, by rw [hq, World.drewN_drewN]⟩)⟩
          case measure => simp [intOf]; omega
      · cases g
        · go_wp2_with (first | (go_at_call 43; refine (rless_is _ _ _ _ _ _ z3 zs true _ HS1.out HS.out HRL.out).mono ?_; rintro e w1 ⟨rfl, q1, rfl⟩) | (go_at_call 27; refine (same_is _ _ _ _ _ _ z3 zs re _ (HS1.out.drewN _) (HS.out.drewN _) HRE.out).mono ?_; rintro e w1 ⟨rfl, q2, rfl⟩))
          go_roundw
          case rel => exact ⟨j + 1, c + 1, re, by omega, by omega, by go_num, by go_num, rfl, HCN.out, HMM.out.trans (by simp), (by obtain ⟨q, hq⟩ := HQ.out; exact ⟨q + (q1 + q2), by rw [hq, World.drewN_drewN]⟩)⟩
          case measure => simp [intOf]; omega
        · go_wp2_with (first | (go_at_call 43; refine (rless_is _ _ _ _ _ _ z3 zs true _ HS1.out HS.out HRL.out).mono ?_; rintro e w1 ⟨rfl, q1, rfl⟩))
          go_roundw
          case rel => exact ⟨j + 1, c + 1, true, by omega, by omega, by go_num, by go_num, rfl, HCN.out, HMM.out.trans (by simp), (by obtain ⟨q, hq⟩ := HQ.out; exact ⟨q + q1, by rw [hq, World.drewN_drewN]⟩)⟩
          case measure => simp [intOf]; omega
    · have hfin : (nums xs).take j = nums xs := List.take_of_length_le (by rw [nums_length, HA.out.1]; omega)
      rw [hfin] at HC HG
      clear hfin
      go_wp2
      go_ret2
      exact ⟨by rw [HC.out, HG.out]; rfl, HQ.out⟩

end Go.Proofs.Ytehdojhblekgeaa
