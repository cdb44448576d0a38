/- sort.partitionEqual_func, partition_func, over a function that may make memory. -/
import Derived.Test.YtgbiobhladeooaaPackG
import Derived.Sort.WalkC
import Derived.Sort.WalkC4
namespace Go.Proofs.Ytgbiobhladeooaa
open Go.RowKit Go.Lib Go.Sort

variable {α : Type} [Inhabited α] {enc : α → List Value} {k blk off n g sf : Nat} {lb sb : Array Value} {lt : α → α → Bool} {w : World}

set_option maxHeartbeats 6400000 in
set_option maxRecDepth 100000 in
theorem partitionEqual_is (S : Srt Try.prog enc k lt g lb sf sb blk off n w) (a b pivot : Nat) (D : Array α) (W : World) (hA : AtK enc k w blk off D W) (hD : D.size = n) (hap : a ≤ pivot) (hpb : pivot < b) (hb : b ≤ n) {r : Nat × Array α} (hr : partitionEqual lt D a b pivot = r) :
    Calls Try.prog 102 #[.agg #[.func (.func g) #[] lb, .func (.func sf) #[] sb], .int .i64 (a : Int), .int .i64 (b : Int), .int .i64 (pivot : Int)] W fun e w' => e = .returned (.int .i64 (r.1 : Int)) ∧ Post enc k blk off n w W r.2 w' := by
  have HS := Lib.hid S
  have eg := S.eg
  have hn := S.few
  have hm0 := Mid.start S hA hD 113
  have HST := Lib.hid hm0
  have c0 := hm0.fn
  have d0 := hm0.sw
  obtain ⟨w1, hs1, hm1⟩ := Mid.swap S hm0 a pivot (by omega) (by omega) (I := (a : Int)) (J := (pivot : Int)) rfl rfl
  have HM1 := Lib.hid hm1
  have c1 := hm1.fn
  have d1 := hm1.sw
  have HR : Hid (partEqLoop lt a (a + 1) (b - 1) (swp D a pivot) = r) := Lib.hid hr
  clear S hA hD hm0 hm1 hr
  go_enter Try.func102, Try.ntmps102
  go_wp2
  go_loopw [9, 10] (fun vi vj wr => ∃ (i j : Nat) (dk : Array α), vi = .int .i64 (i : Int) ∧ vj = .int .i64 (j : Int) ∧ a < i ∧ i ≤ j + 1 ∧ j < b ∧ Hid (Mid enc k g lb sf sb blk off n w W dk wr) ∧ Hid (partEqLoop lt a i j dk = r)) (fun vi vj _ => (intOf vj).toNat + 1 - (intOf vi).toNat)
  case atStart => exact ⟨a + 1, b - 1, swp D a pivot, by go_num, by go_num, by omega, by omega, by omega, HM1, HR⟩
  case round =>
    obtain ⟨i, j, dk, rfl, rfl, hai, hij, hjb, HM, HE⟩ := hrel
    clear c0 d0 hs1 c1 d1
    go_wp2
    generalize wr = wq at *
    go_loopw [9] (fun vi wr => ∃ (ix : Nat), vi = .int .i64 (ix : Int) ∧ i ≤ ix ∧ ix ≤ j + 1 ∧ Hid (Mid enc k g lb sf sb blk off n w W dk wr) ∧ Hid (scanUp (fun x => !lt dk[a]! x) dk (j) ix = scanUp (fun x => !lt dk[a]! x) dk (j) (i))) (fun vi _ => (j) + 1 - (intOf vi).toNat)
    case atStart => exact ⟨i, by go_num, Nat.le_refl _, hij, HM, Lib.hid rfl⟩
    case round =>
      obtain ⟨ix, rfl, hiix, hijx, HUx, HSCx⟩ := hrel
      have cux := HUx.out.fn
      by_cases hlex : ix ≤ j
      · have hlezx : (ix : Int) ≤ ((j : Nat) : Int) := by omega
        cases hlvx : lt dk[a]! dk[ix]! with
        | false =>
          have HLVx := Lib.hid hlvx
          clear hlvx
          go_wp2_with (go_at_fn g; refine (Mid.less HS.out HUx.out (a) (ix) (by omega) (by omega) (I := (a : Int)) (J := (ix : Int)) (by omega) (by omega) HLVx.out).mono ?_; rintro e w_HUxa ⟨rfl, hm_HUxa⟩; have HUxa := Lib.hid hm_HUxa; have c_HUxa := hm_HUxa.fn; have d_HUxa := hm_HUxa.sw; clear hm_HUxa)
          go_roundw
          case rel => exact ⟨ix + 1, by go_num, by omega, by omega, HUxa, Lib.hid ((scanUp_go (fun x => !lt dk[a]! x) dk (j) ix hlex (by simp [HLVx.out])).symm.trans HSCx.out)⟩
          case measure => simp [intOf]; omega
        | true =>
          have HIx : Hid (ix = scanUp (fun x => !lt dk[a]! x) dk (j) (i)) := Lib.hid ((scanUp_end (fun x => !lt dk[a]! x) dk (j) ix (.inr (by simp [hlvx]))).symm.trans HSCx.out)
          have HLVx := Lib.hid hlvx
          clear hlvx
          go_wp2_with (go_at_fn g; refine (Mid.less HS.out HUx.out (a) (ix) (by omega) (by omega) (I := (a : Int)) (J := (ix : Int)) (by omega) (by omega) HLVx.out).mono ?_; rintro e w_HUxa ⟨rfl, hm_HUxa⟩; have HUxa := Lib.hid hm_HUxa; have c_HUxa := hm_HUxa.fn; have d_HUxa := hm_HUxa.sw; clear hm_HUxa)
          generalize wr = wox at *
          go_loopw [10] (fun vj wr => ∃ (jx : Nat), vj = .int .i64 (jx : Int) ∧ jx ≤ j ∧ ix ≤ jx + 1 ∧ Hid (Mid enc k g lb sf sb blk off n w W dk wr) ∧ Hid (scanDown (fun x => lt dk[a]! x) dk ix jx = scanDown (fun x => lt dk[a]! x) dk ix (j))) (fun vj _ => (intOf vj).toNat)
          case atStart => exact ⟨j, by go_num, Nat.le_refl _, hijx, HUxa, Lib.hid rfl⟩
          case round =>
            obtain ⟨jx, rfl, hjjx, hij2x, HVx, HSDx⟩ := hrel
            have cvx := HVx.out.fn
            have dvx := HVx.out.sw
            by_cases hle2x : ix ≤ jx
            · have hle2zx : (ix : Int) ≤ (jx : Int) := by omega
              cases hlv2x : lt dk[a]! dk[jx]! with
              | true =>
                have HLWx := Lib.hid hlv2x
                clear hlv2x
                go_wp2_with (go_at_fn g; refine (Mid.less HS.out HVx.out (a) (jx) (by omega) (by omega) (I := (a : Int)) (J := (jx : Int)) (by omega) (by omega) HLWx.out).mono ?_; rintro e w_HVxa ⟨rfl, hm_HVxa⟩; have HVxa := Lib.hid hm_HVxa; have c_HVxa := hm_HVxa.fn; have d_HVxa := hm_HVxa.sw; clear hm_HVxa)
                go_roundw
                case rel => exact ⟨jx - 1, by go_num, by omega, by omega, HVxa, Lib.hid ((scanDown_go (fun x => lt dk[a]! x) dk ix jx hle2x (by omega) (by simp [HLWx.out])).symm.trans HSDx.out)⟩
                case measure => simp [intOf]; omega
              | false =>
                have HJx : Hid (jx = scanDown (fun x => lt dk[a]! x) dk ix (j)) := Lib.hid ((scanDown_end (fun x => lt dk[a]! x) dk ix jx (.inr (by simp [hlv2x]))).symm.trans HSDx.out)
                have HLWx := Lib.hid hlv2x
                clear hlv2x
                have hltx := scans_lt lt a (i) (j) dk (by omega) HIx.out HJx.out hle2x
                have hgtzx : ¬ ((ix : Int) > (jx : Int)) := by omega
                have hgtz'x : ¬ ((jx : Int) < (ix : Int)) := by omega
                go_wp2_with (go_at_fn g; refine (Mid.less HS.out HVx.out (a) (jx) (by omega) (by omega) (I := (a : Int)) (J := (jx : Int)) (by omega) (by omega) HLWx.out).mono ?_; rintro e w_HVxa ⟨rfl, hm_HVxa⟩; have HVxa := Lib.hid hm_HVxa; have c_HVxa := hm_HVxa.fn; have d_HVxa := hm_HVxa.sw; obtain ⟨w_HX, hs_HX, hm_HX⟩ := Mid.swap HS.out hm_HVxa (ix) (jx) (by omega) (by omega) (I := (ix : Int)) (J := (jx : Int)) (by omega) (by omega); have HX := Lib.hid hm_HX; have c_HX := hm_HX.fn; have d_HX := hm_HX.sw; clear hm_HX; clear hm_HVxa)
                go_roundw
                case rel => exact ⟨ix + 1, jx - 1, swp dk ix jx, by go_num, by go_num, by omega, by omega, by omega, HX, Lib.hid (by rw [← HE.out, partEq_go lt a i j dk HIx.out HJx.out (by omega)])⟩
                case measure => simp [intOf]; omega
            · have hle2zx : ¬ (ix : Int) ≤ (jx : Int) := by omega
              have HJx : Hid (jx = scanDown (fun x => lt dk[a]! x) dk ix (j)) := Lib.hid ((scanDown_end (fun x => lt dk[a]! x) dk ix jx (.inl hle2x)).symm.trans HSDx.out)
              have hgtzx : (ix : Int) > (jx : Int) := by omega
              go_wp2
              go_ret
              rw [← HE.out, partEq_break lt a i j dk HIx.out HJx.out (by omega)]
              exact ⟨rfl, HVx.out.1⟩
      · have hlezx : ¬ (ix : Int) ≤ ((j : Nat) : Int) := by omega
        have HIx : Hid (ix = scanUp (fun x => !lt dk[a]! x) dk (j) (i)) := Lib.hid ((scanUp_end (fun x => !lt dk[a]! x) dk (j) ix (.inl hlex)).symm.trans HSCx.out)
        go_wp2
        generalize wr = wox at *
        go_loopw [10] (fun vj wr => vj = .int .i64 ((j : Nat) : Int) ∧ Hid (Mid enc k g lb sf sb blk off n w W dk wr)) (fun vj _ => 0)
        case atStart => exact ⟨by go_num, HUx⟩
        case round =>
          obtain ⟨rfl, HVx⟩ := hrel
          have cvx := HVx.out.fn
          have dvx := HVx.out.sw
          have HJx : Hid (j = scanDown (fun x => lt dk[a]! x) dk ix (j)) := Lib.hid (scanDown_end (fun x => lt dk[a]! x) dk ix (j) (.inl hlex)).symm
          have hgtzx : (ix : Int) > ((j : Nat) : Int) := by omega
          go_wp2
          go_ret
          rw [← HE.out, partEq_break lt a i j dk HIx.out HJx.out (by omega)]
          exact ⟨rfl, HVx.out.1⟩

set_option maxHeartbeats 12800000 in
set_option maxRecDepth 100000 in
theorem partition_is (S : Srt Try.prog enc k lt g lb sf sb blk off n w) (a b pivot : Nat) (D : Array α) (W : World) (hA : AtK enc k w blk off D W) (hD : D.size = n) (hap : a ≤ pivot) (hpb : pivot < b) (hb : b ≤ n) {r : Nat × Bool × Array α} (hr : partition lt D a b pivot = r) :
    Calls Try.prog 103 #[.agg #[.func (.func g) #[] lb, .func (.func sf) #[] sb], .int .i64 (a : Int), .int .i64 (b : Int), .int .i64 (pivot : Int)] W fun e w' => e = .returned (.tuple #[.int .i64 (r.1 : Int), .bool r.2.1]) ∧ Post enc k blk off n w W r.2.2 w' := by
  have HS := Lib.hid S
  have eg := S.eg
  have hn := S.few
  have hm0 := Mid.start S hA hD 113
  have c0 := hm0.fn
  have d0 := hm0.sw
  obtain ⟨w1, hs1, hm1⟩ := Mid.swap S hm0 a pivot (by omega) (by omega) (I := (a : Int)) (J := (pivot : Int)) rfl rfl
  obtain ⟨D1, hD1⟩ : ∃ D1, D1 = swp D a pivot := ⟨_, rfl⟩
  rw [← hD1] at hm1
  have HM1 := Lib.hid hm1
  have HD1 := Lib.hid hD1
  have c1 := hm1.fn
  have d1 := hm1.sw
  have HR := Lib.hid hr
  obtain ⟨i0, hi0⟩ : ∃ i0, i0 = a + 1 := ⟨_, rfl⟩
  obtain ⟨j0, hj0⟩ : ∃ j0, j0 = b - 1 := ⟨_, rfl⟩
  have HI0 := Lib.hid hi0
  have HJ0 := Lib.hid hj0
  have hij0 : i0 ≤ j0 + 1 := by omega
  have hai0 : a < i0 := by omega
  have hjb0 : j0 < b := by omega
  have hi0z : (a : Int) + 1 = (i0 : Int) := by omega
  have hj0z : (b : Int) - 1 = (j0 : Int) := by omega
  clear S hA hD hm0 hm1 hr hD1 hi0 hj0
  go_enter Try.func103, Try.ntmps103
  go_wp2
  clear hs1 c0 d0
  go_loopw [10] (fun vi wr => ∃ (ix : Nat), vi = .int .i64 (ix : Int) ∧ i0 ≤ ix ∧ ix ≤ j0 + 1 ∧ Hid (Mid enc k g lb sf sb blk off n w W D1 wr) ∧ Hid (scanUp (fun x => lt x D1[a]!) D1 (j0) ix = scanUp (fun x => lt x D1[a]!) D1 (j0) (i0))) (fun vi _ => (j0) + 1 - (intOf vi).toNat)
  case atStart => exact ⟨i0, by go_num, Nat.le_refl _, hij0, HM1, Lib.hid rfl⟩
  case round =>
    obtain ⟨ix, rfl, hiix, hijx, HUx, HSCx⟩ := hrel
    have cux := HUx.out.fn
    by_cases hlex : ix ≤ j0
    · have hlezx : (ix : Int) ≤ ((j0 : Nat) : Int) := by omega
      cases hlvx : lt D1[ix]! D1[a]! with
      | true =>
        have HLVx := Lib.hid hlvx
        clear hlvx
        go_wp2_with (go_at_fn g; refine (Mid.less HS.out HUx.out (ix) (a) (by omega) (by omega) (I := (ix : Int)) (J := (a : Int)) (by omega) (by omega) HLVx.out).mono ?_; rintro e w_HUxa ⟨rfl, hm_HUxa⟩; have HUxa := Lib.hid hm_HUxa; have c_HUxa := hm_HUxa.fn; have d_HUxa := hm_HUxa.sw; clear hm_HUxa)
        go_roundw
        case rel => exact ⟨ix + 1, by go_num, by omega, by omega, HUxa, Lib.hid ((scanUp_go (fun x => lt x D1[a]!) D1 (j0) ix hlex (by simp [HLVx.out])).symm.trans HSCx.out)⟩
        case measure => simp [intOf]; omega
      | false =>
        have HIx : Hid (ix = scanUp (fun x => lt x D1[a]!) D1 (j0) (i0)) := Lib.hid ((scanUp_end (fun x => lt x D1[a]!) D1 (j0) ix (.inr (by simp [hlvx]))).symm.trans HSCx.out)
        have HLVx := Lib.hid hlvx
        clear hlvx
        go_wp2_with (go_at_fn g; refine (Mid.less HS.out HUx.out (ix) (a) (by omega) (by omega) (I := (ix : Int)) (J := (a : Int)) (by omega) (by omega) HLVx.out).mono ?_; rintro e w_HUxa ⟨rfl, hm_HUxa⟩; have HUxa := Lib.hid hm_HUxa; have c_HUxa := hm_HUxa.fn; have d_HUxa := hm_HUxa.sw; clear hm_HUxa)
        generalize wr = wox at *
        go_loopw [11] (fun vj wr => ∃ (jx : Nat), vj = .int .i64 (jx : Int) ∧ jx ≤ j0 ∧ ix ≤ jx + 1 ∧ Hid (Mid enc k g lb sf sb blk off n w W D1 wr) ∧ Hid (scanDown (fun x => !lt x D1[a]!) D1 ix jx = scanDown (fun x => !lt x D1[a]!) D1 ix (j0))) (fun vj _ => (intOf vj).toNat)
        case atStart => exact ⟨j0, by go_num, Nat.le_refl _, hijx, HUxa, Lib.hid rfl⟩
        case round =>
          obtain ⟨jx, rfl, hjjx, hij2x, HVx, HSDx⟩ := hrel
          have cvx := HVx.out.fn
          have dvx := HVx.out.sw
          by_cases hle2x : ix ≤ jx
          · have hle2zx : (ix : Int) ≤ (jx : Int) := by omega
            cases hlv2x : lt D1[jx]! D1[a]! with
            | false =>
              have HLWx := Lib.hid hlv2x
              clear hlv2x
              go_wp2_with (go_at_fn g; refine (Mid.less HS.out HVx.out (jx) (a) (by omega) (by omega) (I := (jx : Int)) (J := (a : Int)) (by omega) (by omega) HLWx.out).mono ?_; rintro e w_HVxa ⟨rfl, hm_HVxa⟩; have HVxa := Lib.hid hm_HVxa; have c_HVxa := hm_HVxa.fn; have d_HVxa := hm_HVxa.sw; clear hm_HVxa)
              go_roundw
              case rel => exact ⟨jx - 1, by go_num, by omega, by omega, HVxa, Lib.hid ((scanDown_go (fun x => !lt x D1[a]!) D1 ix jx hle2x (by omega) (by simp [HLWx.out])).symm.trans HSDx.out)⟩
              case measure => simp [intOf]; omega
            | true =>
              have HJx : Hid (jx = scanDown (fun x => !lt x D1[a]!) D1 ix (j0)) := Lib.hid ((scanDown_end (fun x => !lt x D1[a]!) D1 ix jx (.inr (by simp [hlv2x]))).symm.trans HSDx.out)
              have HLWx := Lib.hid hlv2x
              clear hlv2x
              have hltx := part_scans_lt lt a (i0) (j0) D1 (by omega) HIx.out HJx.out hle2x
              have hgtzx : ¬ ((ix : Int) > (jx : Int)) := by omega
              have hgtz'x : ¬ ((jx : Int) < (ix : Int)) := by omega
              have HF := Lib.hid (part_first_go lt D a b pivot HI0.out HJ0.out HD1.out HIx.out HJx.out (by omega))
              obtain ⟨R, hR⟩ : ∃ R, partLoop lt a (ix + 1) (jx - 1) (swp D1 ix jx) = R := ⟨_, rfl⟩
              rw [hR] at HF
              have HRR := Lib.hid hR
              clear hR
              go_wp2_with (go_at_fn g; refine (Mid.less HS.out HVx.out (jx) (a) (by omega) (by omega) (I := (jx : Int)) (J := (a : Int)) (by omega) (by omega) HLWx.out).mono ?_; rintro e w_HVxa ⟨rfl, hm_HVxa⟩; have HVxa := Lib.hid hm_HVxa; have c_HVxa := hm_HVxa.fn; have d_HVxa := hm_HVxa.sw; obtain ⟨w_HX, hs_HX, hm_HX⟩ := Mid.swap HS.out hm_HVxa (ix) (jx) (by omega) (by omega) (I := (ix : Int)) (J := (jx : Int)) (by omega) (by omega); have HX := Lib.hid hm_HX; have c_HX := hm_HX.fn; have d_HX := hm_HX.sw; clear hm_HX; clear hm_HVxa)
              generalize wr = wp at *
              have hgd : decide (jx < ix) = false := decide_eq_false (by omega)
              rw [hgd]
              go_loopw [10, 11] (fun vi vj wr => ∃ (i j : Nat) (dk : Array α), vi = .int .i64 (i : Int) ∧ vj = .int .i64 (j : Int) ∧ a < i ∧ i ≤ j + 1 ∧ j < b ∧ Hid (Mid enc k g lb sf sb blk off n w W dk wr) ∧ Hid (partLoop lt a i j dk = R)) (fun vi vj _ => (intOf vj).toNat + 1 - (intOf vi).toNat)
              case atStart => exact ⟨ix + 1, jx - 1, swp D1 ix jx, by go_num, by go_num, by omega, by omega, by omega, HX, HRR⟩
              case round =>
                obtain ⟨i, j, dk, rfl, rfl, hai, hij, hjb, HM, HE⟩ := hrel
                clear hs_HX c_HX d_HX
                go_wp2
                generalize wr = wq at *
                go_loopw [10] (fun vi wr => ∃ (iy : Nat), vi = .int .i64 (iy : Int) ∧ i ≤ iy ∧ iy ≤ j + 1 ∧ Hid (Mid enc k g lb sf sb blk off n w W dk wr) ∧ Hid (scanUp (fun x => lt x dk[a]!) dk (j) iy = scanUp (fun x => lt x dk[a]!) dk (j) (i))) (fun vi _ => (j) + 1 - (intOf vi).toNat)
                case atStart => exact ⟨i, by go_num, Nat.le_refl _, hij, HM, Lib.hid rfl⟩
                case round =>
                  obtain ⟨iy, rfl, hiiy, hijy, HUy, HSCy⟩ := hrel
                  have cuy := HUy.out.fn
                  by_cases hley : iy ≤ j
                  · have hlezy : (iy : Int) ≤ ((j : Nat) : Int) := by omega
                    cases hlvy : lt dk[iy]! dk[a]! with
                    | true =>
                      have HLVy := Lib.hid hlvy
                      clear hlvy
                      go_wp2_with (go_at_fn g; refine (Mid.less HS.out HUy.out (iy) (a) (by omega) (by omega) (I := (iy : Int)) (J := (a : Int)) (by omega) (by omega) HLVy.out).mono ?_; rintro e w_HUya ⟨rfl, hm_HUya⟩; have HUya := Lib.hid hm_HUya; have c_HUya := hm_HUya.fn; have d_HUya := hm_HUya.sw; clear hm_HUya)
                      go_roundw
                      case rel => exact ⟨iy + 1, by go_num, by omega, by omega, HUya, Lib.hid ((scanUp_go (fun x => lt x dk[a]!) dk (j) iy hley (by simp [HLVy.out])).symm.trans HSCy.out)⟩
                      case measure => simp [intOf]; omega
                    | false =>
                      have HIy : Hid (iy = scanUp (fun x => lt x dk[a]!) dk (j) (i)) := Lib.hid ((scanUp_end (fun x => lt x dk[a]!) dk (j) iy (.inr (by simp [hlvy]))).symm.trans HSCy.out)
                      have HLVy := Lib.hid hlvy
                      clear hlvy
                      go_wp2_with (go_at_fn g; refine (Mid.less HS.out HUy.out (iy) (a) (by omega) (by omega) (I := (iy : Int)) (J := (a : Int)) (by omega) (by omega) HLVy.out).mono ?_; rintro e w_HUya ⟨rfl, hm_HUya⟩; have HUya := Lib.hid hm_HUya; have c_HUya := hm_HUya.fn; have d_HUya := hm_HUya.sw; clear hm_HUya)
                      generalize wr = woy at *
                      go_loopw [11] (fun vj wr => ∃ (jy : Nat), vj = .int .i64 (jy : Int) ∧ jy ≤ j ∧ iy ≤ jy + 1 ∧ Hid (Mid enc k g lb sf sb blk off n w W dk wr) ∧ Hid (scanDown (fun x => !lt x dk[a]!) dk iy jy = scanDown (fun x => !lt x dk[a]!) dk iy (j))) (fun vj _ => (intOf vj).toNat)
                      case atStart => exact ⟨j, by go_num, Nat.le_refl _, hijy, HUya, Lib.hid rfl⟩
                      case round =>
                        obtain ⟨jy, rfl, hjjy, hij2y, HVy, HSDy⟩ := hrel
                        have cvy := HVy.out.fn
                        have dvy := HVy.out.sw
                        by_cases hle2y : iy ≤ jy
                        · have hle2zy : (iy : Int) ≤ (jy : Int) := by omega
                          cases hlv2y : lt dk[jy]! dk[a]! with
                          | false =>
                            have HLWy := Lib.hid hlv2y
                            clear hlv2y
                            go_wp2_with (go_at_fn g; refine (Mid.less HS.out HVy.out (jy) (a) (by omega) (by omega) (I := (jy : Int)) (J := (a : Int)) (by omega) (by omega) HLWy.out).mono ?_; rintro e w_HVya ⟨rfl, hm_HVya⟩; have HVya := Lib.hid hm_HVya; have c_HVya := hm_HVya.fn; have d_HVya := hm_HVya.sw; clear hm_HVya)
                            go_roundw
                            case rel => exact ⟨jy - 1, by go_num, by omega, by omega, HVya, Lib.hid ((scanDown_go (fun x => !lt x dk[a]!) dk iy jy hle2y (by omega) (by simp [HLWy.out])).symm.trans HSDy.out)⟩
                            case measure => simp [intOf]; omega
                          | true =>
                            have HJy : Hid (jy = scanDown (fun x => !lt x dk[a]!) dk iy (j)) := Lib.hid ((scanDown_end (fun x => !lt x dk[a]!) dk iy jy (.inr (by simp [hlv2y]))).symm.trans HSDy.out)
                            have HLWy := Lib.hid hlv2y
                            clear hlv2y
                            have hlty := part_scans_lt lt a (i) (j) dk (by omega) HIy.out HJy.out hle2y
                            have hgtzy : ¬ ((iy : Int) > (jy : Int)) := by omega
                            have hgtz'y : ¬ ((jy : Int) < (iy : Int)) := by omega
                            go_wp2_with (go_at_fn g; refine (Mid.less HS.out HVy.out (jy) (a) (by omega) (by omega) (I := (jy : Int)) (J := (a : Int)) (by omega) (by omega) HLWy.out).mono ?_; rintro e w_HVya ⟨rfl, hm_HVya⟩; have HVya := Lib.hid hm_HVya; have c_HVya := hm_HVya.fn; have d_HVya := hm_HVya.sw; obtain ⟨w_HY, hs_HY, hm_HY⟩ := Mid.swap HS.out hm_HVya (iy) (jy) (by omega) (by omega) (I := (iy : Int)) (J := (jy : Int)) (by omega) (by omega); have HY := Lib.hid hm_HY; have c_HY := hm_HY.fn; have d_HY := hm_HY.sw; clear hm_HY; clear hm_HVya)
                            go_roundw
                            case rel => exact ⟨iy + 1, jy - 1, swp dk iy jy, by go_num, by go_num, by omega, by omega, by omega, HY, Lib.hid (by rw [← HE.out, part_go lt a i j dk HIy.out HJy.out (by omega)])⟩
                            case measure => simp [intOf]; omega
                        · have hle2zy : ¬ (iy : Int) ≤ (jy : Int) := by omega
                          have HJy : Hid (jy = scanDown (fun x => !lt x dk[a]!) dk iy (j)) := Lib.hid ((scanDown_end (fun x => !lt x dk[a]!) dk iy jy (.inl hle2y)).symm.trans HSDy.out)
                          have hgtzy : (iy : Int) > (jy : Int) := by omega
                          obtain ⟨w_HY, hs_HY, hm_HY⟩ := Mid.swap HS.out HVy.out (jy) (a) (by omega) (by omega) (I := (jy : Int)) (J := (a : Int)) (by omega) (by omega); have HY := Lib.hid hm_HY; have c_HY := hm_HY.fn; have d_HY := hm_HY.sw; clear hm_HY
                          go_wp2
                          go_ret2
                          rw [← HR.out, HF.out, ← HE.out, part_break lt a i j dk HIy.out HJy.out (by omega)]
                          exact ⟨rfl, HY.out.1⟩
                  · have hlezy : ¬ (iy : Int) ≤ ((j : Nat) : Int) := by omega
                    have HIy : Hid (iy = scanUp (fun x => lt x dk[a]!) dk (j) (i)) := Lib.hid ((scanUp_end (fun x => lt x dk[a]!) dk (j) iy (.inl hley)).symm.trans HSCy.out)
                    go_wp2
                    generalize wr = woy at *
                    go_loopw [11] (fun vj wr => vj = .int .i64 ((j : Nat) : Int) ∧ Hid (Mid enc k g lb sf sb blk off n w W dk wr)) (fun vj _ => 0)
                    case atStart => exact ⟨by go_num, HUy⟩
                    case round =>
                      obtain ⟨rfl, HVy⟩ := hrel
                      have cvy := HVy.out.fn
                      have dvy := HVy.out.sw
                      have HJy : Hid (j = scanDown (fun x => !lt x dk[a]!) dk iy (j)) := Lib.hid (scanDown_end (fun x => !lt x dk[a]!) dk iy (j) (.inl hley)).symm
                      have hgtzy : (iy : Int) > ((j : Nat) : Int) := by omega
                      obtain ⟨w_HY, hs_HY, hm_HY⟩ := Mid.swap HS.out HVy.out (j) (a) (by omega) (by omega) (I := (j : Int)) (J := (a : Int)) (by omega) (by omega); have HY := Lib.hid hm_HY; have c_HY := hm_HY.fn; have d_HY := hm_HY.sw; clear hm_HY
                      go_wp2
                      go_ret2
                      rw [← HR.out, HF.out, ← HE.out, part_break lt a i j dk HIy.out HJy.out (by omega)]
                      exact ⟨rfl, HY.out.1⟩
          · have hle2zx : ¬ (ix : Int) ≤ (jx : Int) := by omega
            have HJx : Hid (jx = scanDown (fun x => !lt x D1[a]!) D1 ix (j0)) := Lib.hid ((scanDown_end (fun x => !lt x D1[a]!) D1 ix jx (.inl hle2x)).symm.trans HSDx.out)
            have hgtzx : (ix : Int) > (jx : Int) := by omega
            obtain ⟨w_HX, hs_HX, hm_HX⟩ := Mid.swap HS.out HVx.out (jx) (a) (by omega) (by omega) (I := (jx : Int)) (J := (a : Int)) (by omega) (by omega); have HX := Lib.hid hm_HX; have c_HX := hm_HX.fn; have d_HX := hm_HX.sw; clear hm_HX
            go_wp2
            go_ret2
            rw [← HR.out, part_first_break lt D a b pivot HI0.out HJ0.out HD1.out HIx.out HJx.out (by omega)]
            exact ⟨rfl, HX.out.1⟩
    · have hlezx : ¬ (ix : Int) ≤ ((j0 : Nat) : Int) := by omega
      have HIx : Hid (ix = scanUp (fun x => lt x D1[a]!) D1 (j0) (i0)) := Lib.hid ((scanUp_end (fun x => lt x D1[a]!) D1 (j0) ix (.inl hlex)).symm.trans HSCx.out)
      go_wp2
      generalize wr = wox at *
      go_loopw [11] (fun vj wr => vj = .int .i64 ((j0 : Nat) : Int) ∧ Hid (Mid enc k g lb sf sb blk off n w W D1 wr)) (fun vj _ => 0)
      case atStart => exact ⟨by go_num, HUx⟩
      case round =>
        obtain ⟨rfl, HVx⟩ := hrel
        have cvx := HVx.out.fn
        have dvx := HVx.out.sw
        have HJx : Hid (j0 = scanDown (fun x => !lt x D1[a]!) D1 ix (j0)) := Lib.hid (scanDown_end (fun x => !lt x D1[a]!) D1 ix (j0) (.inl hlex)).symm
        have hgtzx : (ix : Int) > ((j0 : Nat) : Int) := by omega
        obtain ⟨w_HX, hs_HX, hm_HX⟩ := Mid.swap HS.out HVx.out (j0) (a) (by omega) (by omega) (I := (j0 : Int)) (J := (a : Int)) (by omega) (by omega); have HX := Lib.hid hm_HX; have c_HX := hm_HX.fn; have d_HX := hm_HX.sw; clear hm_HX
        go_wp2
        go_ret2
        rw [← HR.out, part_first_break lt D a b pivot HI0.out HJ0.out HD1.out HIx.out HJx.out (by omega)]
        exact ⟨rfl, HX.out.1⟩
end Go.Proofs.Ytgbiobhladeooaa
