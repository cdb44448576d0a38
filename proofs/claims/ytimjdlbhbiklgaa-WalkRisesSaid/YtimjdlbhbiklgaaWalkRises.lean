/- For every automaton, every word and every number, WalkRises answers true, and turns nothing that was there. No condition. -/
import Derived.Test.YtimjdlbhbiklgaaRows
import Derived.Test.YtimjdlbhbiklgaaWalkAwake
import Derived.Test.YtimjdlbhbiklgaaWalkFrom
import Derived.Test.YtimjdlbhbiklgaaWalkHas
import Derived.Test.YtimjdlbhbiklgaaPackA
import Derived.Test.YtimjdlbhbiklgaaWalkApp
import Derived.Test.YtimjdlbhbiklgaaTrieOpen
import Derived.Test.YtimjdlbhbiklgaaPackM
import Derived.Test.YtimjdlbhbiklgaaPackJ
import Derived.Test.YtimjdlbhbiklgaaPackN
import Derived.WalkKit
import Derived.ProofKit
import Derived.OpenShut
import Derived.ShutString
import Derived.ChangeOld
import Derived.Below
import Derived.Deep.Matrix
import Derived.SizedLaws
namespace Go.Proofs.Ytimjdlbhbiklgaa.walkRises
open Go.ChangeShapes Go.WideShapes Go.ChangeAt Go.RowKit
set_option linter.unusedVariables false

theorem own : ownKnob Try.prog.godebug = none := by kernel_rfl
theorem laidOut : laidOutB Try.prog = true := by kernel_rfl

/-- a slice of integers that came in -/
def IsRow (k : IntKind) (w : World) (a : Option Addr) (len cap : Nat) (zs : List Int) : Prop :=
  (a = none ∧ len = 0 ∧ cap = 0 ∧ zs = []) ∨
  ∃ x, a = some x ∧ len ≤ cap ∧ cap ≤ maxLen ∧ zs.length = cap ∧ (∀ i, i < zs.length → w.cell? (x.add i) = some (.int k (zs.getD i 0))) ∧ ∀ n ∈ zs, (Lit.int k n).wf = true

open Tri Wlk

/-! ### STEP 1: the walk -/
set_option maxHeartbeats 6400000 in
set_option maxRecDepth 100000 in
theorem walk (a0 : Option Addr) (len0 cap0 : Nat) (x0 : List Sw) (a1 : Option Addr) (len1 cap1 : Nat) (z1 : List Int) (a2 : Int) (w : World) (w0 : Ss w a0 len0 cap0 x0) (n0 : a0 = none → cap0 = 0) (w1 : IsRow .i64 w a1 len1 cap1 z1) (w2 : (Lit.int .u8 a2).wf = true) :
    Calls Try.prog 5 #[.slice a0 len0 cap0, .slice a1 len1 cap1, .int .u8 a2] w fun e w' => e = .returned (.bool true) ∧ Below w.heap.size w w' := by
  have hcm0 := w0.2.2.1
  have hnc0 := w0.2.1
  unfold maxLen at hcm0
  have HX0 := Lib.hid w0
  clear w0 n0
  have hn10 : a1 = none → cap1 = 0 := by
    rcases w1 with ⟨_, _, h, _⟩ | ⟨x, h, _⟩
    · exact fun _ => h
    · intro h'; rw [h] at h'; cases h'
  have HN1 := Lib.hid hn10
  clear hn10
  have hs1 := Sl.of_row w1
  generalize z1.take len1 = zs at hs1
  have hcm1 := hs1.2.2.1
  have hnc1 := hs1.2.1
  unfold maxLen at hcm1
  have HS1 := Lib.hid hs1
  have HLEN1 := Lib.hid hs1.1
  clear hs1 w1
  have hu2 := bounds_u8 w2
  obtain ⟨N, rfl⟩ : ∃ s : Nat, a2 = (s : Int) := ⟨a2.toNat, by omega⟩
  have hN1 : N < 256 := by omega
  have hvN : IntKind.i64.wrap (N : Int) = (N : Int) := by rw [IntKind.wrap_i64]; omega
  clear hu2 w2
  obtain ⟨⟨LA, ea⟩, hla⟩ : ∃ r, wordsC (sts x0) = r := ⟨_, rfl⟩
  obtain ⟨⟨LX, ex⟩, hlx⟩ : ∃ r, fromC (sts x0) zs (N : Int) = r := ⟨_, rfl⟩
  have HLA := Lib.hid hla
  have HLX := Lib.hid hlx
  have HFE := Lib.hid (from_err (by omega) hlx)
  have HWE := Lib.hid (words_err hla)
  have hib : (100 < len1 → (100 : Int) < (len1 : Int)) ∧ (len1 ≤ 100 → ¬ (100 : Int) < (len1 : Int)) := ⟨fun h => by omega, fun h => by omega⟩
  clear hla hlx
  go_enter Try.func5, Try.ntmps5
  go_wp2_with fail
  refine (awake_any _).mono ?_
  rintro e v1 ⟨rfl, B1⟩
  have S1 := Lib.hid (HX0.out.below B1 (Nat.le_refl _))
  have Z1 := Lib.hid (HS1.out.below B1 (Nat.le_refl _))
  go_wp2_with fail
  refine (rfew10_is a0 len0 cap0 x0 200 (by omega) v1 S1.out).mono ?_
  rintro e v2 ⟨he, hv2⟩
  obtain rfl := hv2.symm
  rcases he with rfl | ⟨rfl, hsh, hn200⟩
  · go_wp2
    go_ret
    exact ⟨rfl, B1⟩
  by_cases g1 : 100 < len1
  · have hi1 := hib.1 g1
    clear hib
    go_wp2
    go_ret
    exact ⟨rfl, B1⟩
  have hi1 := hib.2 (by omega)
  clear hib g1
  go_wp2_with fail
  refine (wwords_is a0 len0 cap0 x0 _ LA ea S1.out HLA.out).mono ?_
  rintro e v3 ⟨p3, k3, c3, o3, rfl, m3, n3, b3⟩
  have B3 := B1.trans (b3.mono B1.size)
  have S3 := Lib.hid (S1.out.below b3 (Nat.le_refl _))
  have Z3 := Lib.hid (Z1.out.below b3 (Nat.le_refl _))
  have hk3 : k3 = LA.length := by rw [← m3.len, ← nums_length, n3]
  have M3 := Lib.hid m3
  have N3 := Lib.hid n3
  have HK3 := Lib.hid hk3
  clear b3 m3 n3 hk3 S1 Z1
  simp only []
  go_wp2_with fail
  refine (wfrom_is a0 a1 len0 cap0 len1 cap1 x0 zs (N : Int) _ LX ex S3.out Z3.out HN1.out HLX.out).mono ?_
  rintro e v4 ⟨p4, k4, c4, o4, rfl, m4, n4, b4⟩
  have B4 := B3.trans (b4.mono B3.size)
  have S4 := Lib.hid (S3.out.below b4 (Nat.le_refl _))
  have Z4 := Lib.hid (Z3.out.below b4 (Nat.le_refl _))
  have M3 := Lib.hid (M3.out.below b4)
  have hk4 : k4 = LX.length := by rw [← m4.len, ← nums_length, n4]
  have M4 := Lib.hid m4
  have N4 := Lib.hid n4
  have HK4 := Lib.hid hk4
  have hkN : k4 ≤ 300 := by
    rcases HFE.out with ⟨_, _, h⟩ | ⟨_, _, h⟩
    · rw [hk4, h, List.length_take]; omega
    · rw [hk4, h]; simp
  clear b4 m4 n4 hk4 S3 Z3
  simp only []
  have hmx : Try.prog.follows .mixedOrders = true := by kernel_rfl
  go_wp2
  go_loopw [12] (fun ix wr => ∃ i : Nat, i ≤ k4 ∧ ix = .int .i64 (i : Int) ∧ Hid (Below v4.heap.size v4 wr)) (fun ix _ => k4 - (intOf ix).toNat)
  case atStart => exact ⟨0, Nat.zero_le _, rfl, Below.refl _ _⟩
  case round =>
    obtain ⟨i, hi, rfl, HB⟩ := hrel
    by_cases hlt : i < k4
    · have hck : check (sts x0) = true ∧ LX = (ge (sts x0) 0 zs).take N := by
        rcases HFE.out with ⟨_, h, h'⟩ | ⟨_, _, h⟩
        · exact ⟨h, h'⟩
        · have := HK4.out; rw [h, List.length_nil] at this; omega
      obtain ⟨hck, hLX⟩ := hck
      obtain ⟨b1, o1, za, zn, zc, z, rfl, hb1, hcl, hsl, hzi, hzn⟩ := M4.out.one i hlt
      have hzm : z ∈ LX := by rw [← hzi, N4.out]; exact Wlk.getD_mem (by have := HK4.out; omega)
      have hzg : z ∈ wds (sts x0) 0 ∧ lessL z zs = false := by rw [hLX] at hzm; exact mem_ge.1 (List.mem_of_mem_take hzm)
      have HHS := Lib.hid (mem_has hck hzg.1)
      have HLS := Lib.hid hzg.2
      have HSL := Lib.hid (hsl.below HB.out (Nat.le_refl _))
      have hcr := (HB.out.cell (p := ⟨b1, o1 + i, none⟩) hb1).trans hcl
      have SR := Lib.hid (S4.out.below HB.out (Nat.le_refl _))
      have ZR := Lib.hid (Z4.out.below HB.out (Nat.le_refl _))
      have HBD : Hid (Below wr.heap.size wr wr.drew) := below_drawn (Below.refl _ wr) ⟨1, rfl⟩
      have hlti : (i : Int) < (k4 : Int) := by omega
      have hi0 : (0 : Int) ≤ (i : Int) := by omega
      have hbr := HB.out.size
      rcases Nat.eq_zero_or_pos i with h0 | h0
      · subst h0
        have hd0 : decide (((0 : Nat) : Int) > 0) = false := by decide
        rw [Nat.add_zero] at hcr
        have KEEP : Hid (∀ W, Below wr.heap.size wr W → W.cell? ⟨b1, o1, none⟩ = some (.slice za zn zc)) := fun W hb => (hb.cell (p := ⟨b1, o1, none⟩) (by show b1 < _; omega)).trans hcr
        clear hck hLX hzm hzg hsl hzi hzn hcl hcr hbr hi
        go_wp2
        refine wp_region_held_drew (S := (fun W => W.cell? ⟨b1, o1, none⟩ = some (.slice za zn zc))) (by kernel_rfl) (by first | (first | exact KEEP.out _ HBD.out | exact KEEP.out _ HQ1.out | exact KEEP.out _ HQ2.out) | ((try dsimp only); first | exact KEEP.out _ HBD.out | exact KEEP.out _ HQ1.out | exact KEEP.out _ HQ2.out)) (fun hHeld => ?_)
        refine wpAnyH_take (i := 0) (v := ?vf1) rfl (by kernel_rfl) (by kernel_rfl) (by kernel_rfl) (fun _ _ _ h => h) (Or.inl ⟨by rfl, ?hf1⟩) (by assumption) ?rf1
        case hf1 => intro w hSw; (try dsimp only at hSw); go_simp; try with_reducible rfl
        simp only [Act.put, List.getElem_toArray, List.getElem_cons_succ, List.getElem_cons_zero, List.setIfInBounds_toArray, List.set_cons_succ, List.set_cons_zero]
        refine wpAnyH_take (i := 1) (v := ?vf4) rfl (by kernel_rfl) (by kernel_rfl) (by kernel_rfl) (fun _ _ _ h => h) (Or.inl ⟨by rfl, ?hf4⟩) (by assumption) ?rf4
        case hf4 => intro w hSw; (try dsimp only at hSw); go_simp; try with_reducible rfl
        simp only [Act.put, List.getElem_toArray, List.getElem_cons_succ, List.getElem_cons_zero, List.setIfInBounds_toArray, List.set_cons_succ, List.set_cons_zero]
        refine wpAnyH_take (i := 2) (v := ?vf7) rfl (by kernel_rfl) (by kernel_rfl) (by kernel_rfl) (fun _ _ _ h => h) (Or.inl ⟨by rfl, ?hf7⟩) (by assumption) ?rf7
        case hf7 => intro w hSw; (try dsimp only at hSw); go_simp; try with_reducible rfl
        simp only [Act.put, List.getElem_toArray, List.getElem_cons_succ, List.getElem_cons_zero, List.setIfInBounds_toArray, List.set_cons_succ, List.set_cons_zero]
        refine wpAnyH_take (i := 3) (v := ?vf10) rfl (by kernel_rfl) (by kernel_rfl) (by kernel_rfl) (fun _ _ _ h => h) (Or.inl ⟨by rfl, ?hf10⟩) (by assumption) ?rf10
        case hf10 => intro w hSw; (try dsimp only at hSw); go_simp; try with_reducible rfl
        simp only [Act.put, List.getElem_toArray, List.getElem_cons_succ, List.getElem_cons_zero, List.setIfInBounds_toArray, List.set_cons_succ, List.set_cons_zero]
        refine wpAnyH_take (i := 4) (v := ?vf13) rfl (by kernel_rfl) (by kernel_rfl) (by kernel_rfl) (fun _ _ _ h => h) (Or.inl ⟨by rfl, ?hf13⟩) (by assumption) ?rf13
        case hf13 => intro w hSw; (try dsimp only at hSw); go_simp; try with_reducible rfl
        simp only [Act.put, List.getElem_toArray, List.getElem_cons_succ, List.getElem_cons_zero, List.setIfInBounds_toArray, List.set_cons_succ, List.set_cons_zero]
        refine wpAnyH_ready (rs := [5]) (by kernel_rfl) (by simp) ?_
        refine AllReadyH.cons rfl (fun K hK => ?_) AllReadyH.nil
        go_simp
        go_at_call 15; refine (whas_is a0 za len0 cap0 zn zc x0 z _ true (SR.out.below HBD.out (Nat.le_refl _)) (HSL.out.below HBD.out (Nat.le_refl _)) HHS.out).mono ?_; rintro e q1 ⟨rfl, bq1⟩; have HQ1 : Hid (Below wr.heap.size wr q1) := HBD.out.trans (bq1.mono HBD.out.size); clear bq1
        refine hK.out _ _ (by first | (first | exact KEEP.out _ HBD.out | exact KEEP.out _ HQ1.out | exact KEEP.out _ HQ2.out) | ((try dsimp only); first | exact KEEP.out _ HBD.out | exact KEEP.out _ HQ1.out | exact KEEP.out _ HQ2.out)) (fun hHeld => ?_)
        clear hK K
        try simp only [Act.put, List.getElem_toArray, List.getElem_cons_succ, List.getElem_cons_zero, List.setIfInBounds_toArray, List.set_cons_succ, List.set_cons_zero]
        refine wpAnyH_take (i := 6) (v := ?vf23) rfl (by kernel_rfl) (by kernel_rfl) (by kernel_rfl) (fun _ _ _ h => h) (Or.inl ⟨by rfl, ?hf23⟩) (by assumption) ?rf23
        case hf23 => intro w hSw; (try dsimp only at hSw); go_simp; try with_reducible rfl
        simp only [Act.put, List.getElem_toArray, List.getElem_cons_succ, List.getElem_cons_zero, List.setIfInBounds_toArray, List.set_cons_succ, List.set_cons_zero]
        refine wpAnyH_take (i := 7) (v := ?vf26) rfl (by kernel_rfl) (by kernel_rfl) (by kernel_rfl) (fun _ _ _ h => h) (Or.inl ⟨by rfl, ?hf26⟩) (by assumption) ?rf26
        case hf26 => intro w hSw; (try dsimp only at hSw); go_simp; try with_reducible rfl
        simp only [Act.put, List.getElem_toArray, List.getElem_cons_succ, List.getElem_cons_zero, List.setIfInBounds_toArray, List.set_cons_succ, List.set_cons_zero]
        refine wpAnyH_take (i := 8) (v := ?vf29) rfl (by kernel_rfl) (by kernel_rfl) (by kernel_rfl) (fun _ _ _ h => h) (Or.inl ⟨by rfl, ?hf29⟩) (by assumption) ?rf29
        case hf29 => intro w hSw; (try dsimp only at hSw); go_simp; try with_reducible rfl
        simp only [Act.put, List.getElem_toArray, List.getElem_cons_succ, List.getElem_cons_zero, List.setIfInBounds_toArray, List.set_cons_succ, List.set_cons_zero]
        refine wpAnyH_take (i := 9) (v := ?vf32) rfl (by kernel_rfl) (by kernel_rfl) (by kernel_rfl) (fun _ _ _ h => h) (Or.inl ⟨by rfl, ?hf32⟩) (by assumption) ?rf32
        case hf32 => intro w hSw; (try dsimp only at hSw); go_simp; try with_reducible rfl
        simp only [Act.put, List.getElem_toArray, List.getElem_cons_succ, List.getElem_cons_zero, List.setIfInBounds_toArray, List.set_cons_succ, List.set_cons_zero]
        refine wpAnyH_take (i := 10) (v := ?vf35) rfl (by kernel_rfl) (by kernel_rfl) (by kernel_rfl) (fun _ _ _ h => h) (Or.inl ⟨by rfl, ?hf35⟩) (by assumption) ?rf35
        case hf35 => intro w hSw; (try dsimp only at hSw); go_simp; try with_reducible rfl
        simp only [Act.put, List.getElem_toArray, List.getElem_cons_succ, List.getElem_cons_zero, List.setIfInBounds_toArray, List.set_cons_succ, List.set_cons_zero]
        refine wpAnyH_take (i := 11) (v := ?vf38) rfl (by kernel_rfl) (by kernel_rfl) (by kernel_rfl) (fun _ _ _ h => h) (Or.inl ⟨by rfl, ?hf38⟩) (by assumption) ?rf38
        case hf38 => intro w hSw; (try dsimp only at hSw); go_simp; try with_reducible rfl
        simp only [Act.put, List.getElem_toArray, List.getElem_cons_succ, List.getElem_cons_zero, List.setIfInBounds_toArray, List.set_cons_succ, List.set_cons_zero]
        refine wpAnyH_take (i := 12) (v := ?vf41) rfl (by kernel_rfl) (by kernel_rfl) (by kernel_rfl) (fun _ _ _ h => h) (Or.inl ⟨by rfl, ?hf41⟩) (by assumption) ?rf41
        case hf41 => intro w hSw; (try dsimp only at hSw); go_simp; try with_reducible rfl
        simp only [Act.put, List.getElem_toArray, List.getElem_cons_succ, List.getElem_cons_zero, List.setIfInBounds_toArray, List.set_cons_succ, List.set_cons_zero]
        refine wpAnyH_ready (rs := [13]) (by kernel_rfl) (by simp) ?_
        refine AllReadyH.cons rfl (fun K hK => ?_) AllReadyH.nil
        go_simp
        go_at_call 25; refine (less_is za a1 zn len1 zc cap1 z zs false _ (HSL.out.below HQ1.out (Nat.le_refl _)) (ZR.out.below HQ1.out (Nat.le_refl _)) HLS.out).mono ?_; rintro e q2 ⟨rfl, bq2⟩; have HQ2 : Hid (Below wr.heap.size wr q2) := below_drawn HQ1.out bq2; clear bq2
        refine hK.out _ _ (by first | (first | exact KEEP.out _ HBD.out | exact KEEP.out _ HQ1.out | exact KEEP.out _ HQ2.out) | ((try dsimp only); first | exact KEEP.out _ HBD.out | exact KEEP.out _ HQ1.out | exact KEEP.out _ HQ2.out)) (fun hHeld => ?_)
        clear hK K
        try simp only [Act.put, List.getElem_toArray, List.getElem_cons_succ, List.getElem_cons_zero, List.setIfInBounds_toArray, List.set_cons_succ, List.set_cons_zero]
        refine wpAnyH_take (i := 14) (v := ?vf51) rfl (by kernel_rfl) (by kernel_rfl) (by kernel_rfl) (fun _ _ _ h => h) (Or.inl ⟨by rfl, ?hf51⟩) (by assumption) ?rf51
        case hf51 => intro w hSw; (try dsimp only at hSw); go_simp; try with_reducible rfl
        simp only [Act.put, List.getElem_toArray, List.getElem_cons_succ, List.getElem_cons_zero, List.setIfInBounds_toArray, List.set_cons_succ, List.set_cons_zero]
        refine wpAnyH_take (i := 15) (v := ?vf54) rfl (by kernel_rfl) (by kernel_rfl) (by kernel_rfl) (fun _ _ _ h => h) (Or.inl ⟨by rfl, ?hf54⟩) (by assumption) ?rf54
        case hf54 => intro w hSw; (try dsimp only at hSw); go_simp; try with_reducible rfl
        simp only [Act.put, List.getElem_toArray, List.getElem_cons_succ, List.getElem_cons_zero, List.setIfInBounds_toArray, List.set_cons_succ, List.set_cons_zero]
        refine wpAnyH_take (i := 16) (v := ?vf57) rfl (by kernel_rfl) (by kernel_rfl) (by kernel_rfl) (fun _ _ _ h => h) (Or.inl ⟨by rfl, ?hf57⟩) (by assumption) ?rf57
        case hf57 => intro w hSw; (try dsimp only at hSw); go_simp; try with_reducible rfl
        simp only [Act.put, List.getElem_toArray, List.getElem_cons_succ, List.getElem_cons_zero, List.setIfInBounds_toArray, List.set_cons_succ, List.set_cons_zero]
        refine wpAnyH_take (i := 17) (v := ?vf60) rfl (by kernel_rfl) (by kernel_rfl) (by kernel_rfl) (fun _ _ _ h => h) (Or.inl ⟨by rfl, ?hf60⟩) (by assumption) ?rf60
        case hf60 => intro w hSw; (try dsimp only at hSw); go_simp; try with_reducible rfl
        simp only [Act.put, List.getElem_toArray, List.getElem_cons_succ, List.getElem_cons_zero, List.setIfInBounds_toArray, List.set_cons_succ, List.set_cons_zero]
        refine wpAnyH_take (i := 18) (v := ?vf63) rfl (by kernel_rfl) (by kernel_rfl) (by kernel_rfl) (fun _ _ _ h => h) (Or.inl ⟨by rfl, ?hf63⟩) (by assumption) ?rf63
        case hf63 => intro w hSw; (try dsimp only at hSw); go_simp; try with_reducible rfl
        simp only [Act.put, List.getElem_toArray, List.getElem_cons_succ, List.getElem_cons_zero, List.setIfInBounds_toArray, List.set_cons_succ, List.set_cons_zero]
        refine wpAnyH_take (i := 19) (v := undef) rfl (by kernel_rfl) (by kernel_rfl) (by kernel_rfl) (fun _ _ _ h => h) (Or.inr ⟨by rfl, rfl⟩) (by assumption) ?_
        simp only [Act.put, List.getElem_toArray, List.getElem_cons_succ, List.getElem_cons_zero, List.setIfInBounds_toArray, List.set_cons_succ, List.set_cons_zero]
        refine wpAnyH_take (i := 20) (v := undef) rfl (by kernel_rfl) (by kernel_rfl) (by kernel_rfl) (fun _ _ _ h => h) (Or.inr ⟨by rfl, rfl⟩) (by assumption) ?_
        simp only [Act.put, List.getElem_toArray, List.getElem_cons_succ, List.getElem_cons_zero, List.setIfInBounds_toArray, List.set_cons_succ, List.set_cons_zero]
        refine wpAnyH_take (i := 21) (v := undef) rfl (by kernel_rfl) (by kernel_rfl) (by kernel_rfl) (fun _ _ _ h => h) (Or.inr ⟨by rfl, rfl⟩) (by assumption) ?_
        simp only [Act.put, List.getElem_toArray, List.getElem_cons_succ, List.getElem_cons_zero, List.setIfInBounds_toArray, List.set_cons_succ, List.set_cons_zero]
        refine wpAnyH_take (i := 22) (v := undef) rfl (by kernel_rfl) (by kernel_rfl) (by kernel_rfl) (fun _ _ _ h => h) (Or.inr ⟨by rfl, rfl⟩) (by assumption) ?_
        simp only [Act.put, List.getElem_toArray, List.getElem_cons_succ, List.getElem_cons_zero, List.setIfInBounds_toArray, List.set_cons_succ, List.set_cons_zero]
        refine wpAnyH_take (i := 23) (v := undef) rfl (by kernel_rfl) (by kernel_rfl) (by kernel_rfl) (fun _ _ _ h => h) (Or.inr ⟨by rfl, rfl⟩) (by assumption) ?_
        simp only [Act.put, List.getElem_toArray, List.getElem_cons_succ, List.getElem_cons_zero, List.setIfInBounds_toArray, List.set_cons_succ, List.set_cons_zero]
        refine wpAnyH_take (i := 24) (v := undef) rfl (by kernel_rfl) (by kernel_rfl) (by kernel_rfl) (fun _ _ _ h => h) (Or.inr ⟨by rfl, rfl⟩) (by assumption) ?_
        simp only [Act.put, List.getElem_toArray, List.getElem_cons_succ, List.getElem_cons_zero, List.setIfInBounds_toArray, List.set_cons_succ, List.set_cons_zero]
        refine wpAnyH_take (i := 25) (v := undef) rfl (by kernel_rfl) (by kernel_rfl) (by kernel_rfl) (fun _ _ _ h => h) (Or.inr ⟨by rfl, rfl⟩) (by assumption) ?_
        simp only [Act.put, List.getElem_toArray, List.getElem_cons_succ, List.getElem_cons_zero, List.setIfInBounds_toArray, List.set_cons_succ, List.set_cons_zero]
        refine wpAnyH_take (i := 26) (v := undef) rfl (by kernel_rfl) (by kernel_rfl) (by kernel_rfl) (fun _ _ _ h => h) (Or.inr ⟨by rfl, rfl⟩) (by assumption) ?_
        simp only [Act.put, List.getElem_toArray, List.getElem_cons_succ, List.getElem_cons_zero, List.setIfInBounds_toArray, List.set_cons_succ, List.set_cons_zero]
        refine wpAnyH_take (i := 27) (v := undef) rfl (by kernel_rfl) (by kernel_rfl) (by kernel_rfl) (fun _ _ _ h => h) (Or.inr ⟨by rfl, rfl⟩) (by assumption) ?_
        simp only [Act.put, List.getElem_toArray, List.getElem_cons_succ, List.getElem_cons_zero, List.setIfInBounds_toArray, List.set_cons_succ, List.set_cons_zero]
        refine wpAnyH_take (i := 28) (v := undef) rfl (by kernel_rfl) (by kernel_rfl) (by kernel_rfl) (fun _ _ _ h => h) (Or.inr ⟨by rfl, rfl⟩) (by assumption) ?_
        simp only [Act.put, List.getElem_toArray, List.getElem_cons_succ, List.getElem_cons_zero, List.setIfInBounds_toArray, List.set_cons_succ, List.set_cons_zero]
        refine wpAnyH_take (i := 29) (v := undef) rfl (by kernel_rfl) (by kernel_rfl) (by kernel_rfl) (fun _ _ _ h => h) (Or.inr ⟨by rfl, rfl⟩) (by assumption) ?_
        simp only [Act.put, List.getElem_toArray, List.getElem_cons_succ, List.getElem_cons_zero, List.setIfInBounds_toArray, List.set_cons_succ, List.set_cons_zero]
        refine wpAnyH_take (i := 30) (v := ?vf88) rfl (by kernel_rfl) (by kernel_rfl) (by kernel_rfl) (fun _ _ _ h => h) (Or.inl ⟨by rfl, ?hf88⟩) (by assumption) ?rf88
        case hf88 => intro w hSw; (try dsimp only at hSw); go_simp; try with_reducible rfl
        simp only [Act.put, List.getElem_toArray, List.getElem_cons_succ, List.getElem_cons_zero, List.setIfInBounds_toArray, List.set_cons_succ, List.set_cons_zero]
        refine wpAnyH_take (i := 31) (v := ?vf91) rfl (by kernel_rfl) (by kernel_rfl) (by kernel_rfl) (fun _ _ _ h => h) (Or.inl ⟨by rfl, ?hf91⟩) (by assumption) ?rf91
        case hf91 => intro w hSw; (try dsimp only at hSw); go_simp; try with_reducible rfl
        simp only [Act.put, List.getElem_toArray, List.getElem_cons_succ, List.getElem_cons_zero, List.setIfInBounds_toArray, List.set_cons_succ, List.set_cons_zero]
        refine wpAnyH_done (by kernel_rfl) ?_ _
        go_wp2
        go_roundw
        case rel => exact ⟨0 + 1, by omega, by go_num, HB.out.trans (HQ2.out.mono HB.out.size)⟩
        case measure => simp [intOf]; omega
      · obtain ⟨p, rfl⟩ : ∃ p, i = p + 1 := ⟨i - 1, by omega⟩
        obtain ⟨b2, o2, ya, yn, yc, y, he2, hb2, hdl, htl, hyi, hyn⟩ := M4.out.one p (by omega)
        simp only [Option.some.injEq, Addr.mk.injEq, and_true] at he2
        obtain ⟨rfl, rfl⟩ := he2
        have HYL := Lib.hid (htl.below HB.out (Nat.le_refl _))
        have hdr := (HB.out.cell (p := ⟨b1, o1 + p, none⟩) hb1).trans hdl
        have HLY : Hid (lessL y z = true) := by
          have hR : Rise LX := by rw [hLX]; exact (ge_rise hck zs).sublist (List.take_sublist _ _)
          show _ = _
          have := hR.at (i := p) (j := p + 1) (by omega) (by have := HK4.out; omega)
          rw [← N4.out, hyi, hzi] at this
          exact this
        have hd0 : decide (((p + 1 : Nat) : Int) > 0) = true := decide_eq_true (by omega)
        have hd0' : decide ((p : Int) + 1 > 0) = true := decide_eq_true (by omega)
        have hpw : IntKind.i64.wrap (((p + 1 : Nat) : Int) - 1) = (p : Int) := by rw [IntKind.wrap_i64]; omega
        have hpw' : IntKind.i64.wrap ((p : Int) + 1 - 1) = (p : Int) := by rw [IntKind.wrap_i64]; omega
        have hpn : (p : Int) < (k4 : Int) := by omega
        have hpv : IntKind.i64.wrap (p : Int) = (p : Int) := by rw [IntKind.wrap_i64]; omega
        have hi0' : (0 : Int) ≤ (p : Int) + 1 := by omega
        have hlti' : (p : Int) + 1 < (k4 : Int) := by omega
        have hd0'' : (0 : Int) < (p : Int) + 1 := by omega
        have hp0 : (0 : Int) ≤ (p : Int) := by omega
        have KEEP : Hid (∀ W, Below wr.heap.size wr W → W.cell? ⟨b1, o1 + (p + 1), none⟩ = some (.slice za zn zc) ∧ W.cell? ⟨b1, o1 + p, none⟩ = some (.slice ya yn yc)) := fun W hb => ⟨(hb.cell (p := ⟨b1, o1 + (p + 1), none⟩) (by show b1 < _; omega)).trans hcr, (hb.cell (p := ⟨b1, o1 + p, none⟩) (by show b1 < _; omega)).trans hdr⟩
        clear hck hLX hzm hzg hsl hzi hzn hcl hcr hbr hdl htl hyi hyn hdr h0 hi
        go_wp2
        refine wp_region_held_drew (S := (fun W => W.cell? ⟨b1, o1 + (p + 1), none⟩ = some (.slice za zn zc) ∧ W.cell? ⟨b1, o1 + p, none⟩ = some (.slice ya yn yc))) (by kernel_rfl) (by first | (first | exact KEEP.out _ HBD.out | exact KEEP.out _ HQ1.out | exact KEEP.out _ HQ2.out | exact KEEP.out _ HQ3.out) | ((try dsimp only); first | exact KEEP.out _ HBD.out | exact KEEP.out _ HQ1.out | exact KEEP.out _ HQ2.out | exact KEEP.out _ HQ3.out)) (fun hHeld => ?_)
        refine wpAnyH_take (i := 0) (v := ?vs1) rfl (by kernel_rfl) (by kernel_rfl) (by kernel_rfl) (fun _ _ _ h => h) (Or.inl ⟨by rfl, ?hs1⟩) (by assumption) ?rs1
        case hs1 => intro w hSw; (try dsimp only at hSw); go_simp; try with_reducible rfl
        simp only [Act.put, List.getElem_toArray, List.getElem_cons_succ, List.getElem_cons_zero, List.setIfInBounds_toArray, List.set_cons_succ, List.set_cons_zero]
        refine wpAnyH_take (i := 1) (v := ?vs4) rfl (by kernel_rfl) (by kernel_rfl) (by kernel_rfl) (fun _ _ _ h => h) (Or.inl ⟨by rfl, ?hs4⟩) (by assumption) ?rs4
        case hs4 => intro w hSw; (try dsimp only at hSw); go_simp; try with_reducible rfl
        simp only [Act.put, List.getElem_toArray, List.getElem_cons_succ, List.getElem_cons_zero, List.setIfInBounds_toArray, List.set_cons_succ, List.set_cons_zero]
        refine wpAnyH_take (i := 2) (v := ?vs7) rfl (by kernel_rfl) (by kernel_rfl) (by kernel_rfl) (fun _ _ _ h => h) (Or.inl ⟨by rfl, ?hs7⟩) (by assumption) ?rs7
        case hs7 => intro w hSw; (try dsimp only at hSw); go_simp; try with_reducible rfl
        simp only [Act.put, List.getElem_toArray, List.getElem_cons_succ, List.getElem_cons_zero, List.setIfInBounds_toArray, List.set_cons_succ, List.set_cons_zero]
        refine wpAnyH_take (i := 3) (v := ?vs10) rfl (by kernel_rfl) (by kernel_rfl) (by kernel_rfl) (fun _ _ _ h => h) (Or.inl ⟨by rfl, ?hs10⟩) (by assumption) ?rs10
        case hs10 => intro w hSw; (try dsimp only at hSw); go_simp; try with_reducible rfl
        simp only [Act.put, List.getElem_toArray, List.getElem_cons_succ, List.getElem_cons_zero, List.setIfInBounds_toArray, List.set_cons_succ, List.set_cons_zero]
        refine wpAnyH_take (i := 4) (v := ?vs13) rfl (by kernel_rfl) (by kernel_rfl) (by kernel_rfl) (fun _ _ _ h => h) (Or.inl ⟨by rfl, ?hs13⟩) (by assumption) ?rs13
        case hs13 => intro w hSw; (try dsimp only at hSw); go_simp; try with_reducible rfl
        simp only [Act.put, List.getElem_toArray, List.getElem_cons_succ, List.getElem_cons_zero, List.setIfInBounds_toArray, List.set_cons_succ, List.set_cons_zero]
        refine wpAnyH_ready (rs := [5]) (by kernel_rfl) (by simp) ?_
        refine AllReadyH.cons rfl (fun K hK => ?_) AllReadyH.nil
        go_simp
        go_at_call 15; refine (whas_is a0 za len0 cap0 zn zc x0 z _ true (SR.out.below HBD.out (Nat.le_refl _)) (HSL.out.below HBD.out (Nat.le_refl _)) HHS.out).mono ?_; rintro e q1 ⟨rfl, bq1⟩; have HQ1 : Hid (Below wr.heap.size wr q1) := HBD.out.trans (bq1.mono HBD.out.size); clear bq1
        refine hK.out _ _ (by first | (first | exact KEEP.out _ HBD.out | exact KEEP.out _ HQ1.out | exact KEEP.out _ HQ2.out | exact KEEP.out _ HQ3.out) | ((try dsimp only); first | exact KEEP.out _ HBD.out | exact KEEP.out _ HQ1.out | exact KEEP.out _ HQ2.out | exact KEEP.out _ HQ3.out)) (fun hHeld => ?_)
        clear hK K
        try simp only [Act.put, List.getElem_toArray, List.getElem_cons_succ, List.getElem_cons_zero, List.setIfInBounds_toArray, List.set_cons_succ, List.set_cons_zero]
        refine wpAnyH_take (i := 6) (v := ?vs23) rfl (by kernel_rfl) (by kernel_rfl) (by kernel_rfl) (fun _ _ _ h => h) (Or.inl ⟨by rfl, ?hs23⟩) (by assumption) ?rs23
        case hs23 => intro w hSw; (try dsimp only at hSw); go_simp; try with_reducible rfl
        simp only [Act.put, List.getElem_toArray, List.getElem_cons_succ, List.getElem_cons_zero, List.setIfInBounds_toArray, List.set_cons_succ, List.set_cons_zero]
        refine wpAnyH_take (i := 7) (v := ?vs26) rfl (by kernel_rfl) (by kernel_rfl) (by kernel_rfl) (fun _ _ _ h => h) (Or.inl ⟨by rfl, ?hs26⟩) (by assumption) ?rs26
        case hs26 => intro w hSw; (try dsimp only at hSw); go_simp; try with_reducible rfl
        simp only [Act.put, List.getElem_toArray, List.getElem_cons_succ, List.getElem_cons_zero, List.setIfInBounds_toArray, List.set_cons_succ, List.set_cons_zero]
        refine wpAnyH_take (i := 8) (v := ?vs29) rfl (by kernel_rfl) (by kernel_rfl) (by kernel_rfl) (fun _ _ _ h => h) (Or.inl ⟨by rfl, ?hs29⟩) (by assumption) ?rs29
        case hs29 => intro w hSw; (try dsimp only at hSw); go_simp; try with_reducible rfl
        simp only [Act.put, List.getElem_toArray, List.getElem_cons_succ, List.getElem_cons_zero, List.setIfInBounds_toArray, List.set_cons_succ, List.set_cons_zero]
        refine wpAnyH_take (i := 9) (v := ?vs32) rfl (by kernel_rfl) (by kernel_rfl) (by kernel_rfl) (fun _ _ _ h => h) (Or.inl ⟨by rfl, ?hs32⟩) (by assumption) ?rs32
        case hs32 => intro w hSw; (try dsimp only at hSw); go_simp; try with_reducible rfl
        simp only [Act.put, List.getElem_toArray, List.getElem_cons_succ, List.getElem_cons_zero, List.setIfInBounds_toArray, List.set_cons_succ, List.set_cons_zero]
        refine wpAnyH_take (i := 10) (v := ?vs35) rfl (by kernel_rfl) (by kernel_rfl) (by kernel_rfl) (fun _ _ _ h => h) (Or.inl ⟨by rfl, ?hs35⟩) (by assumption) ?rs35
        case hs35 => intro w hSw; (try dsimp only at hSw); go_simp; try with_reducible rfl
        simp only [Act.put, List.getElem_toArray, List.getElem_cons_succ, List.getElem_cons_zero, List.setIfInBounds_toArray, List.set_cons_succ, List.set_cons_zero]
        refine wpAnyH_take (i := 11) (v := ?vs38) rfl (by kernel_rfl) (by kernel_rfl) (by kernel_rfl) (fun _ _ _ h => h) (Or.inl ⟨by rfl, ?hs38⟩) (by assumption) ?rs38
        case hs38 => intro w hSw; (try dsimp only at hSw); go_simp; try with_reducible rfl
        simp only [Act.put, List.getElem_toArray, List.getElem_cons_succ, List.getElem_cons_zero, List.setIfInBounds_toArray, List.set_cons_succ, List.set_cons_zero]
        refine wpAnyH_take (i := 12) (v := ?vs41) rfl (by kernel_rfl) (by kernel_rfl) (by kernel_rfl) (fun _ _ _ h => h) (Or.inl ⟨by rfl, ?hs41⟩) (by assumption) ?rs41
        case hs41 => intro w hSw; (try dsimp only at hSw); go_simp; try with_reducible rfl
        simp only [Act.put, List.getElem_toArray, List.getElem_cons_succ, List.getElem_cons_zero, List.setIfInBounds_toArray, List.set_cons_succ, List.set_cons_zero]
        refine wpAnyH_ready (rs := [13]) (by kernel_rfl) (by simp) ?_
        refine AllReadyH.cons rfl (fun K hK => ?_) AllReadyH.nil
        go_simp
        go_at_call 25; refine (less_is za a1 zn len1 zc cap1 z zs false _ (HSL.out.below HQ1.out (Nat.le_refl _)) (ZR.out.below HQ1.out (Nat.le_refl _)) HLS.out).mono ?_; rintro e q2 ⟨rfl, bq2⟩; have HQ2 : Hid (Below wr.heap.size wr q2) := below_drawn HQ1.out bq2; clear bq2
        refine hK.out _ _ (by first | (first | exact KEEP.out _ HBD.out | exact KEEP.out _ HQ1.out | exact KEEP.out _ HQ2.out | exact KEEP.out _ HQ3.out) | ((try dsimp only); first | exact KEEP.out _ HBD.out | exact KEEP.out _ HQ1.out | exact KEEP.out _ HQ2.out | exact KEEP.out _ HQ3.out)) (fun hHeld => ?_)
        clear hK K
        try simp only [Act.put, List.getElem_toArray, List.getElem_cons_succ, List.getElem_cons_zero, List.setIfInBounds_toArray, List.set_cons_succ, List.set_cons_zero]
        refine wpAnyH_take (i := 14) (v := ?vs51) rfl (by kernel_rfl) (by kernel_rfl) (by kernel_rfl) (fun _ _ _ h => h) (Or.inl ⟨by rfl, ?hs51⟩) (by assumption) ?rs51
        case hs51 => intro w hSw; (try dsimp only at hSw); go_simp; try with_reducible rfl
        simp only [Act.put, List.getElem_toArray, List.getElem_cons_succ, List.getElem_cons_zero, List.setIfInBounds_toArray, List.set_cons_succ, List.set_cons_zero]
        refine wpAnyH_take (i := 15) (v := ?vs54) rfl (by kernel_rfl) (by kernel_rfl) (by kernel_rfl) (fun _ _ _ h => h) (Or.inl ⟨by rfl, ?hs54⟩) (by assumption) ?rs54
        case hs54 => intro w hSw; (try dsimp only at hSw); go_simp; try with_reducible rfl
        simp only [Act.put, List.getElem_toArray, List.getElem_cons_succ, List.getElem_cons_zero, List.setIfInBounds_toArray, List.set_cons_succ, List.set_cons_zero]
        refine wpAnyH_take (i := 16) (v := ?vs57) rfl (by kernel_rfl) (by kernel_rfl) (by kernel_rfl) (fun _ _ _ h => h) (Or.inl ⟨by rfl, ?hs57⟩) (by assumption) ?rs57
        case hs57 => intro w hSw; (try dsimp only at hSw); go_simp; try with_reducible rfl
        simp only [Act.put, List.getElem_toArray, List.getElem_cons_succ, List.getElem_cons_zero, List.setIfInBounds_toArray, List.set_cons_succ, List.set_cons_zero]
        refine wpAnyH_take (i := 17) (v := ?vs60) rfl (by kernel_rfl) (by kernel_rfl) (by kernel_rfl) (fun _ _ _ h => h) (Or.inl ⟨by rfl, ?hs60⟩) (by assumption) ?rs60
        case hs60 => intro w hSw; (try dsimp only at hSw); go_simp; try with_reducible rfl
        simp only [Act.put, List.getElem_toArray, List.getElem_cons_succ, List.getElem_cons_zero, List.setIfInBounds_toArray, List.set_cons_succ, List.set_cons_zero]
        refine wpAnyH_take (i := 18) (v := ?vs63) rfl (by kernel_rfl) (by kernel_rfl) (by kernel_rfl) (fun _ _ _ h => h) (Or.inl ⟨by rfl, ?hs63⟩) (by assumption) ?rs63
        case hs63 => intro w hSw; (try dsimp only at hSw); go_simp; try with_reducible rfl
        simp only [Act.put, List.getElem_toArray, List.getElem_cons_succ, List.getElem_cons_zero, List.setIfInBounds_toArray, List.set_cons_succ, List.set_cons_zero]
        refine wpAnyH_take (i := 19) (v := ?vs66) rfl (by kernel_rfl) (by kernel_rfl) (by kernel_rfl) (fun _ _ _ h => h) (Or.inl ⟨by rfl, ?hs66⟩) (by assumption) ?rs66
        case hs66 => intro w hSw; (try dsimp only at hSw); go_simp; try with_reducible rfl
        simp only [Act.put, List.getElem_toArray, List.getElem_cons_succ, List.getElem_cons_zero, List.setIfInBounds_toArray, List.set_cons_succ, List.set_cons_zero]
        refine wpAnyH_take (i := 20) (v := ?vs69) rfl (by kernel_rfl) (by kernel_rfl) (by kernel_rfl) (fun _ _ _ h => h) (Or.inl ⟨by rfl, ?hs69⟩) (by assumption) ?rs69
        case hs69 => intro w hSw; (try dsimp only at hSw); go_simp; try with_reducible rfl
        simp only [Act.put, List.getElem_toArray, List.getElem_cons_succ, List.getElem_cons_zero, List.setIfInBounds_toArray, List.set_cons_succ, List.set_cons_zero]
        refine wpAnyH_take (i := 21) (v := ?vs72) rfl (by kernel_rfl) (by kernel_rfl) (by kernel_rfl) (fun _ _ _ h => h) (Or.inl ⟨by rfl, ?hs72⟩) (by assumption) ?rs72
        case hs72 => intro w hSw; (try dsimp only at hSw); go_simp; try with_reducible rfl
        simp only [Act.put, List.getElem_toArray, List.getElem_cons_succ, List.getElem_cons_zero, List.setIfInBounds_toArray, List.set_cons_succ, List.set_cons_zero]
        refine wpAnyH_take (i := 22) (v := ?vs75) rfl (by kernel_rfl) (by kernel_rfl) (by kernel_rfl) (fun _ _ _ h => h) (Or.inl ⟨by rfl, ?hs75⟩) (by assumption) ?rs75
        case hs75 => intro w hSw; (try dsimp only at hSw); go_simp; try with_reducible rfl
        simp only [Act.put, List.getElem_toArray, List.getElem_cons_succ, List.getElem_cons_zero, List.setIfInBounds_toArray, List.set_cons_succ, List.set_cons_zero]
        refine wpAnyH_take (i := 23) (v := ?vs78) rfl (by kernel_rfl) (by kernel_rfl) (by kernel_rfl) (fun _ _ _ h => h) (Or.inl ⟨by rfl, ?hs78⟩) (by assumption) ?rs78
        case hs78 => intro w hSw; (try dsimp only at hSw); go_simp; try with_reducible rfl
        simp only [Act.put, List.getElem_toArray, List.getElem_cons_succ, List.getElem_cons_zero, List.setIfInBounds_toArray, List.set_cons_succ, List.set_cons_zero]
        refine wpAnyH_take (i := 24) (v := ?vs81) rfl (by kernel_rfl) (by kernel_rfl) (by kernel_rfl) (fun _ _ _ h => h) (Or.inl ⟨by rfl, ?hs81⟩) (by assumption) ?rs81
        case hs81 => intro w hSw; (try dsimp only at hSw); go_simp; try with_reducible rfl
        simp only [Act.put, List.getElem_toArray, List.getElem_cons_succ, List.getElem_cons_zero, List.setIfInBounds_toArray, List.set_cons_succ, List.set_cons_zero]
        refine wpAnyH_take (i := 25) (v := ?vs84) rfl (by kernel_rfl) (by kernel_rfl) (by kernel_rfl) (fun _ _ _ h => h) (Or.inl ⟨by rfl, ?hs84⟩) (by assumption) ?rs84
        case hs84 => intro w hSw; (try dsimp only at hSw); go_simp; try with_reducible rfl
        simp only [Act.put, List.getElem_toArray, List.getElem_cons_succ, List.getElem_cons_zero, List.setIfInBounds_toArray, List.set_cons_succ, List.set_cons_zero]
        refine wpAnyH_take (i := 26) (v := ?vs87) rfl (by kernel_rfl) (by kernel_rfl) (by kernel_rfl) (fun _ _ _ h => h) (Or.inl ⟨by rfl, ?hs87⟩) (by assumption) ?rs87
        case hs87 => intro w hSw; (try dsimp only at hSw); go_simp; try with_reducible rfl
        simp only [Act.put, List.getElem_toArray, List.getElem_cons_succ, List.getElem_cons_zero, List.setIfInBounds_toArray, List.set_cons_succ, List.set_cons_zero]
        refine wpAnyH_take (i := 27) (v := ?vs90) rfl (by kernel_rfl) (by kernel_rfl) (by kernel_rfl) (fun _ _ _ h => h) (Or.inl ⟨by rfl, ?hs90⟩) (by assumption) ?rs90
        case hs90 => intro w hSw; (try dsimp only at hSw); go_simp; try with_reducible rfl
        simp only [Act.put, List.getElem_toArray, List.getElem_cons_succ, List.getElem_cons_zero, List.setIfInBounds_toArray, List.set_cons_succ, List.set_cons_zero]
        refine wpAnyH_ready (rs := [28]) (by kernel_rfl) (by simp) ?_
        refine AllReadyH.cons rfl (fun K hK => ?_) AllReadyH.nil
        go_simp
        go_at_call 25; refine (less_is ya za yn zn yc zc y z true _ (HYL.out.below HQ2.out (Nat.le_refl _)) (HSL.out.below HQ2.out (Nat.le_refl _)) HLY.out).mono ?_; rintro e q3 ⟨rfl, bq3⟩; have HQ3 : Hid (Below wr.heap.size wr q3) := below_drawn HQ2.out bq3; clear bq3
        refine hK.out _ _ (by first | (first | exact KEEP.out _ HBD.out | exact KEEP.out _ HQ1.out | exact KEEP.out _ HQ2.out | exact KEEP.out _ HQ3.out) | ((try dsimp only); first | exact KEEP.out _ HBD.out | exact KEEP.out _ HQ1.out | exact KEEP.out _ HQ2.out | exact KEEP.out _ HQ3.out)) (fun hHeld => ?_)
        clear hK K
        try simp only [Act.put, List.getElem_toArray, List.getElem_cons_succ, List.getElem_cons_zero, List.setIfInBounds_toArray, List.set_cons_succ, List.set_cons_zero]
        refine wpAnyH_take (i := 29) (v := ?vs100) rfl (by kernel_rfl) (by kernel_rfl) (by kernel_rfl) (fun _ _ _ h => h) (Or.inl ⟨by rfl, ?hs100⟩) (by assumption) ?rs100
        case hs100 => intro w hSw; (try dsimp only at hSw); go_simp; try with_reducible rfl
        simp only [Act.put, List.getElem_toArray, List.getElem_cons_succ, List.getElem_cons_zero, List.setIfInBounds_toArray, List.set_cons_succ, List.set_cons_zero]
        refine wpAnyH_take (i := 30) (v := ?vs103) rfl (by kernel_rfl) (by kernel_rfl) (by kernel_rfl) (fun _ _ _ h => h) (Or.inl ⟨by rfl, ?hs103⟩) (by assumption) ?rs103
        case hs103 => intro w hSw; (try dsimp only at hSw); go_simp; try with_reducible rfl
        simp only [Act.put, List.getElem_toArray, List.getElem_cons_succ, List.getElem_cons_zero, List.setIfInBounds_toArray, List.set_cons_succ, List.set_cons_zero]
        refine wpAnyH_take (i := 31) (v := ?vs106) rfl (by kernel_rfl) (by kernel_rfl) (by kernel_rfl) (fun _ _ _ h => h) (Or.inl ⟨by rfl, ?hs106⟩) (by assumption) ?rs106
        case hs106 => intro w hSw; (try dsimp only at hSw); go_simp; try with_reducible rfl
        simp only [Act.put, List.getElem_toArray, List.getElem_cons_succ, List.getElem_cons_zero, List.setIfInBounds_toArray, List.set_cons_succ, List.set_cons_zero]
        refine wpAnyH_done (by kernel_rfl) ?_ _
        go_wp2
        go_roundw
        case rel => exact ⟨p + 1 + 1, by omega, by go_num, HB.out.trans (HQ3.out.mono HB.out.size)⟩
        case measure => simp [intOf]; omega
    · obtain rfl : k4 = i := by omega
      have B5 := B4.trans (HB.out.mono B4.size)
      have S5 := Lib.hid (S4.out.below HB.out (Nat.le_refl _))
      have Z5 := Lib.hid (Z4.out.below HB.out (Nat.le_refl _))
      have X4 := Lib.hid (M4.out.words.below HB.out (Nat.le_refl _))
      have HSOME : Hid (∀ g of fz, p3 = some ⟨g, of, fz⟩ → ∃ g' of', (⟨g, of, fz⟩ : Addr) = ⟨g', of', none⟩) := fun g of fz h => by
        obtain ⟨_, h1 | ⟨g', c', _, h1, _⟩⟩ := M3.out.row
        · have h2 := h1.1; rw [h] at h2; cases h2
        · rw [h] at h1
          simp only [Value.slice.injEq, Option.some.injEq] at h1
          exact ⟨_, _, h1.1⟩
      have X3 := Lib.hid (M3.out.words.below HB.out (Nat.le_refl _))
      have HN3 := Lib.hid M3.out.nil
      clear M3 M4 S4 Z4 hi B1 B3 B4
      rcases HWE.out with ⟨rfl, hck, hL, hl3, hmc⟩ | ⟨rfl, hck, hL⟩ | ⟨rfl, hck, hL, hmc⟩
      · rcases HFE.out with ⟨rfl, -, hLX⟩ | ⟨-, h, -⟩
        rotate_left
        · rw [hck] at h; cases h
        obtain ⟨at_, hat⟩ : ∃ k, cnt LA zs = k := ⟨_, rfl⟩
        obtain ⟨is, his⟩ : ∃ r, decide (zs ∈ LA) = r := ⟨_, rfl⟩
        have hatl : at_ ≤ k3 := by rw [← hat, HK3.out]; exact cnt_le _ _
        have HR : Hid (Rise (nums o3)) := by show Rise _; rw [N3.out, hL]; exact wds_ris hck (by have := (check_size hck).1; omega)
        have HK : Hid (cnt (nums o3) zs = at_) := by show _ = _; rw [N3.out]; exact hat
        have HIS : Hid (decide (zs ∈ nums o3) = is) := by show _ = _; rw [N3.out]; exact his
        have HMC := Lib.hid hmc
        have hk3 : k3 ≤ 300 := by rw [HK3.out]; exact hl3
        obtain ⟨en, hen⟩ : ∃ n, min k3 (at_ + N) = n := ⟨_, rfl⟩
        have hen1 : en ≤ k3 ∧ at_ ≤ en := by omega
        have henI : min (k3 : Int) ((at_ : Int) + (N : Int)) = (en : Int) := by omega
        have hadw : IntKind.i64.wrap ((at_ : Int) + (N : Int)) = (at_ : Int) + (N : Int) := by rw [IntKind.wrap_i64]; omega
        have HSAME : Hid (nums o4 = ((nums o3).drop at_).take (en - at_)) := by
          show _ = _
          rw [N4.out, N3.out, hLX, ge_cnt hck, ← hL, hat, show en - at_ = min N (LA.drop at_).length from by rw [List.length_drop, ← HK3.out]; omega, List.take_eq_take_iff]
          simp
        have hk4N : k4 ≤ N := by rw [HK4.out, hLX, List.length_take]; exact Nat.min_le_left _ _
        have hd4 : decide ((k4 : Int) ≤ (N : Int)) = true := decide_eq_true (by omega)
        have hmk : ((k3 : Int) == (LA.length : Int)) = true := by rw [HK3.out]; simp
        clear hck hL hl3 hmc hLX hat his
        go_wp2_with fail
        refine (find_is p3 a1 k3 len1 c3 cap1 o3 zs at_ is _ X3.out Z5.out HR.out HK.out HIS.out (by omega)).mono ?_
        rintro e v5 ⟨rfl, b5⟩
        have B6 := B5.trans (b5.mono B5.size)
        have S6 := Lib.hid (S5.out.below b5 (Nat.le_refl _))
        have X36 := Lib.hid (X3.out.below b5 (Nat.le_refl _))
        have X46 := Lib.hid (X4.out.below b5 (Nat.le_refl _))
        have hcap3 := X36.out.2.1
        have hcm3 := X36.out.2.2.1
        unfold maxLen at hcm3
        have hz1 : (0 : Int) ≤ (at_ : Int) := by omega
        have hz2 : (at_ : Int) ≤ (en : Int) := by omega
        have hz3 : (en : Int) ≤ (c3 : Int) := by omega
        have hz4 : at_ ≤ en := by omega
        have hz5 : en ≤ c3 := by omega
        clear b5 X3 X4 S5 Z5 hen
        simp only []
        cases p3 with
        | none =>
          have hc0 : c3 = 0 := HN3.out rfl
          have hk0 : k3 = 0 := by omega
          have ha0 : at_ = 0 := by omega
          have he0 : en = 0 := by omega
          have HW : ∀ W, Hid (Ws W none (en - at_) (c3 - at_) ([] : List Wd)) := fun W => by rw [he0, ha0, hc0]; exact Ws.nil
          have HE : Hid (decide (nums o4 = nums ([] : List Wd)) = true) := decide_eq_true (by rw [HSAME.out, he0, Nat.zero_sub, List.take_zero]; rfl)
          clear hc0 hk0 ha0 he0
          go_wp2_with fail
          refine (sames_is p4 none k4 (en - at_) c4 (c3 - at_) o4 [] true _ X46.out (HW _).out HE.out).mono ?_
          rintro e v7 ⟨rfl, hq7⟩
          have B7 := below_drawn B6 hq7
          have S7 := Lib.hid (S6.out.drawn hq7)
          clear hq7
          go_wp2_with fail
          refine (wmany_is a0 len0 cap0 x0 _ LA.length S7.out HMC.out).mono ?_
          rintro e v8 ⟨rfl, b8⟩
          have B8 := B7.trans (b8.mono B7.size)
          clear b8
          go_wp2
          go_ret
          exact ⟨rfl, B8⟩
        | some y =>
          obtain ⟨g, of, hy⟩ : ∃ g of, y = ⟨g, of, none⟩ := by
            obtain ⟨g, of, fz⟩ := y
            exact HSOME.out g of fz rfl
          subst hy
          rcases Nat.lt_or_ge at_ c3 with hac | hac
          · have hac1 : ¬ at_ = c3 := by omega
            have hac2 : ¬ (at_ : Int) = (c3 : Int) := by omega
            go_wp2_with fail
            refine (sames_is p4 (some ⟨g, of + at_, none⟩) k4 (en - at_) c4 (c3 - at_) o4 ((o3.drop at_).take (en - at_)) true _ X46.out (X36.out.piece at_ (en - at_) (by omega)) (decide_eq_true (by rw [HSAME.out]; simp [nums]))).mono ?_
            rintro e v7 ⟨rfl, hq7⟩
            have B7 := below_drawn B6 hq7
            have S7 := Lib.hid (S6.out.drawn hq7)
            clear hq7
            go_wp2_with fail
            refine (wmany_is a0 len0 cap0 x0 _ LA.length S7.out HMC.out).mono ?_
            rintro e v8 ⟨rfl, b8⟩
            have B8 := B7.trans (b8.mono B7.size)
            clear b8
            go_wp2
            go_ret
            exact ⟨rfl, B8⟩
          · obtain rfl : c3 = at_ := by omega
            have he0 : en = c3 := by omega
            have HW0 : Hid (Ws v5 (some ⟨g, of, none⟩) 0 0 ([] : List Wd)) := ⟨rfl, Nat.le_refl _, by unfold maxLen; omega, by simp, .inl rfl⟩
            have HS0 : Hid (decide (nums o4 = nums ([] : List Wd)) = true) := decide_eq_true (by rw [HSAME.out, he0, Nat.sub_self, List.take_zero]; rfl)
            clear he0 hac
            go_wp2_with fail
            refine (sames_is p4 (some ⟨g, of, none⟩) k4 0 c4 0 o4 [] true _ X46.out HW0.out HS0.out).mono ?_
            rintro e v7 ⟨rfl, hq7⟩
            have B7 := below_drawn B6 hq7
            have S7 := Lib.hid (S6.out.drawn hq7)
            clear hq7
            go_wp2_with fail
            refine (wmany_is a0 len0 cap0 x0 _ LA.length S7.out HMC.out).mono ?_
            rintro e v8 ⟨rfl, b8⟩
            have B8 := B7.trans (b8.mono B7.size)
            clear b8
            go_wp2
            go_ret
            exact ⟨rfl, B8⟩
      · rcases HFE.out with ⟨-, h, -⟩ | ⟨rfl, -, -⟩
        · rw [hck] at h; cases h
        go_wp2
        go_ret
        exact ⟨rfl, B5⟩
      · rcases HFE.out with ⟨rfl, -, -⟩ | ⟨-, h, -⟩
        rotate_left
        · rw [hck] at h; cases h
        have HMC := Lib.hid hmc
        clear hck hL hmc
        go_wp2_with fail
        refine (wmany_is a0 len0 cap0 x0 _ 301 S5.out HMC.out).mono ?_
        rintro e v8 ⟨rfl, b8⟩
        have B8 := B5.trans (b8.mono B5.size)
        clear b8
        go_wp2
        go_ret
        exact ⟨rfl, B8⟩

set_option maxRecDepth 100000 in
theorem lifted (os : Os) (started : os.Started) (H : Type) (enc : TypeId × Value → H) :
    ReturnsInHanded {} Try.checked os 5 .any (Rows.walkRisesSpec.pre6 enc Try.prog Try.f5 Rows.walkRisesRow.domain false) (Rows.walkRisesSpec.post enc Try.prog Try.f5 false true false false) := by
  refine returnsInHanded_of_change (C := Try.checked) own started (by kernel_rfl) Try.func5
    (ChangeSpec.witness6 (enc := enc) (C := Try.checked) false ⟨#[], #[.slice none 0 0, .slice none 0 0, .int .u8 0], []⟩ 8 (by kernel_rfl) (by kernel_rfl) (by kernel_rfl) (by kernel_rfl)) ?_
  intro W base args ds gs before hval0 hW hcnd _
  have hval : ∀ (j : Nat) t v, Try.f5.params[j]? = some t → args[j]? = some v → Value.okWide Try.prog W .any base t v := hval0
  have hW' := hW
  obtain ⟨p, q, hA0, hV, rfl, hfz, hnd⟩ := hW
  have hA : DataW.TrodAll enc Try.prog W 0 (fun _ => true) true Try.f5.params.toList args.toList ds p := hA0
  rw [Try.params5] at hA hval
  obtain ⟨v0, vs0, d0, ds0, p0, q0, hargs, rfl, rfl, h0, r0⟩ := trodAll_cons hA
  obtain ⟨v1, vs1, d1, ds1, p1, q1, rfl, rfl, rfl, h1, r1⟩ := trodAll_cons r0
  obtain ⟨v2, vs2, d2, ds2, p2, q2, rfl, rfl, rfl, h2, r2⟩ := trodAll_cons r1
  obtain ⟨rfl, rfl, rfl⟩ := trodAll_nil r2
  obtain rfl : args = #[v0, v1, v2] := by cases args; simp_all
  obtain ⟨rfl, rfl⟩ := trodVars_none hV
  obtain ⟨a0, len0, cap0, rfl⟩ := okWide_slice Try.underlying22 (hval 0 22 v0 rfl rfl)
  have k0 := h0
  have lt0 : ∀ x ∈ p0, x.block < W.heap.size := by obtain ⟨m, hm⟩ := k0; exact DataW.trod_lt m _ _ _ hm
  obtain ⟨x0, w0, n0⟩ : ∃ xs, Ss W a0 len0 cap0 xs ∧ (a0 = none → cap0 = 0) := by
    obtain ⟨fuel, hf⟩ := h0
    obtain ⟨a, l, c, xs, hcs, hrs, hnil⟩ := Ss.open hf
    simp only [Value.slice.injEq] at hcs
    obtain ⟨rfl, rfl, rfl⟩ := hcs
    exact ⟨xs, hrs, hnil⟩
  obtain ⟨a1, len1, cap1, rfl⟩ := okWide_slice Try.underlying23 (hval 1 23 v1 rfl rfl)
  have k1 := h1
  have lt1 : ∀ x ∈ p1, x.block < W.heap.size := by obtain ⟨m, hm⟩ := k1; exact DataW.trod_lt m _ _ _ hm
  obtain ⟨z1, w1⟩ : ∃ zs, IsRow .i64 W a1 len1 cap1 zs := by
    obtain ⟨fuel, hf⟩ := h1
    rcases open_ints Try.underlying23 Try.underlying3 (by kernel_rfl) hf with ⟨hcs, _⟩ | ⟨x, l, c, zs, hcs, _, hl, hm, hz, _, hcell, hwz⟩
    · simp [Value.cells] at hcs
      obtain ⟨rfl, rfl, rfl⟩ := hcs
      exact ⟨[], .inl ⟨rfl, rfl, rfl, rfl⟩⟩
    · simp [Value.cells] at hcs
      obtain ⟨rfl, rfl, rfl⟩ := hcs
      exact ⟨zs, .inr ⟨_, rfl, hl, hm, by simpa using hz, hcell, hwz⟩⟩
  obtain ⟨a2, rfl, rfl, rfl, w2⟩ := open_int Try.underlying5 (hval 2 5 v2 rfl rfl) h2
  clear hA0 hval0
  refine (walk a0 len0 cap0 x0 a1 len1 cap1 z1 a2 W w0 n0 w1 w2).mono fun e W' ⟨he, bel⟩ => ?_
  subst he
  exact ⟨_, rfl, _, _, _, [], _, [], hW', trodAll_mk1 (shut_bool Try.underlying4 _), (trodAll_cons_mk (Below.trod laidOut (by kernel_rfl) (of_decide_eq_true (by kernel_rfl)) k0 bel lt0) (trodAll_cons_mk (Below.trod laidOut (by kernel_rfl) (of_decide_eq_true (by kernel_rfl)) k1 bel lt1) (trodAll_cons_mk (shut_int Try.underlying5 w2) trodAll_mk0))), rfl, bel.frame _, fun h => by cases h⟩

theorem over : Rows.walkRisesRow.holds Try.pinned (OpenSpec.ofChange Rows.walkRisesSpec) :=
  OpenClaim.holds_of_wide 5 Try.f5 rfl rfl rfl rfl rfl rfl rfl ⟨rfl, rfl, rfl, rfl, rfl⟩ rfl rfl rfl rfl rfl (by kernel_rfl) Try.func5 (by kernel_rfl)
    (of_decide_eq_true (by kernel_rfl)) (by unfold Func.isWrapper; first | (rw [if_pos (by decide +kernel)]; kernel_rfl) | (rw [if_neg (by decide +kernel)]; exact ⟨rfl, rfl⟩))
    (fun os started H enc _ => lifted os started H enc)

/-- the statement -/
theorem proved : Rows.WalkRisesSaid := over
#print axioms proved
end Go.Proofs.Ytimjdlbhbiklgaa.walkRises
