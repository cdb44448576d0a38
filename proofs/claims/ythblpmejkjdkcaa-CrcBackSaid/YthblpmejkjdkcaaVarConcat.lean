/- slices.Concat of two slices of bytes. -/
import Derived.Test.YthblpmejkjdkcaaVarLib
namespace Go.Proofs.Ythblpmejkjdkcaa
open Go.RowKit

set_option maxHeartbeats 2000000 in
set_option maxRecDepth 100000 in
theorem concat_is (g c : Nat) (a1 a2 : Option Addr) (n1 c1 n2 c2 : Nat) (xs ys : List Int) (w : World) (hx : w.cell? ⟨g, 0, none⟩ = some (.slice a1 n1 c1)) (hy : w.cell? ⟨g, 1, none⟩ = some (.slice a2 n2 c2))
    (h1 : Sl .u8 w a1 n1 c1 xs) (h2 : Sl .u8 w a2 n2 c2 ys) (h0 : 0 < n2) (hb1 : n1 ≤ 100000) (hb2 : n2 ≤ 100000) :
    Calls Try.prog 17 #[.slice (some ⟨g, 0, none⟩) 2 c] w fun e w' => ∃ a' c', e = .returned (.slice a' (n1 + n2 : Nat) c') ∧ w'.ownsRow w.heap.size 5 1 (.slice a' (n1 + n2) c') (n1 + n2) (u8s (xs ++ ys)) ∧ (a' = none → c' = 0) ∧ Below w.heap.size w w' := by
  have hc1 := h1.2.2.1
  have hc2 := h2.2.2.1
  unfold maxLen at hc1 hc2
  have hnc1 := h1.2.1
  have hnc2 := h2.2.1
  have H1 := Lib.hid h1
  have H2 := Lib.hid h2
  have hg := cell_lt hx
  have HG := Lib.hid hg
  have HX := Lib.hid hx
  have HY := Lib.hid hy
  clear h1 h2 hg
  go_enter Try.func17, Try.ntmps17
  go_wp2
  go_loop [3, 11] (fun sv ix => ∃ (s j : Nat), sv = .int .i64 (s : Int) ∧ ix = .int .i64 (j : Int) ∧ ((j = 0 ∧ s = 0) ∨ (j = 1 ∧ s = n1) ∨ (j = 2 ∧ s = n1 + n2))) (fun _ ix => 2 - (intOf ix).toNat)
  case atStart => exact ⟨0, 0, rfl, rfl, .inl ⟨rfl, rfl⟩⟩
  case round =>
    obtain ⟨s, j, rfl, rfl, (⟨rfl, rfl⟩ | ⟨rfl, rfl⟩ | ⟨rfl, rfl⟩)⟩ := hrel
    · have q1 : ¬ ((n1 : Int) < 0) := by omega
      go_wp2
      go_round
      case rel => exact ⟨n1, 1, by first | rfl | simp, rfl, .inr (.inl ⟨rfl, rfl⟩)⟩
      case measure => simp [intOf]
    · have q1 : ¬ ((s : Int) + (n2 : Int) < 0) := by omega
      go_wp2
      go_round
      case rel => exact ⟨s + n2, 2, by go_num, rfl, .inr (.inr ⟨rfl, rfl⟩)⟩
      case measure => simp [intOf]
    · obtain ⟨N, hN⟩ : ∃ N, N = n1 + n2 := ⟨_, rfl⟩
      rw [← hN]
      have HN := Lib.hid hN
      have hN0 : 0 < N := by omega
      have hNb : N ≤ 200000 := by omega
      clear hN hx hy
      go_wp2_with (go_at_call 18; refine (grow_is N hN0 (by omega) _).mono ?_; rintro e w1 ⟨cG, rfl, hown, hb⟩; have HO := Lib.hid hown; have HB := Lib.hid hb; clear hown hb)
      go_loopw [6, 27] (fun sv ix wr => ∃ (j k : Nat) (a' : Option Addr) (c' : Nat) (zs : List Int), sv = .slice a' k c' ∧ ix = .int .i64 (j : Int) ∧ k ≤ 200000 ∧ Hid ((j = 0 ∧ k = 0 ∧ zs = []) ∨ (j = 1 ∧ k = n1 ∧ zs = xs) ∨ (j = 2 ∧ k = N ∧ zs = xs ++ ys)) ∧ Hid (a' = none → c' = 0) ∧ Hid (wr.ownsRow w.heap.size 5 1 (.slice a' k c') k (u8s zs)) ∧ Hid (Below w.heap.size w wr)) (fun _ ix _ => 2 - (intOf ix).toNat)
      case atStart => exact ⟨0, 0, _, _, [], rfl, rfl, by omega, .inl ⟨rfl, rfl, rfl⟩, (fun h => by cases h), HO.out, HB.out⟩
      case round =>
        obtain ⟨j, k, a', c', zs, rfl, rfl, hk, HJ, HNIL, HOW, HBW⟩ := hrel
        have hx1 : wr.cell? ⟨g, 0, none⟩ = some (.slice a1 n1 c1) := by rw [HBW.out.cell (p := ⟨g, 0, none⟩) HG.out]; exact HX.out
        have hy1 : wr.cell? ⟨g, 1, none⟩ = some (.slice a2 n2 c2) := by rw [HBW.out.cell (p := ⟨g, 1, none⟩) HG.out]; exact HY.out
        have HS1 := Lib.hid (H1.out.below HBW.out (Nat.le_refl _))
        have HS2 := Lib.hid (H2.out.below HBW.out (Nat.le_refl _))
        have hsz := HBW.out.size
        obtain (⟨rfl, rfl, rfl⟩ | ⟨rfl, rfl, rfl⟩ | ⟨rfl, rfl, rfl⟩) := HJ.out
        · clear HJ HO HB
          go_wp2_with (at_builtin; refine append_bytes (by rfl) (.tmp 31) (.tmp 32) (by rfl) w.heap.size _ 0 [] (by rfl) HOW.out a1 n1 c1 xs (by rfl) HS1.out n1 (by omega) (by omega) hsz ?_; intro a3 c3 w3 hown3 hb3 hn3; have HO3 := Lib.hid hown3; have HB3 := Lib.hid (HBW.out.trans hb3); have HN3 := Lib.hid hn3; clear hown3 hb3 hn3)
          go_roundw
          case rel => exact ⟨1, n1, a3, c3, xs, rfl, rfl, by omega, .inr (.inl ⟨rfl, rfl, rfl⟩), HN3.out, (by show World.ownsRow _ _ _ _ _ _ _; simpa using HO3.out), HB3.out⟩
          case measure => simp [intOf]
        · clear HJ HO HB
          have HNE := Lib.hid HN.out.symm
          go_wp2_with (at_builtin; refine append_bytes (by rfl) (.tmp 31) (.tmp 32) (by rfl) w.heap.size _ k zs (by rfl) HOW.out a2 n2 c2 ys (by rfl) HS2.out N HNE.out (by omega) hsz ?_; intro a3 c3 w3 hown3 hb3 hn3; have HO3 := Lib.hid hown3; have HB3 := Lib.hid (HBW.out.trans hb3); have HN3 := Lib.hid hn3; clear hown3 hb3 hn3)
          go_roundw
          case rel => exact ⟨2, N, a3, c3, zs ++ ys, rfl, rfl, by omega, .inr (.inr ⟨rfl, rfl, rfl⟩), HN3.out, HO3.out, HB3.out⟩
          case measure => simp [intOf]
        · go_wp2
          go_ret
          obtain rfl := HN.out
          exact ⟨_, _, rfl, HOW.out, HNIL.out, HBW.out⟩

end Go.Proofs.Ythblpmejkjdkcaa
