/- utf.appendSign puts a sign's bytes behind those of a row that the caller owns. -/
import Derived.Test.YtflikfnehpaohaaUtfWalkA
import Derived.Test.YtflikfnehpaohaaUtfSl
import Derived.Deep.RegionLaw
import Derived.Laws.BitsAllLaws
import Derived.Deep.AppendLies
import Derived.Deep.DeepMust
import Derived.Deep.DeepFit
import Derived.Maps.RangeWalk
import Derived.Lib.Hide
namespace Go.Proofs.Ytflikfnehpaohaa
open Go.RowKit

set_option maxRecDepth 100000 in
theorem Try.info5 : (Try.prog.info? 5).map (fun i => (i.zero, i.size, i.bytes)) = some (some (.int .u8 0), 1, 1) := by kernel_rfl
set_option maxRecDepth 100000 in
theorem one_new {w : World} {B : Nat} {v : Value} {t : TypeId} (hB : B = w.heap.size) : ∀ j u, [v][j]? = some u → (w.alloc (.cells #[v] t)).drew.cell? ((⟨B, 0, none⟩ : Addr).add j) = some u := by
  subst hB
  intro j u hj
  match j, hj with
  | 0, hj => simp at hj; subst hj; simp [Addr.add]

set_option maxRecDepth 100000 in
theorem i32_wrap (n : Int) (h0 : 0 ≤ n) (h1 : n < 2147483648) : IntKind.i32.wrap n = n := by
  simp [IntKind.wrap, IntKind.bits, IntKind.signed]
  split <;> omega
set_option maxRecDepth 100000 in
theorem i32_and63 (x : Int) (h0 : 0 ≤ x) (h1 : x < 2147483648) : bits .and .i32 x 63 = x % 64 := by
  obtain ⟨n, rfl⟩ := Int.eq_ofNat_of_zero_le h0
  show IntKind.i32.wrap ((BitVec.ofInt 32 (n : Int) &&& BitVec.ofInt 32 63).toNat : Int) = _
  have h2 : (BitVec.ofInt 32 63).toNat = 63 := by decide
  rw [BitVec.toNat_and, ofInt_u32 n (by omega), h2, nat_mask6, i32_wrap _ (by omega) (by omega)]
  omega
set_option maxRecDepth 100000 in
theorem div_small (s : Int) (k : Nat) (h0 : 0 ≤ s) (h1 : s ≤ 1114111) : 0 ≤ s / 2 ^ k ∧ s / 2 ^ k ≤ 1114111 := by
  have hp : (0 : Int) < 2 ^ k := Int.pow_pos (by decide)
  exact ⟨Int.ediv_nonneg h0 (by omega), Int.le_trans (Int.ediv_le_self _ h0) h1⟩

set_option maxRecDepth 100000 in
set_option maxHeartbeats 800000 in
theorem appendSign_any (B g n cap : Nat) (xs : List Int) (s : Int) (w : World) (hown : w.ownsRow B 5 1 (.slice (some ⟨g, 0, none⟩) n cap) n (u8s xs)) (hB : B ≤ w.heap.size)
    (h0 : 0 ≤ s) (h1 : s ≤ 1114111) (hn : n + 4 ≤ 140737488355328) :
    Calls Try.prog 56 #[.slice (some ⟨g, 0, none⟩) n cap, .int .i32 s] w fun e w' => ∃ g' cap', e = .returned (.slice (some ⟨g', 0, none⟩) (n + Utf.size s) cap') ∧
      w'.ownsRow B 5 1 (.slice (some ⟨g', 0, none⟩) (n + Utf.size s) cap') (n + Utf.size s) (u8s (xs ++ Utf.enc s)) ∧ Below B w w' := by
  have hk0 := Utf.size_pos s
  have hk4 := Utf.size_le s
  obtain ⟨i0, hi, hz0, hz1, hz2⟩ := info_parts Try.info5
  go_enter Try.func56, Try.ntmps56
  go_wp2_with (go_at_call 65; refine (sizeOf_any _ _).mono ?_; rintro e w' ⟨rfl, rfl⟩)
  go_region_law (first | (go_simp; go_at_call 64; refine (headMark_any _ _).mono ?_; rintro e w' ⟨rfl, rfl⟩) | (refine step_append_lies _ (by rfl) (.tmp 12) (.tmp 20) 22 (by rfl) B 5 i0 (.int .u8 0) 1 1 Try.underlying22 hi hz0 hz1 hz2 rfl (by decide) _ n (u8s xs) (by rfl) (hown.alloc _).drew ⟨w.heap.size, 0, none⟩ 1 1 [.int .u8 (IntKind.u8.wrap (Utf.mark (Utf.size s) + IntKind.u8.wrap (s / 2 ^ (6 * ((Utf.size s : Int) - 1)).toNat)))] (by rfl) rfl (one_new rfl) (by simp [Value.oneCell']) (by decide) (by unfold maxLen; omega) (by omega) (by simp; omega) _ rfl ?_; intro g1 cap1 w1 hown1 hgrow1 hat1 hlt1))
  have hbel1 : Below B w w1 := ((((Below.refl B w).alloc hB _).drew).grown hgrow1 (by simp; omega) (by intro k hk; rcases hown.lt k hk with ⟨h, _⟩; exact h))
  have hv0 : IntKind.u8.wrap (Utf.mark (Utf.size s) + IntKind.u8.wrap (s / 2 ^ (6 * ((Utf.size s : Int) - 1)).toNat)) = (Utf.mark (Utf.size s) + s / 2 ^ (6 * (Utf.size s - 1)) % 256) % 256 := by
    rw [IntKind.wrap_u8', IntKind.wrap_u8', show (6 * ((Utf.size s : Int) - 1)).toNat = 6 * (Utf.size s - 1) from by omega]
  rw [hv0, u8s_snoc, ← Utf.enc_first s _ rfl h0 h1] at hown1
  clear hv0 hgrow1 hat1 hlt1 hown
  go_wp2
  simp only [Act.put, List.setIfInBounds_toArray, List.set_cons_zero, List.getElem_cons_succ, List.getElem_cons_zero, List.getElem_toArray]
  generalize (s / 2 ^ (6 * ((Utf.size s : Int) - 1)).toNat) = q1
  generalize IntKind.u8.wrap (Utf.mark (Utf.size s) + IntKind.u8.wrap q1) = q3
  generalize IntKind.u8.wrap q1 = q2
  go_loopw [0, 6] (fun bv sh wr => ∃ j g2 cap2 : Nat, j < Utf.size s ∧ sh = .int .i64 (6 * (j : Int)) ∧ bv = .slice (some ⟨g2, 0, none⟩) (n + (Utf.size s - j)) cap2 ∧ wr.ownsRow B 5 1 (.slice (some ⟨g2, 0, none⟩) (n + (Utf.size s - j)) cap2) (n + (Utf.size s - j)) (u8s (xs ++ (Utf.enc s).take (Utf.size s - j))) ∧ Below B w wr) (fun _ sh _ => (intOf sh).toNat)
  case atStart =>
    have e0 : Utf.size s - (Utf.size s - 1) = 1 := by omega
    exact ⟨Utf.size s - 1, g1, cap1, by omega, congrArg (Value.int .i64) (by omega), by rw [e0], by rw [e0]; exact hown1, hbel1⟩
  case round =>
    obtain ⟨j, g2, cap2, hj, rfl, rfl, hown2, hbel2⟩ := hrel
    by_cases hj0 : j = 0
    · subst hj0
      simp only [Nat.sub_zero] at hown2 ⊢
      rw [Utf.enc_all] at hown2
      go_wp2
      go_ret
      exact ⟨g2, cap2, rfl, hown2, hbel2⟩
    · obtain ⟨i, rfl⟩ : ∃ i, j = i + 1 := ⟨j - 1, by omega⟩
      clear hj0
      obtain ⟨c, hc⟩ : ∃ c, c = s / 2 ^ (6 * i) % 64 := ⟨_, rfl⟩
      have hc0 : 0 ≤ c := by omega
      have hc1 : c < 64 := by omega
      have hb : bits .and .i32 (s / 2 ^ (6 * (i + 1) - 6)) 63 = c := by
        have hd := div_small s (6 * i) h0 h1
        rw [hc, show 6 * (i + 1) - 6 = 6 * i from by omega]; exact i32_and63 _ hd.1 (by omega)
      have hen := Utf.enc_next s i hj
      rw [← hc] at hen
      have HE := Lib.hid hen
      clear hc hen
      go_wp2_with (at_builtin; refine wpList_append_lies _ (by rfl) (.tmp 26) (.tmp 33) 22 (by rfl) B 5 i0 (.int .u8 0) 1 1 Try.underlying22 hi hz0 hz1 hz2 rfl (by decide) _ _ _ (by rfl) (hown2.alloc _) ⟨wr.heap.size, 0, none⟩ 1 1 [.int .u8 (128 + c)] (by rfl) rfl (one_newp rfl) (by simp [Value.oneCell']) (by decide) (by unfold maxLen; omega) (by omega) (by have := hbel2.size; simp; omega) _ rfl ?_; intro g3 cap3 w3 hown3 hgrow3 hat3 hlt3)
      have e1 : n + (Utf.size s - (i + 1)) + 1 = n + (Utf.size s - i) := by omega
      have hbel3 : Below B w w3 := (hbel2.alloc (by have := hbel2.size; omega) _).grown hgrow3 (by have := hbel2.size; simp; omega) (by intro k hk; exact (hown2.lt k hk).1)
      rw [u8s_snoc, List.append_assoc, ← HE.out, e1] at hown3
      clear hgrow3 hat3 hlt3 hown2 hbel2 hbel1 hb HE
      go_roundw
      case rel => exact ⟨i, g3, cap3, by omega, congrArg (Value.int .i64) (by omega), by rw [e1], hown3, hbel3⟩
      case measure => simp [intOf]; omega

end Go.Proofs.Ytflikfnehpaohaa
