/- The document's own Put: a sign's bytes in a new row, and those of all. -/
import Derived.Test.YtflikfnehpaohaaUtfWalkC
namespace Go.Proofs.Ytflikfnehpaohaa
open Go.RowKit

set_option maxRecDepth 100000 in
set_option maxHeartbeats 800000 in
theorem one_any (s : Int) (w : World) (h0 : 0 ≤ s) (h1 : s ≤ 1114111) :
    Calls Try.prog 58 #[.int .i64 s] w fun e w' => e = .returned (.slice (some ⟨w.heap.size, 0, none⟩) (Utf.size s) (Utf.size s)) ∧ w.alloc (.cells (u8s (Utf.enc s)).toArray 5) = w' := by
  by_cases a : s < 128
  · rw [show Utf.size s = 1 from by unfold Utf.size; rw [if_pos a], show Utf.enc s = [s] from by unfold Utf.enc; rw [if_pos a]]
    go_enter Try.func58, Try.ntmps58
    go_wp2
    go_ret
    exact ⟨rfl, rfl⟩
  · by_cases b : s < 2048
    · rw [show Utf.size s = 2 from by unfold Utf.size; rw [if_neg a, if_pos b], show Utf.enc s = [192 + s / 64, 128 + s % 64] from by unfold Utf.enc; rw [if_neg a, if_pos b]]
      go_enter Try.func58, Try.ntmps58
      go_wp2
      go_ret
      exact ⟨rfl, rfl⟩
    · by_cases c : s < 65536
      · rw [show Utf.size s = 3 from by unfold Utf.size; rw [if_neg a, if_neg b, if_pos c], show Utf.enc s = [224 + s / 4096, 128 + s / 64 % 64, 128 + s % 64] from by unfold Utf.enc; rw [if_neg a, if_neg b, if_pos c]]
        go_enter Try.func58, Try.ntmps58
        go_wp2
        go_ret
        exact ⟨rfl, rfl⟩
      · rw [show Utf.size s = 4 from by unfold Utf.size; rw [if_neg a, if_neg b, if_neg c], show Utf.enc s = [240 + s / 262144, 128 + s / 4096 % 64, 128 + s / 64 % 64, 128 + s % 64] from by unfold Utf.enc; rw [if_neg a, if_neg b, if_neg c]]
        go_enter Try.func58, Try.ntmps58
        go_wp2
        go_ret
        exact ⟨rfl, rfl⟩

/-- what the document's Put answers: the row may be nil if there are no signs -/
def RPutPost (B : Nat) (zs : List Int) (w : World) (e : Ending) (w' : World) : Prop :=
  Below B w w' ∧ ((Utf.allGood zs = true ∧ ∃ a cap, e = .returned (.tuple #[.slice a (Utf.put zs).length cap, .int .i64 0]) ∧
    w'.ownsRow B 5 1 (.slice a (Utf.put zs).length cap) (Utf.put zs).length (u8s (Utf.put zs))) ∨
    (Utf.allGood zs = false ∧ e = .returned (.tuple #[.slice none 0 0, .int .i64 10])))

set_option maxRecDepth 100000 in
theorem u8s_app (xs ys : List Int) : u8s xs ++ u8s ys = u8s (xs ++ ys) := by simp [u8s]
set_option maxRecDepth 100000 in
theorem news_row {w : World} {B : Nat} {l : List Int} {t : TypeId} (hB : B = w.heap.size) : ∀ j u, (u8s l)[j]? = some u → (w.alloc (.cells (u8s l).toArray t)).cell? ((⟨B, 0, none⟩ : Addr).add j) = some u := by
  subst hB
  intro j u hj
  have h := heap_alloc_new w (.cells (u8s l).toArray t)
  exact World.news_of_block h j u (by simpa using hj)
set_option maxRecDepth 100000 in
theorem one_cells (l : List Int) : ∀ u ∈ u8s l, u.oneCell' = true := ints_oneCell .u8 l

set_option maxRecDepth 100000 in
set_option maxHeartbeats 800000 in
theorem rput_any (a : Option Addr) (n cap : Nat) (zs : List Int) (w : World) (hs : Sl .i64 w a n cap zs) (hn : n ≤ 17592186044416) :
    Calls Try.prog 37 #[.slice a n cap] w (RPutPost w.heap.size zs w) := by
  obtain ⟨i0, hi, hz0, hz1, hz2⟩ := info_parts Try.info5
  obtain ⟨hlen, hnc, hcm, hwf, hcell⟩ := hs
  have HL := Lib.hid hlen
  clear hlen
  go_enter Try.func37, Try.ntmps37
  go_wp2
  go_loopw [4, 5] (fun bv ix wr => ∃ k c : Nat, ∃ g : Option Addr, k ≤ n ∧ ix = .int .i64 (k : Int) ∧ bv = .slice g (Utf.put (zs.take k)).length c ∧ Utf.allGood (zs.take k) = true ∧
      wr.ownsRow w.heap.size 5 1 (.slice g (Utf.put (zs.take k)).length c) (Utf.put (zs.take k)).length (u8s (Utf.put (zs.take k))) ∧ Below w.heap.size w wr) (fun _ ix _ => n - (intOf ix).toNat)
  case atStart => exact ⟨0, 0, none, Nat.zero_le _, rfl, rfl, rfl, World.ownsRow_nil _ _ _ _, Below.refl _ _⟩
  case round =>
    obtain ⟨k, c, g, hk, rfl, rfl, hag, hown2, hbel2⟩ := hrel
    have HG := Lib.hid hag
    clear hag
    by_cases hlt : k < n
    · obtain ⟨z, hz⟩ : ∃ z, z = zs.getD k 0 := ⟨_, rfl⟩
      have hzb : -9223372036854775808 ≤ z ∧ z ≤ 9223372036854775807 := by have := range_i64 hwf k; rw [hz, List.getD_eq_getElem?_getD]; exact this
      have hput := Utf.put_length_le (zs.take k)
      have htk : (zs.take k).length ≤ k := List.length_take_le _ _
      obtain h0 | ⟨b, off, rfl, hcc⟩ := hcell
      · omega
      have hck := hcc k hlt
      have hbb := cell_lt hck
      have hc : wr.cell? ⟨b, off + k, none⟩ = some (.int .i64 z) := by rw [hbel2.cell (p := ⟨b, off + k, none⟩) hbb, hck, hz]
      have HZ := Lib.hid hz
      have hsize := hbel2.size
      clear hz hck hcc hwf
      obtain ⟨hzb0, hzb1⟩ := hzb
      by_cases hg : Utf.good z = true
      · have hg' := (Utf.good_iff z).1 hg
        have hz0' := hg'.1
        have hz1' := hg'.2.1
        have hp := Utf.size_pos z
        have hp4 := Utf.size_le z
        have hsz : (u8s (Utf.enc z)).length = Utf.size z * 1 := by simp [u8s, Utf.enc_length]
        have HS := Lib.hid hsz
        clear hg' hsz
        go_wp2_with (first
          | (go_at_call 40; refine (rgood_any _ _ hzb0 hzb1).mono ?_; rintro e w' ⟨rfl, rfl⟩)
          | (go_at_call 58; refine (one_any _ _ hz0' hz1').mono ?_; rintro e w' ⟨rfl, rfl⟩)
          | (at_builtin; refine wpList_append_lies _ (by rfl) (.tmp 18) (.tmp 23) 22 (by rfl) w.heap.size 5 i0 (.int .u8 0) 1 1 Try.underlying22 hi hz0 hz1 hz2 rfl (by decide) _ _ _ (by rfl) (hown2.alloc _) ⟨wr.heap.size, 0, none⟩ (Utf.size z) (Utf.size z) (u8s (Utf.enc z)) (by rfl) HS.out (news_row rfl) (one_cells _) (by omega) (by unfold maxLen; omega) (by omega) (by simp; omega) _ rfl ?_; intro g3 c3 w3 hown3 hgrow3 hat3 hlt3))
        have hk' : k < zs.length := by rw [HL.out]; exact hlt
        have e1 := put_take_succ zs k hk'
        rw [← HZ.out] at e1
        have e2 : (Utf.put (zs.take (k + 1))).length = (Utf.put (zs.take k)).length + Utf.size z := by rw [e1, List.length_append, Utf.enc_length]
        have e3 : Utf.allGood (zs.take (k + 1)) = true := by rw [allGood_take_succ _ _ hk', HG.out, ← HZ.out, hg]; rfl
        have hbel3 : Below w.heap.size w w3 := (hbel2.alloc (by omega) _).grown hgrow3 (by simp; omega) (by intro m hm; exact (hown2.lt m hm).1)
        rw [u8s_app, ← e1, ← e2] at hown3
        go_roundw
        case rel => exact ⟨k + 1, c3, some ⟨g3, 0, none⟩, by omega, by go_num, by rw [e2], e3, hown3, hbel3⟩
        case measure => simp [intOf]; omega
      · have hgf : Utf.good z = false := by simpa using hg
        clear hg
        go_wp2_with (go_at_call 40; refine (rgood_any _ _ hzb0 hzb1).mono ?_; rintro e w' ⟨rfl, rfl⟩)
        go_ret2
        refine ⟨hbel2, .inr ⟨allGood_bad zs k (by rw [HL.out]; exact hlt) ?_, rfl⟩⟩
        rw [← HZ.out]; exact hgf
    · have hkn : k = n := by omega
      have hge : zs.take k = zs := List.take_of_length_le (by rw [HL.out]; omega)
      rw [hge] at hown2
      have HG' : Utf.allGood zs = true := by have := HG.out; rw [hge] at this; exact this
      have HK := Lib.hid hge
      clear hge HG hkn
      go_wp2
      go_ret2
      refine ⟨hbel2, .inl ⟨HG', g, c, ?_, hown2⟩⟩
      simp only [Array.getD_eq_getD_getElem?, HK.out]
      rfl

end Go.Proofs.Ytflikfnehpaohaa
