/- Layer 13's functions: contracts of Size, Put and Take. -/
import Derived.Test.YtlpgnolibpfhpaaVarBytes
import Derived.Test.YtlpgnolibpfhpaaVarBits
import Derived.Test.YtlpgnolibpfhpaaVarConcat
namespace Go.Proofs.Ytlpgnolibpfhpaa
open Go.RowKit

set_option maxRecDepth 100000 in
/-- a number's bytes as an array of the call's own, cut where they end -/
theorem ten_sl {w : World} {g c n : Nat} (h : w.heap[g]? = some (.cells (cells8 (room (Var.enc c) n)) 36 (0, 0))) (hn : (Var.enc c).length = n) (hc : c < 18446744073709551616) : Sl .u8 w (some ⟨g, 0, none⟩) n 10 (Var.enc c) := by
  have h10 := Var.len_10 hc
  have hr := room_length (Var.enc c) n (by omega) (by omega)
  have h1 : Sl .u8 w (some ⟨g, 0, none⟩) 10 10 (room (Var.enc c) n) := Sl.of_heap h (room_wf (Var.enc_wf c) n) hr (by unfold maxLen; omega)
  have h2 := h1.first n (by omega)
  rwa [room_take n hn.symm] at h2

set_option maxRecDepth 100000 in
theorem owns_base {w : World} {B B' : Nat} {e : TypeId} {size n : Nat} {v : Value} {xs : List Value} (h : w.ownsRow B e size v n xs) (hB : B' ≤ B) : w.ownsRow B' e size v n xs := by
  obtain ⟨h1, h2⟩ := h
  refine ⟨h1, ?_⟩
  rcases h2 with h2 | ⟨g, cap, cur, hv, hg, hh⟩
  · exact .inl h2
  · exact .inr ⟨g, cap, cur, hv, by omega, hh⟩

set_option maxHeartbeats 1600000 in
set_option maxRecDepth 100000 in
theorem size_is (c n : Nat) (hc : c < 18446744073709551616) (hn : (Var.enc c).length = n) (w : World) :
    Calls Try.prog 12 #[.int .u64 (c : Int)] w fun e w' => e = .returned (.int .i64 (n : Int)) ∧ Below w.heap.size w w' := by
  have h10 := Var.len_10 hc
  have hr : (cells8 (room (Var.enc c) n)).size = 10 := by rw [cells8_size, room_length _ _ (by omega) (by omega)]
  have HI : Hid ((Try.prog.info? 36).map (·.size) = some (cells8 (room (Var.enc c) n)).size) := by show _ = _; rw [info_ten, hr]
  have HI3 : Hid ((cells8 (List.replicate 10 0)).size = (cells8 (room (Var.enc c) n)).size) := by show _ = _; rw [hr]; rfl
  have HC := Lib.hid (fun w => bytesOf_is c n hc hn w)
  clear hn h10 hr
  go_enter Try.func12, Try.ntmps12
  go_wp2_with (first
    | (go_at_call 15; refine (HC.out _).mono ?_; rintro e w1 ⟨rfl, hb⟩; have HB := Lib.hid hb; clear hb)
    | (refine wpList_store_g (by rfl) 36 (.tmp 3) (.tmp 8) (by rfl) _ (cells8 (room (Var.enc c) n)) (by rfl) (by rfl) 36 (cells8 (List.replicate 10 0)) (heap_alloc_new _ _) HI.out HI3.out (cells8_one _) ?_; intro w2 hh2 hg2 hs2; have HB2 := Lib.hid (below_made HB.out hg2); clear hh2 hg2 hs2))
  go_ret
  exact ⟨rfl, HB2.out⟩

set_option maxRecDepth 100000 in
theorem size_x (x : Int) (n : Nat) (h0 : 0 ≤ x) (h1 : x ≤ 18446744073709551615) (hn : (Var.enc x.toNat).length = n) (w : World) :
    Calls Try.prog 12 #[.int .u64 x] w fun e w' => e = .returned (.int .i64 (n : Int)) ∧ Below w.heap.size w w' := by
  have h := size_is x.toNat n (by omega) hn w
  rwa [show ((x.toNat : Nat) : Int) = x from by omega] at h

set_option maxHeartbeats 1600000 in
set_option maxRecDepth 100000 in
theorem put_is (a : Option Addr) (n1 cap : Nat) (b : List Int) (c n : Nat) (hc : c < 18446744073709551616) (hn : (Var.enc c).length = n) (w : World) (hs : Sl .u8 w a n1 cap b) (hb1 : n1 ≤ 100000) :
    Calls Try.prog 10 #[.slice a n1 cap, .int .u64 (c : Int)] w fun e w' => ∃ a' c', e = .returned (.slice a' (n1 + n : Nat) c') ∧ w'.ownsRow w.heap.size 5 1 (.slice a' (n1 + n) c') (n1 + n) (u8s (b ++ Var.enc c)) ∧ (a' = none → c' = 0) ∧ Below w.heap.size w w' := by
  have h10 := Var.len_10 hc
  have hp := Var.enc_pos c
  rw [hn] at h10 hp
  have hr : (cells8 (room (Var.enc c) n)).size = 10 := by rw [cells8_size, room_length _ _ (by omega) (by omega)]
  have HI : Hid ((Try.prog.info? 36).map (·.size) = some (cells8 (room (Var.enc c) n)).size) := by show _ = _; rw [info_ten, hr]
  have HI3 : Hid ((cells8 (List.replicate 10 0)).size = (cells8 (room (Var.enc c) n)).size) := by show _ = _; rw [hr]; rfl
  have HC := Lib.hid (fun w => bytesOf_is c n hc hn w)
  have HN := Lib.hid hn
  have HS := Lib.hid hs
  have h10i : (n : Int) ≤ 10 := by omega
  clear hn hr hs
  go_enter Try.func10, Try.ntmps10
  go_wp2_with (first
    | (go_at_call 15; refine (HC.out _).mono ?_; rintro e w1 ⟨rfl, hb⟩; have HB := Lib.hid hb; clear hb)
    | (refine wpList_store_g (by rfl) 36 (.tmp 5) (.tmp 10) (by rfl) _ (cells8 (room (Var.enc c) n)) (by rfl) (by rfl) 36 (cells8 (List.replicate 10 0)) (heap_alloc_new _ _) HI.out HI3.out (cells8_one _) ?_; intro w2 hh2 hg2 hs2; have HB2 := Lib.hid (below_made HB.out hg2); have HX2 := Lib.hid (ten_sl hh2 HN.out hc); clear hh2 hg2 hs2)
    | fail)
  obtain ⟨W3, hW3⟩ : ∃ W3, W3 = w2.alloc (.cells #[.slice a n1 cap, .slice (some ⟨w1.heap.size, 0, none⟩) n 10] 22) := ⟨_, rfl⟩
  rw [← hW3]
  have hB3 : Below w.heap.size w W3 := by rw [hW3]; exact HB2.out.alloc HB2.out.size _
  have hx : W3.cell? ⟨w2.heap.size, 0, none⟩ = some (.slice a n1 cap) := by rw [hW3, World.cell?_alloc_at (w := w2) _ _ _ 0 rfl]; rfl
  have hy : W3.cell? ⟨w2.heap.size, 1, none⟩ = some (.slice (some ⟨w1.heap.size, 0, none⟩) n 10) := by rw [hW3, World.cell?_alloc_at (w := w2) _ _ _ 1 rfl]; rfl
  have HX3 : Hid (Sl .u8 W3 (some ⟨w1.heap.size, 0, none⟩) n 10 (Var.enc c)) := by show Sl _ _ _ _ _ _; rw [hW3]; exact HX2.out.alloc _
  have HB3 := Lib.hid hB3
  clear hW3 hB3
  refine (concat_is w2.heap.size 2 a _ n1 cap n 10 b (Var.enc c) W3 hx hy (HS.out.below HB3.out (Nat.le_refl _)) HX3.out hp hb1 (by omega)).mono ?_
  rintro e w4 ⟨a4, c4, rfl, hown, hnil, hb⟩
  have HO := Lib.hid (owns_base hown HB3.out.size)
  have HNL := Lib.hid hnil
  have HB4 := Lib.hid (HB3.out.trans (hb.mono HB3.out.size))
  clear hown hnil hb
  go_wp2
  go_ret
  exact ⟨a4, c4, rfl, HO.out, HNL.out, HB4.out⟩

set_option maxRecDepth 100000 in
theorem put_nil (c n : Nat) (hc : c < 18446744073709551616) (hn : (Var.enc c).length = n) (w : World) :
    Calls Try.prog 10 #[.slice none 0 0, .int .u64 (c : Int)] w fun e w' => ∃ a' c', e = .returned (.slice a' n c') ∧ w'.ownsRow w.heap.size 5 1 (.slice a' n c') n (u8s (Var.enc c)) ∧ Sl .u8 w' a' n c' (Var.enc c) ∧ (a' = none → c' = 0) ∧ Below w.heap.size w w' := by
  refine (put_is none 0 0 [] c n hc hn w Sl.nil (by omega)).mono ?_
  rintro e w' ⟨a', c', rfl, hown, hnil, hb⟩
  simp only [Nat.zero_add, List.nil_append] at hown
  refine ⟨a', c', by simp, hown, Sl.of_owns (k := .u8) hown (Var.enc_wf c) hn, hnil, hb⟩

/-- what Take answers: the number, and what is behind; or the error -/
def TakeIs (w' : World) (e : Ending) (r : Option (Nat × List Int)) : Prop :=
  (∃ m l a' n' c', r = some (m, l) ∧ e = .returned (.tuple #[.int .u64 ((m : Nat) : Int), .slice a' n' c', .int .i64 0]) ∧ Sl .u8 w' a' n' c' l) ∨ (r = none ∧ e = .returned (.tuple #[.int .u64 0, .slice none 0 0, .int .i64 130]))
set_option maxRecDepth 100000 in
theorem TakeIs.some {w' : World} {e : Ending} {r : Option (Nat × List Int)} {m : Nat} {l : List Int} (h : TakeIs w' e r) (hr : r = some (m, l)) : ∃ a' n' c', e = .returned (.tuple #[.int .u64 (m : Int), .slice a' n' c', .int .i64 0]) ∧ Sl .u8 w' a' n' c' l := by
  rcases h with ⟨m', l', a', n', c', h1, h2, h3⟩ | ⟨h1, _⟩
  · rw [hr] at h1; cases h1; exact ⟨a', n', c', h2, h3⟩
  · rw [hr] at h1; cases h1
set_option maxRecDepth 100000 in
theorem TakeIs.none {w' : World} {e : Ending} {r : Option (Nat × List Int)} (h : TakeIs w' e r) (hr : r = none) : e = .returned (.tuple #[.int .u64 0, .slice none 0 0, .int .i64 130]) := by
  rcases h with ⟨_, _, _, _, _, h1, _⟩ | ⟨_, h2⟩
  · rw [hr] at h1; cases h1
  · exact h2

set_option maxHeartbeats 1600000 in
set_option maxRecDepth 100000 in
theorem take_is (a : Option Addr) (n1 cap : Nat) (b : List Int) (w : World) (hs : Sl .u8 w a n1 cap b) (hb1 : n1 ≤ 100000) :
    Calls Try.prog 8 #[.slice a n1 cap] w fun e w' => TakeIs w' e (Var.take b) ∧ Below w.heap.size w w' := by
  have hnc := hs.2.1
  have hcm := hs.2.2.1
  unfold maxLen at hcm
  obtain ⟨c, hcd⟩ : ∃ c, c = Var.num b := ⟨_, rfl⟩
  have hc : c < 18446744073709551616 := by rw [hcd]; exact Var.num_lt b
  obtain ⟨n, hn⟩ : ∃ n, (Var.enc c).length = n := ⟨_, rfl⟩
  have h10 := Var.len_10 hc
  have hp := Var.enc_pos c
  rw [hn] at h10 hp
  have hr : (cells8 (room (Var.enc c) n)).size = 10 := by rw [cells8_size, room_length _ _ (by omega) (by omega)]
  have HI : Hid ((Try.prog.info? 36).map (·.size) = some (cells8 (room (Var.enc c) n)).size) := by show _ = _; rw [info_ten, hr]
  have HI3 : Hid ((cells8 (List.replicate 10 0)).size = (cells8 (room (Var.enc c) n)).size) := by show _ = _; rw [hr]; rfl
  have HC := Lib.hid (fun w => bytesOf_is c n hc hn w)
  have HBT := Lib.hid (fun w hs => bitsOf_is a n1 cap b w hs)
  have HN := Lib.hid hn
  have HS := Lib.hid hs
  have HCD := Lib.hid hcd
  have HL := Lib.hid hs.1
  have h10i : (n : Int) ≤ 10 := by omega
  have hng : ∀ r, decide (b.take n = Var.enc c) = r → Hid (decide (b.take n = Var.enc c) = r) := fun _ h => h
  obtain ⟨r, hr0⟩ : ∃ r, decide (b.take n = Var.enc c) = r := ⟨_, rfl⟩
  have HR := Lib.hid hr0
  clear hn hr hs hcd hng hr0
  cases r with
  | false =>
    have HT : Hid (Var.take b = none) := by
      refine Var.take_ne ?_
      rw [← HCD.out, HN.out]
      have := HR.out
      rw [decide_eq_false_iff_not] at this
      exact fun h => this h.symm
    go_enter Try.func8, Try.ntmps8
    go_wp2_with (first
      | (go_at_call 14; refine (HBT.out _ HS.out).mono ?_; rw [← HCD.out]; rintro e w1 ⟨rfl, hw1⟩; obtain rfl := hw1.symm)
      | (go_at_call 15; refine (HC.out _).mono ?_; rintro e w1 ⟨rfl, hb⟩; have HB := Lib.hid hb; clear hb)
      | (refine wpList_store_g (by rfl) 36 (.tmp 6) (.tmp 13) (by rfl) _ (cells8 (room (Var.enc c) n)) (by rfl) (by rfl) 36 (cells8 (List.replicate 10 0)) (heap_alloc_new _ _) HI.out HI3.out (cells8_one _) ?_; intro w2 hh2 hg2 hs2; have HB2 := Lib.hid (below_made HB.out hg2); have HX2 := Lib.hid (ten_sl hh2 HN.out hc); clear hh2 hg2 hs2)
      | (go_at_call 16; refine (hasPrefix_is _ _ _ _ _ _ _ _ _ _ (HS.out.below HB2.out (Nat.le_refl _)) HX2.out hp HR.out).mono ?_; rintro e w3 ⟨rfl, hw3⟩; obtain rfl := hw3.symm)
      | fail)
    go_ret3
    exact ⟨.inr ⟨HT.out, rfl⟩, HB2.out⟩
  | true =>
    have HT : Hid (Var.take b = some (c, b.drop n)) := by
      have h := Var.take_eq (b := b)
      rw [← HCD.out, HN.out] at h
      refine h ?_
      have := HR.out
      rw [decide_eq_true_iff] at this
      exact this.symm
    have hnn : n ≤ n1 := by
      have h := HR.out
      rw [decide_eq_true_iff] at h
      have := congrArg List.length h
      rw [List.length_take, HL.out, HN.out] at this
      omega
    obtain ⟨b1, o1, rfl, _, _⟩ := HS.out.at (by omega)
    have hni : (n : Int) ≤ (n1 : Int) := by omega
    have HWF := Lib.hid HS.out.2.2.2.1
    by_cases hcap : n = cap
    · subst hcap
      obtain rfl : n1 = n := by omega
      clear hni hnc
      have hwr : (n1 : Int) ≤ 9223372036854775807 := by omega
      go_enter Try.func8, Try.ntmps8
      go_wp2_with (first
        | (go_at_call 14; refine (HBT.out _ HS.out).mono ?_; rw [← HCD.out]; rintro e w1 ⟨rfl, hw1⟩; obtain rfl := hw1.symm)
        | (go_at_call 15; refine (HC.out _).mono ?_; rintro e w1 ⟨rfl, hb⟩; have HB := Lib.hid hb; clear hb)
        | (refine wpList_store_g (by rfl) 36 (.tmp 6) (.tmp 13) (by rfl) _ (cells8 (room (Var.enc c) n1)) (by rfl) (by rfl) 36 (cells8 (List.replicate 10 0)) (heap_alloc_new _ _) HI.out HI3.out (cells8_one _) ?_; intro w2 hh2 hg2 hs2; have HB2 := Lib.hid (below_made HB.out hg2); have HX2 := Lib.hid (ten_sl hh2 HN.out hc); clear hh2 hg2 hs2)
        | (go_at_call 16; refine (hasPrefix_is _ _ _ _ _ _ _ _ _ _ (HS.out.below HB2.out (Nat.le_refl _)) HX2.out hp HR.out).mono ?_; rintro e w3 ⟨rfl, hw3⟩; obtain rfl := hw3.symm)
        | (go_at_call 17; refine (bclone_is _ _ _ (b.drop n1) _ (by rw [List.drop_eq_nil_of_le (by rw [HL.out]; exact Nat.le_refl _)]; exact ⟨by simp, by omega, by unfold maxLen; omega, by simp, .inl (by omega)⟩) (by omega)).mono ?_; rintro e w4 ⟨a4, c4, rfl, hown, hb⟩; have HO := Lib.hid hown; have HB4 := Lib.hid (HB2.out.trans (hb.mono HB2.out.size)); clear hown hb)
        | fail)
      go_ret3
      exact ⟨.inl ⟨c, b.drop n1, a4, _, c4, HT.out, rfl, Sl.of_owns (k := .u8) HO.out (fun z hz => HWF.out z (List.mem_of_mem_drop hz)) (by rw [List.length_drop, HL.out]; try omega)⟩, HB4.out⟩
    · have hcapi : ¬ (n : Int) = (cap : Int) := by omega
      have hcapl : (n : Int) ≤ (cap : Int) := by omega
      have hwr : (n1 : Int) ≤ 9223372036854775807 := by omega
      go_enter Try.func8, Try.ntmps8
      go_wp2_with (first
        | (go_at_call 14; refine (HBT.out _ HS.out).mono ?_; rw [← HCD.out]; rintro e w1 ⟨rfl, hw1⟩; obtain rfl := hw1.symm)
        | (go_at_call 15; refine (HC.out _).mono ?_; rintro e w1 ⟨rfl, hb⟩; have HB := Lib.hid hb; clear hb)
        | (refine wpList_store_g (by rfl) 36 (.tmp 6) (.tmp 13) (by rfl) _ (cells8 (room (Var.enc c) n)) (by rfl) (by rfl) 36 (cells8 (List.replicate 10 0)) (heap_alloc_new _ _) HI.out HI3.out (cells8_one _) ?_; intro w2 hh2 hg2 hs2; have HB2 := Lib.hid (below_made HB.out hg2); have HX2 := Lib.hid (ten_sl hh2 HN.out hc); clear hh2 hg2 hs2)
        | (go_at_call 16; refine (hasPrefix_is _ _ _ _ _ _ _ _ _ _ (HS.out.below HB2.out (Nat.le_refl _)) HX2.out hp HR.out).mono ?_; rintro e w3 ⟨rfl, hw3⟩; obtain rfl := hw3.symm)
        | (go_at_call 17; refine (bclone_is _ _ _ (b.drop n) _ (by have h := (HS.out.below HB2.out (Nat.le_refl _)).piece n (n1 - n) (by omega); rwa [List.take_of_length_le (by rw [List.length_drop, HL.out]; exact Nat.le_refl _)] at h) (by omega)).mono ?_; rintro e w4 ⟨a4, c4, rfl, hown, hb⟩; have HO := Lib.hid hown; have HB4 := Lib.hid (HB2.out.trans (hb.mono HB2.out.size)); clear hown hb)
        | fail)
      go_ret3
      exact ⟨.inl ⟨c, b.drop n, a4, _, c4, HT.out, rfl, Sl.of_owns (k := .u8) HO.out (fun z hz => HWF.out z (List.mem_of_mem_drop hz)) (by rw [List.length_drop, HL.out]; try omega)⟩, HB4.out⟩

end Go.Proofs.Ytlpgnolibpfhpaa
