/- A sum's bytes in an array of four: the program's bytesOf; Seal. -/
import Derived.Test.YthblpmejkjdkcaaCrcWalk
import Derived.Test.YthblpmejkjdkcaaCrcEq
import Derived.Test.YthblpmejkjdkcaaVarConcat
namespace Go.Proofs.Ythblpmejkjdkcaa
open Go.RowKit

set_option maxRecDepth 100000 in
theorem le4_wf (s : Nat) : ∀ z ∈ Crc.le4 s, (Lit.int .u8 z).wf = true := by
  intro z hz
  have := Crc.le4_bytes s z hz
  simp [Lit.wf, IntKind.min, IntKind.max, IntKind.signed, IntKind.bits]
  omega
set_option maxRecDepth 100000 in
theorem bytes_wf {l : List Int} (h : Crc.Bytes l) : ∀ z ∈ l, (Lit.int .u8 z).wf = true := by
  intro z hz
  have := h z hz
  simp [Lit.wf, IntKind.min, IntKind.max, IntKind.signed, IntKind.bits]
  omega

set_option maxRecDepth 100000 in
theorem wrap_u8n (x : Nat) : IntKind.u8.wrap (x : Int) = ((x % 256 : Nat) : Int) := by rw [IntKind.wrap_u8']; omega

set_option maxHeartbeats 1600000 in
set_option maxRecDepth 100000 in
theorem cbytesOf_is (s : Nat) (hs : s < 4294967296) (w : World) :
    Calls Try.prog 14 #[.int .u32 (s : Int)] w fun e w' => e = .returned (.agg (cells8 (Crc.le4 s))) ∧ Below w.heap.size w w' := by
  obtain ⟨a, ha⟩ : ∃ a : Int, a = ((s % 256 : Nat) : Int) := ⟨_, rfl⟩
  obtain ⟨b, hb⟩ : ∃ b : Int, b = ((s / 256 % 256 : Nat) : Int) := ⟨_, rfl⟩
  obtain ⟨c, hc⟩ : ∃ c : Int, c = ((s / 65536 % 256 : Nat) : Int) := ⟨_, rfl⟩
  obtain ⟨d, hd⟩ : ∃ d : Int, d = ((s / 16777216 % 256 : Nat) : Int) := ⟨_, rfl⟩
  have hle : Crc.le4 s = [a, b, c, d] := by rw [ha, hb, hc, hd]; rfl
  rw [hle]
  have wa : IntKind.u8.wrap (s : Int) = a := by rw [wrap_u8n, ha]
  have wb : IntKind.u8.wrap ((s : Int) / 256) = b := by rw [show (s : Int) / 256 = ((s / 256 : Nat) : Int) from by omega, wrap_u8n, hb]
  have wc : IntKind.u8.wrap ((s : Int) / 65536) = c := by rw [show (s : Int) / 65536 = ((s / 65536 : Nat) : Int) from by omega, wrap_u8n, hc]
  have wd : IntKind.u8.wrap ((s : Int) / 16777216) = d := by rw [show (s : Int) / 16777216 = ((s / 16777216 : Nat) : Int) from by omega, wrap_u8n, hd]
  have HI : Hid ((Try.prog.info? 35).map (·.size) = some (cells8 [a, b, c, d]).size) := by show _ = _; rw [info_four]; rfl
  have HI3 : Hid ((cells8 [0, 0, 0, 0]).size = (cells8 [a, b, c, d]).size) := rfl
  have HB : ∀ o, Hid (Below w.heap.size w (w.alloc o)) := fun o => (Below.refl _ w).alloc (Nat.le_refl _) o
  clear ha hb hc hd hle
  go_enter Try.func14, Try.ntmps14
  go_wp2
  go_loopw [5] (fun ix wr => ∃ (j : Nat) (l : List Int), ix = .int .i64 (j : Int) ∧ ((j = 0 ∧ l = [0, 0, 0, 0]) ∨ (j = 1 ∧ l = [a, 0, 0, 0]) ∨ (j = 2 ∧ l = [a, b, 0, 0]) ∨ (j = 3 ∧ l = [a, b, c, 0]) ∨ (j = 4 ∧ l = [a, b, c, d])) ∧ Hid (wr.heap[w.heap.size]? = some (.cells (cells8 [0, 0, 0, 0]) 35 (0, 0))) ∧ Hid (wr.heap[w.heap.size + 1]? = some (.cells (cells8 l) 35 (0, 0))) ∧ Hid (Below w.heap.size w wr)) (fun ix _ => 4 - (intOf ix).toNat)
  case atStart =>
    refine ⟨0, _, rfl, .inl ⟨rfl, rfl⟩, ?_, ?_, ?_⟩
    · exact heap_alloc2_old w _ _
    · exact heap_alloc2_new w _ _
    · exact (HB _).out.alloc (by simp) _
  case round =>
    obtain ⟨j, l, rfl, hj, H0, H1, HBW⟩ := hrel
    obtain ⟨rfl, rfl⟩ | ⟨rfl, rfl⟩ | ⟨rfl, rfl⟩ | ⟨rfl, rfl⟩ | ⟨rfl, rfl⟩ := hj
    · have hcell : wr.cell? ⟨w.heap.size + 1, 0, none⟩ = some (.int .u8 0) := by rw [cell_of_row wr (w.heap.size + 1) 0 _ _ _ H1.out]; rfl
      have hfr : wr.frozen? ⟨w.heap.size + 1, 0, none⟩ = false := by
        have h := H1.out
        simp [World.frozen?, h]
      go_wp2
      go_roundw
      case rel =>
        refine ⟨1, [a, 0, 0, 0], rfl, .inr (.inl ⟨rfl, rfl⟩), ?_, ?_, ?_⟩
        · show (World.setCell _ _ _).heap[_]? = _
          rw [heap_setCell_other _ _ _ _ (by show w.heap.size ≠ w.heap.size + 1; omega)]; exact H0.out
        · show (World.setCell _ _ _).heap[_]? = _
          rw [heap_setCell_same _ _ _ _ _ _ H1.out, cells8_set]; rfl
        · exact HBW.out.setCell (by show w.heap.size ≤ w.heap.size + 1; omega) _
      case measure => simp [intOf]
    · have hcell : wr.cell? ⟨w.heap.size + 1, 1, none⟩ = some (.int .u8 0) := by rw [cell_of_row wr (w.heap.size + 1) 1 _ _ _ H1.out]; rfl
      have hfr : wr.frozen? ⟨w.heap.size + 1, 1, none⟩ = false := by
        have h := H1.out
        simp [World.frozen?, h]
      go_wp2
      go_roundw
      case rel =>
        refine ⟨2, [a, b, 0, 0], rfl, .inr (.inr (.inl ⟨rfl, rfl⟩)), ?_, ?_, ?_⟩
        · show (World.setCell _ _ _).heap[_]? = _
          rw [heap_setCell_other _ _ _ _ (by show w.heap.size ≠ w.heap.size + 1; omega)]; exact H0.out
        · show (World.setCell _ _ _).heap[_]? = _
          rw [heap_setCell_same _ _ _ _ _ _ H1.out, cells8_set]; rfl
        · exact HBW.out.setCell (by show w.heap.size ≤ w.heap.size + 1; omega) _
      case measure => simp [intOf]
    · have hcell : wr.cell? ⟨w.heap.size + 1, 2, none⟩ = some (.int .u8 0) := by rw [cell_of_row wr (w.heap.size + 1) 2 _ _ _ H1.out]; rfl
      have hfr : wr.frozen? ⟨w.heap.size + 1, 2, none⟩ = false := by
        have h := H1.out
        simp [World.frozen?, h]
      go_wp2
      go_roundw
      case rel =>
        refine ⟨3, [a, b, c, 0], rfl, .inr (.inr (.inr (.inl ⟨rfl, rfl⟩))), ?_, ?_, ?_⟩
        · show (World.setCell _ _ _).heap[_]? = _
          rw [heap_setCell_other _ _ _ _ (by show w.heap.size ≠ w.heap.size + 1; omega)]; exact H0.out
        · show (World.setCell _ _ _).heap[_]? = _
          rw [heap_setCell_same _ _ _ _ _ _ H1.out, cells8_set]; rfl
        · exact HBW.out.setCell (by show w.heap.size ≤ w.heap.size + 1; omega) _
      case measure => simp [intOf]
    · have hcell : wr.cell? ⟨w.heap.size + 1, 3, none⟩ = some (.int .u8 0) := by rw [cell_of_row wr (w.heap.size + 1) 3 _ _ _ H1.out]; rfl
      have hfr : wr.frozen? ⟨w.heap.size + 1, 3, none⟩ = false := by
        have h := H1.out
        simp [World.frozen?, h]
      go_wp2
      go_roundw
      case rel =>
        refine ⟨4, [a, b, c, d], rfl, .inr (.inr (.inr (.inr (⟨rfl, rfl⟩)))), ?_, ?_, ?_⟩
        · show (World.setCell _ _ _).heap[_]? = _
          rw [heap_setCell_other _ _ _ _ (by show w.heap.size ≠ w.heap.size + 1; omega)]; exact H0.out
        · show (World.setCell _ _ _).heap[_]? = _
          rw [heap_setCell_same _ _ _ _ _ _ H1.out, cells8_set]; rfl
        · exact HBW.out.setCell (by show w.heap.size ≤ w.heap.size + 1; omega) _
      case measure => simp [intOf]
    · go_wp2_with (first
        | (refine wpList_load_row (by rfl) 35 (.tmp 3) (by rfl) (w.heap.size + 1) (by rfl) 35 (cells8 [a, b, c, d]) (0, 0) _ H1.out Try.underlying35 (by rfl) HI.out ?_)
        | (refine wpList_store_row (by rfl) 35 (.tmp 2) (.tmp 16) (by rfl) w.heap.size (cells8 [a, b, c, d]) (by rfl) (by rfl) 35 (cells8 [0, 0, 0, 0]) H0.out HI.out HI3.out (cells8_one _) ?_))
      try rw [Exit.noGoto_ret]
      refine bodyPost_ret (results_cell_row (by rfl) _ _ w.heap.size 35 (cells8 [a, b, c, d]) (0, 0) _ (by rfl) (setRow_heap _ _ _ _ _ _ H0.out) Try.underlying35 (by rfl) HI.out) rfl ?_
      exact ⟨rfl, below_setRow HBW.out (Nat.le_refl _) _⟩

set_option maxHeartbeats 1600000 in
set_option maxRecDepth 100000 in
theorem cseal_is (a : Option Addr) (n1 cap : Nat) (b : List Int) (w : World) (hs : Sl .u8 w a n1 cap b) (hb1 : n1 ≤ 100000) :
    Calls Try.prog 12 #[.slice a n1 cap] w fun e w' => MadeB w w' e (Crc.lock b) := by
  have hsum := Crc.sum_lt hs.bytes
  obtain ⟨s, hsd⟩ : ∃ s, s = Crc.sum b := ⟨_, rfl⟩
  rw [← hsd] at hsum
  have HSD := Lib.hid hsd
  have HL := Lib.hid hs.1
  have HS := Lib.hid hs
  have HCS : Hid (Calls Try.prog 10 #[.slice a n1 cap] w fun e w' => e = .returned (.int .u32 ((s : Nat) : Int)) ∧ w = w') := by
    have h := csum_is a n1 cap b w hs
    rw [← hsd] at h; exact h
  have HC := Lib.hid (fun w => cbytesOf_is s hsum w)
  have HW := Lib.hid (le4_wf s)
  have h4 : (Crc.le4 s).length = 4 := rfl
  have HI : Hid ((Try.prog.info? 35).map (·.size) = some (cells8 (Crc.le4 s)).size) := by show _ = _; rw [info_four, cells8_size]; rfl
  have HI3 : Hid ((cells8 [0, 0, 0, 0]).size = (cells8 (Crc.le4 s)).size) := rfl
  clear hs hsd hsum
  go_enter Try.func12, Try.ntmps12
  go_wp2_with (first
    | (go_at_call 10; refine HCS.out.mono ?_; rintro e wz ⟨rfl, hwz⟩; subst hwz)
    | (go_at_call 14; refine (HC.out _).mono ?_; rintro e w1 ⟨rfl, hb⟩; have HB := Lib.hid hb; clear hb)
    | (refine wpList_store_g (by rfl) 35 (.tmp 3) (.tmp 6) (by rfl) _ (cells8 (Crc.le4 s)) (by rfl) (by rfl) 35 (cells8 [0, 0, 0, 0]) (heap_alloc_new _ _) HI.out HI3.out (cells8_one _) ?_; intro w2 hh2 hg2 hs2; have HB2 := Lib.hid (below_made HB.out hg2); have HX2 := Lib.hid (Sl.of_heap (k := .u8) hh2 HW.out h4 (by unfold maxLen; omega)); clear hh2 hg2 hs2)
    | fail)
  obtain ⟨W3, hW3⟩ : ∃ W3, W3 = w2.alloc (.cells #[.slice a n1 cap, .slice (some ⟨w1.heap.size, 0, none⟩) 4 4] 22) := ⟨_, rfl⟩
  rw [← hW3]
  have hB3 : Below w.heap.size w W3 := by rw [hW3]; exact HB2.out.alloc HB2.out.size _
  have hx : W3.cell? ⟨w2.heap.size, 0, none⟩ = some (.slice a n1 cap) := by rw [hW3, World.cell?_alloc_at (w := w2) _ _ _ 0 rfl]; rfl
  have hy : W3.cell? ⟨w2.heap.size, 1, none⟩ = some (.slice (some ⟨w1.heap.size, 0, none⟩) 4 4) := by rw [hW3, World.cell?_alloc_at (w := w2) _ _ _ 1 rfl]; rfl
  have HX3 : Hid (Sl .u8 W3 (some ⟨w1.heap.size, 0, none⟩) 4 4 (Crc.le4 s)) := by show Sl _ _ _ _ _ _; rw [hW3]; exact HX2.out.alloc _
  have HB3 := Lib.hid hB3
  clear hW3 hB3
  refine (concat_is w2.heap.size 2 a _ n1 cap 4 4 b (Crc.le4 s) W3 hx hy (HS.out.below HB3.out (Nat.le_refl _)) HX3.out (by omega) hb1 (by omega)).mono ?_
  rintro e w4 ⟨a4, c4, rfl, hown, hnil, hb⟩
  have HO := Lib.hid (owns_base hown HB3.out.size)
  have HNL := Lib.hid hnil
  have HB4 := Lib.hid (HB3.out.trans (hb.mono HB3.out.size))
  clear hown hnil hb
  go_wp2
  go_ret
  refine ⟨a4, n1 + 4, c4, rfl, by rw [Crc.lock_length, HL.out], ?_, HNL.out, HB4.out⟩
  rw [Crc.lock, ← HSD.out]
  exact HO.out

end Go.Proofs.Ythblpmejkjdkcaa
