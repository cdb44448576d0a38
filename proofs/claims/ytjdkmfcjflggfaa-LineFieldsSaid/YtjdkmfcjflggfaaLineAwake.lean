/- awake, the head of all laws of layer 4: it answers true. -/
import Derived.Lib.SlBytesConst
import Derived.Test.YtjdkmfcjflggfaaLineIterD
namespace Go.Proofs.Ytjdkmfcjflggfaa
open Go.RowKit

theorem Sl.newB {w : World} {t : TypeId} {fr : Nat × Nat} {B n m : Nat} (zs : List Int) (hw : ∀ z ∈ zs, (Lit.int .u8 z).wf = true) (hl : zs.length ≤ maxLen) (hB : B = w.heap.size) (hn : zs.length = n) (hm : zs.length = m) :
    Sl .u8 (w.alloc (.cells (zs.map (Value.int .u8)).toArray t fr)) (some ⟨B, 0, none⟩) n m zs := by
  subst hB hn hm
  refine ⟨rfl, Nat.le_refl _, hl, hw, .inr ⟨w.heap.size, 0, rfl, fun i hi => ?_⟩⟩
  rw [World.cell?_alloc_mark]
  simp [hi]

theorem below_drawn {B : Nat} {w w1 w2 : World} (h : Below B w w1) (hq : ∃ q, w2 = w1.drewN q) : Below B w w2 := by
  obtain ⟨q, rfl⟩ := hq; exact below_drewN h q

/-- an answer whose rows are known -/
theorem RowsIs.known {w w' : World} {e : Ending} {l : List (List Int)} {k : Nat} (h : RowsIs w w' e l) (hk : l.length = k) (h0 : 0 < k) :
    ∃ b off c, e = .returned (.slice (some ⟨b, off, none⟩) k c) ∧ (∀ i, i < k → ∃ a1 n1 c1, n1 = (l.getD i []).length ∧ w'.cell? ⟨b, off + i, none⟩ = some (.slice a1 n1 c1) ∧ Sl .u8 w' a1 n1 c1 (l.getD i [])) ∧ Below w.heap.size w w' := by
  obtain ⟨a, m, c, ys, rfl, h2, h3, h4, h5⟩ := h
  obtain rfl : m = k := by rw [← hk, ← h3, bnums_length, h2.1]
  obtain ⟨b, off, rfl, _, _⟩ := h2.at h0
  refine ⟨b, off, c, rfl, fun i hi => ?_, h5⟩
  obtain ⟨b', off', a1, n1, c1, z1, e, _, _, hx, hs, hz⟩ := h2.one i hi
  simp only [Option.some.injEq, Addr.mk.injEq] at e
  obtain ⟨rfl, rfl, _⟩ := e
  rw [h3] at hz
  exact ⟨a1, n1, c1, by rw [hz, hs.1], hx, by rw [hz]; exact hs⟩

theorem RowsIs.len {w w' : World} {e : Ending} {l : List (List Int)} {k : Nat} (h : RowsIs w w' e l) (hk : l.length = k) : ∃ a c, e = .returned (.slice a k c) ∧ Below w.heap.size w w' := by
  obtain ⟨a, m, c, ys, rfl, h2, h3, h4, h5⟩ := h
  obtain rfl : m = k := by rw [← hk, ← h3, bnums_length, h2.1]
  exact ⟨a, c, rfl, h5⟩

set_option maxHeartbeats 1600000 in
set_option maxRecDepth 100000 in
theorem awake_any (w : World) : Calls Try.prog 8 #[] w fun e w' => e = .returned (.bool true) ∧ Below w.heap.size w w' := by
  have kc := fun (w : World) (C : Array Value) (n c : Nat) => Lib.run_convert_bytes_const (P := Try.prog) w 22 5 C n c Try.underlying22 Try.underlying5
  go_enter Try.func8, Try.ntmps8
  go_wp2_with fail
  refine (split_any _ 4 4 [97, 10, 10, 98] _ (Sl.newB [97, 10, 10, 98] (by decide) (by decide) rfl rfl rfl) (fun h => by cases h) (by omega)).mono ?_
  intro e w1 h1
  rw [show Line.split [97, 10, 10, 98] = [[97], [], [98]] from by decide] at h1
  obtain ⟨b1, o1, c1, rfl, hr1, hb1⟩ := h1.known (k := 3) (by rfl) (by omega)
  have B1 : Below w.heap.size w w1 := ((Below.refl _ w).alloc (Nat.le_refl _) _).trans (hb1.mono (by simp))
  have HR1 := Lib.hid hr1
  clear h1 hb1 hr1
  go_wp2_with fail
  refine (fields_any _ 7 7 [32, 97, 9, 98, 99, 32, 32] _ (Sl.newB [32, 97, 9, 98, 99, 32, 32] (by decide) (by decide) rfl rfl rfl) (fun h => by cases h) (by omega)).mono ?_
  intro e w2 h2
  rw [show Line.fields [32, 97, 9, 98, 99, 32, 32] = [[97], [98, 99]] from by decide] at h2
  obtain ⟨b2, o2, c2, rfl, hr2, hb2⟩ := h2.known (k := 2) (by rfl) (by omega)
  have hb2' : Below w1.heap.size w1 w2 := ((Below.refl _ w1).alloc (Nat.le_refl _) _).trans (hb2.mono (by simp))
  have B2 := B1.trans (hb2'.mono B1.size)
  obtain ⟨a10, c10, x10, s10⟩ : ∃ a c, w2.cell? ⟨b1, o1, none⟩ = some (.slice a 1 c) ∧ Sl .u8 w2 a 1 c [97] := by
    obtain ⟨a, n, c, hn, x, s⟩ := HR1.out 0 (by omega); subst hn
    exact ⟨a, c, (hb2'.cell (p := ⟨b1, o1, none⟩) (cell_lt x)).trans x, s.below hb2' (Nat.le_refl _)⟩
  obtain ⟨a11, c11, x11, s11⟩ : ∃ a c, w2.cell? ⟨b1, o1 + 1, none⟩ = some (.slice a 0 c) ∧ Sl .u8 w2 a 0 c [] := by
    obtain ⟨a, n, c, hn, x, s⟩ := HR1.out 1 (by omega); subst hn
    exact ⟨a, c, (hb2'.cell (p := ⟨b1, o1 + 1, none⟩) (cell_lt x)).trans x, s.below hb2' (Nat.le_refl _)⟩
  obtain ⟨a12, c12, x12, s12⟩ : ∃ a c, w2.cell? ⟨b1, o1 + 2, none⟩ = some (.slice a 1 c) ∧ Sl .u8 w2 a 1 c [98] := by
    obtain ⟨a, n, c, hn, x, s⟩ := HR1.out 2 (by omega); subst hn
    exact ⟨a, c, (hb2'.cell (p := ⟨b1, o1 + 2, none⟩) (cell_lt x)).trans x, s.below hb2' (Nat.le_refl _)⟩
  obtain ⟨a21, c21, x21, s21⟩ : ∃ a c, w2.cell? ⟨b2, o2 + 1, none⟩ = some (.slice a 2 c) ∧ Sl .u8 w2 a 2 c [98, 99] := by
    obtain ⟨a, n, c, hn, x, s⟩ := hr2 1 (by omega); subst hn
    exact ⟨a, c, x, s⟩
  have k10 : (convert 22 9 (.slice a10 1 c10)).run Try.prog w2 = .ok (.string ⟨#[97]⟩) w2 := s10.str
  have k12 : (convert 22 9 (.slice a12 1 c12)).run Try.prog w2 = .ok (.string ⟨#[98]⟩) w2 := s12.str
  have X21 := Lib.hid x21
  have S21 := Lib.hid s21
  have l21 := cell_lt x21
  clear h2 hb2 hr2 hb2' HR1 s10 s11 s12 s21 x21 B1
  go_wp2_with fail
  refine (split_any _ 2 2 [97, 10] _ (Sl.newB [97, 10] (by decide) (by decide) rfl rfl rfl) (fun h => by cases h) (by omega)).mono ?_
  intro e w3 h3
  obtain ⟨a3, c3, rfl, hb3⟩ := h3.len (k := 1) (by decide)
  have hb3' : Below w2.heap.size w2 w3 := ((Below.refl _ w2).alloc (Nat.le_refl _) _).trans (hb3.mono (by simp))
  have B3 := B2.trans (hb3'.mono B2.size)
  have X3 := Lib.hid ((hb3'.cell (p := ⟨b2, o2 + 1, none⟩) l21).trans X21.out)
  have S3 := Lib.hid (S21.out.below hb3' (Nat.le_refl _))
  clear h3 hb3 hb3' x10 x11 x12 k10 k12 X21 S21 B2 l21
  go_wp2_with fail
  refine (split_any none 0 0 [] _ Sl.nil (fun _ => rfl) (by omega)).mono ?_
  intro e w4 h4
  obtain ⟨a4, c4, rfl, hb4⟩ := h4.len (k := 0) (by decide)
  have B4 := B3.trans (hb4.mono B3.size)
  have x4 : w4.cell? ⟨b2, o2 + 1, none⟩ = some (.slice a21 2 c21) := (hb4.cell (p := ⟨b2, o2 + 1, none⟩) (cell_lt X3.out)).trans X3.out
  have k4 : (convert 22 9 (.slice a21 2 c21)).run Try.prog w4 = .ok (.string ⟨#[98, 99]⟩) w4 := (S3.out.below hb4 (Nat.le_refl _)).str
  clear h4 hb4 X3 S3 B3
  go_wp2_with fail
  refine (bare_any _ 4 4 [32, 35, 32, 97] _ (Sl.newB [32, 35, 32, 97] (by decide) (by decide) rfl rfl rfl) (fun h => by cases h) (by omega)).mono ?_
  rintro e w5 ⟨rfl, hb5⟩
  rw [show Line.bare [32, 35, 32, 97] = true from by decide]
  have B5 : Below w.heap.size w w5 := (B4.alloc B4.size _).trans (hb5.mono (by have := B4.size; simp; omega))
  clear hb5 x4 k4 B4
  go_wp2_with fail
  refine (bare_any none 0 0 [] _ Sl.nil (fun _ => rfl) (by omega)).mono ?_
  rintro e w6 ⟨rfl, hb6⟩
  rw [show Line.bare [] = true from by decide]
  have B6 : Below w.heap.size w w6 := B5.trans (hb6.mono B5.size)
  clear hb6 B5
  go_wp2_with fail
  refine (bare_any _ 3 3 [97, 32, 35] _ (Sl.newB [97, 32, 35] (by decide) (by decide) rfl rfl rfl) (fun h => by cases h) (by omega)).mono ?_
  rintro e w7 ⟨rfl, hb7⟩
  rw [show Line.bare [97, 32, 35] = false from by decide]
  have B7 : Below w.heap.size w w7 := (B6.alloc B6.size _).trans (hb7.mono (by have := B6.size; simp; omega))
  clear hb7 B6
  go_wp2
  go_ret
  exact ⟨rfl, B7⟩

end Go.Proofs.Ytjdkmfcjflggfaa
