/- Used by the law. -/
import Derived.Test.YtimjdlbhbiklgaaPackT
import Derived.Shelf.GgSortFunc.Tiny
namespace Go.Proofs.Ytimjdlbhbiklgaa
open Go.RowKit Go.Lib Go.Sort

variable {α : Type} [Inhabited α] {enc : α → List Value} {k blk off n g : Nat} {lb : Array Value} {lt : α → α → Bool} {w : World}

noncomputable def svT : TypeInfo := (Try.prog.info? 72).get (by kernel_rfl)
noncomputable def svE : TypeInfo := (Try.prog.info? 106).get (by kernel_rfl)
set_option maxRecDepth 100000 in
theorem svK (n : Nat) (h2 : 2 ≤ n) : Lib.swapperK n svE 25 = 9 := by
  have a : svE.hasPointers = true := by kernel_rfl
  have b : (svE.bytes == 8) = false := by kernel_rfl
  have c : (n == 0) = false := by simp; omega
  have d : (n == 1) = false := by simp; omega
  simp [Lib.swapperK, a, b, c, d]
theorem svK1 : Lib.swapperK 1 svE 25 = 2 := rfl

set_option maxRecDepth 100000 in
theorem sortClasses_is (hk : ∀ x, (enc x).length = 5) (h1 : ∀ x, ∀ v ∈ enc x, v.oneCell' = true) (hO : SWO lt) (eg : ∀ args w, (callFunc g args).run Try.prog w = .ok (.enter g args) w) (c : Nat) (d : Array α) (h0 : 1 ≤ d.size) (hsz : d.size < 4611686018427387904)
    (hless : ∀ (D : Array α) (W : World), D.size = d.size → AtK enc 5 w blk off D W → ∀ i j : Nat, i < d.size → j < d.size →
      Calls Try.prog g (#[.int .i64 i, .int .i64 j] ++ lb) W fun e W' => e = .returned (.bool (lt D[i]! D[j]!)) ∧ ∃ q os, W' = Sort.grow (Sort.ahead W q) os)
    (hH : HoldsK enc 5 w blk off d) (hblk : blk < w.heap.size) :
    Calls Try.prog 68 #[.iface 72 (.slice (some ⟨blk, off, none⟩) d.size c), .func (.func g) #[] lb] w fun e w' =>
      e = .returned (.tuple #[]) ∧ ∃ d', PermIn 0 d.size d d' ∧ SortedIn lt 0 d.size d' ∧ Post enc 5 blk off d.size w w d' w' := by
  rcases Nat.lt_or_ge d.size 2 with h2 | h2
  · have hd : d.size = 1 := by omega
    have ht := Any.sort_Slice_tiny (P := Try.prog) (ρ := Try.sortS_ren) Try.sortS 72 106 svT svE (by kernel_rfl) (by kernel_rfl) (by kernel_rfl) (by kernel_rfl) 25 (fun _ => by kernel_rfl) (some ⟨blk, off, none⟩) d.size c (by omega) 91 (by rw [hd, svK1]; kernel_rfl) (.func g) #[] lb w
    refine Calls.mono (show Calls Try.prog 68 _ w _ from ht) ?_
    rintro e w' ⟨rfl, os, rfl⟩
    refine ⟨rfl, d, ⟨rfl, fun _ _ => rfl, List.Perm.refl _⟩, fun i j h1 h2 h3 => by omega, rfl, ⟨0, os, ?_⟩, Kp.grow w 0 os⟩
    rw [ahead_zero, putRowK_self enc 5 w blk off d hH]
  · have S : Srt Try.prog enc 5 lt g lb 98 #[.slice (some ⟨blk, off, none⟩) d.size c, typeHandle Try.prog 106] blk off d.size w :=
      ⟨hk, eg, hless, swapSwapsK_of_literal false 98 (fun args W => run_callFunc_extern Try.func98 (by kernel_rfl) (by kernel_rfl) (by kernel_rfl) (e := Extern.ReflectliteSwapper.swap false) (by kernel_rfl) args W) 106 svE (by kernel_rfl) enc 5 hk (by kernel_rfl) (fun _ => by kernel_rfl) h1 blk off d.size c, ⟨d, rfl, hH⟩, hblk, hsz⟩
    have hB : sliceBound Try.prog 106 svE 25 (some ⟨blk, off, none⟩) d.size c = #[.slice (some ⟨blk, off, none⟩) d.size c, typeHandle Try.prog 106] := by
      unfold sliceBound; rw [if_neg (swapperK_gt _ _ _ h2)]
    have hlim : Lib.bitLen d.size < 4611686018427387904 := Nat.lt_of_le_of_lt (Lib.bitLen_le d.size 62 (by omega) (by omega)) (by omega)
    obtain ⟨W, hW⟩ : ∃ W, sliceWorld Try.prog Try.sortS_ren 72 (some ⟨blk, off, none⟩) d.size c w = W := ⟨_, rfl⟩
    have hWg : ∃ os, W = Sort.grow w os := by
      rw [← hW]; unfold sliceWorld
      exact ⟨_, by rw [alloc_eq_grow, alloc_eq_grow, grow_grow]⟩
    obtain ⟨os, hos⟩ := hWg
    have hAW : AtK enc 5 w blk off d W := by
      have := S.same rfl (AtK.refl hH) 0 os
      rw [ahead_zero, ← hos] at this; exact this
    have hKW : Kp blk w W := by rw [hos]; exact Kp.grow w 0 os
    have hp := pdq_is S hO (d.size + 1) 0 d.size (Lib.bitLen d.size) d W (by omega) hAW rfl (Nat.zero_le _) (Nat.le_refl _) hlim (Or.inl rfl)
    have hs := Any.sort_Slice_of_pdq (P := Try.prog) (ρ := Try.sortS_ren) Try.sortS 72 106 svT svE (by kernel_rfl) (by kernel_rfl) (by kernel_rfl) (by kernel_rfl) 25 (fun _ => by kernel_rfl) (some ⟨blk, off, none⟩) d.size c hsz 98 (by rw [svK _ h2]; kernel_rfl) (.func g) #[] lb w
      (fun w' => Post enc 5 blk off d.size w w (pdq lt d 0 d.size (Lib.bitLen d.size) true true) w') (by
        rw [hB, hW]
        refine Calls.mono (show Calls Try.prog 84 _ W _ from hp) ?_
        rintro e w' ⟨rfl, h1, h2, h3⟩
        exact ⟨rfl, h1, h2, hKW.trans h3⟩)
    refine Calls.mono (show Calls Try.prog 68 _ w _ from hs) ?_
    rintro e w' ⟨rfl, hP⟩
    have h := pdq_sorts lt hO d 0 d.size (Lib.bitLen d.size) true true (Nat.zero_le _) (Nat.le_refl _) (Or.inl rfl)
    exact ⟨rfl, _, h.1, h.2, hP⟩
end Go.Proofs.Ytimjdlbhbiklgaa
