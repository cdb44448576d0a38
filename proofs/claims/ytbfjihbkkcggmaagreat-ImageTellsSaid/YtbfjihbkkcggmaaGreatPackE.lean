import Derived.Test.YtbfjihbkkcggmaaGreatPackK
import Derived.Test.YtbfjihbkkcggmaaGreatPackJ
import Derived.Test.YtbfjihbkkcggmaaGreatChecked
import Derived.Test.YtbfjihbkkcggmaaGreatPackA
import Derived.WalkKit
import Derived.WalkLawsBesides
import Derived.Below
import Derived.ProofKit
import Derived.Outline
import Derived.BigQuiet
import Derived.BigGuardPart
import Derived.Deep.QuietTactic
import Derived.Test.YtbfjihbkkcggmaaGreatPackD
import Derived.Deep.RegionLaw
import Derived.Laws.BitsAllLaws
import Derived.Deep.AppendLies
import Derived.Deep.DeepMust
import Derived.Deep.DeepFit
import Derived.Maps.RangeWalk
import Derived.Lib.Hide
import Derived.OpenShut
import Derived.Test.YtbfjihbkkcggmaaGreatPackF
import Derived.Laws.BytesArg
import Derived.LoopN
import Derived.Lib.Strings
import Derived.Deep.RegionWith
import Derived.Test.YtbfjihbkkcggmaaGreatSpecRefF
import Derived.WalkArith
import Derived.Laws.AppendOwn
import Derived.ArgAppend
import Derived.Lib.SlBytesConst
import Derived.Test.YtbfjihbkkcggmaaGreatPackL
/- Used by the law. -/
namespace Go.Proofs.YtbfjihbkkcggmaaGreat
open Go.RowKit

end Go.Proofs.YtbfjihbkkcggmaaGreat

/- Used by the law. -/
namespace Go.Proofs.YtbfjihbkkcggmaaGreat
open Go.RowKit

end Go.Proofs.YtbfjihbkkcggmaaGreat

/- Used by the law. -/
namespace Go.Proofs.YtbfjihbkkcggmaaGreat
open Go.RowKit

end Go.Proofs.YtbfjihbkkcggmaaGreat

/- Used by the law. -/
namespace Go.Proofs.YtbfjihbkkcggmaaGreat
open Go.RowKit

end Go.Proofs.YtbfjihbkkcggmaaGreat

/- Used by the law. -/
namespace Go.Proofs.YtbfjihbkkcggmaaGreat
open Go.RowKit

def takeV : Option (Int × Nat) → Value
  | some (n, k) => .tuple #[.int .i64 n, .int .i64 k, .int .i64 0]
  | none => .tuple #[.int .i64 0, .int .i64 0, .int .i64 10]

end Go.Proofs.YtbfjihbkkcggmaaGreat

/- Used by the law. -/
namespace Go.Proofs.YtbfjihbkkcggmaaGreat
open Go.RowKit

end Go.Proofs.YtbfjihbkkcggmaaGreat

/- Used by the law. -/
namespace Go.Proofs.YtbfjihbkkcggmaaGreat
open Go.RowKit

theorem Sl.new {w : World} {t : TypeId} (zs : List Int) (hw : ∀ z ∈ zs, 0 ≤ z ∧ z ≤ 255) (hl : zs.length ≤ maxLen) : Sl .u8 (w.alloc (.cells (u8s zs).toArray t)) (some ⟨w.heap.size, 0, none⟩) zs.length zs.length zs := by
  refine ⟨rfl, Nat.le_refl _, hl, fun z hz => WalkArith.wf_u8 (hw z hz), .inr ⟨w.heap.size, 0, rfl, fun i hi => ?_⟩⟩
  rw [cell_of_row _ w.heap.size _ _ t (0, 0) (heap_alloc_new w _)]
  simp [u8s, hi]
end Go.Proofs.YtbfjihbkkcggmaaGreat

/- Used by the law. -/
namespace Go.Proofs.YtbfjihbkkcggmaaGreat
open Go.RowKit

end Go.Proofs.YtbfjihbkkcggmaaGreat

/- Used by the law. -/
namespace Go.Proofs.YtbfjihbkkcggmaaGreat
open Go.RowKit


end Go.Proofs.YtbfjihbkkcggmaaGreat

/- Used by the law. -/
namespace Go.Proofs.YtbfjihbkkcggmaaGreat
open Go.RowKit

end Go.Proofs.YtbfjihbkkcggmaaGreat

/- Used by the law. -/
namespace Go.Proofs.YtbfjihbkkcggmaaGreat
open Go.RowKit

def PutIs (zs bs : List Int) (er : Int) : Prop := (Utf.allGood zs = true ∧ bs = Utf.put zs ∧ er = 0) ∨ (Utf.allGood zs = false ∧ bs = [] ∧ er = 10)
theorem PutIs.wf {zs bs : List Int} {er : Int} (h : PutIs zs bs er) : ∀ z ∈ bs, 0 ≤ z ∧ z ≤ 255 := by
  obtain ⟨h1, rfl, _⟩ | ⟨_, rfl, _⟩ := h
  · exact Utf.put_bytes zs h1
  · simp
theorem PutIs.le {zs bs : List Int} {er : Int} (h : PutIs zs bs er) : bs.length ≤ 4 * zs.length := by
  obtain ⟨_, rfl, _⟩ | ⟨_, rfl, _⟩ := h
  · exact Utf.put_length_le zs
  · simp
def TakeIs (zs : List Int) (s : Int) (k : Nat) (er : Int) : Prop := (Utf.takeL zs = some (s, k) ∧ er = 0) ∨ (Utf.takeL zs = none ∧ s = 0 ∧ k = 0 ∧ er = 10)
theorem TakeIs.v {zs : List Int} {s : Int} {k : Nat} {er : Int} (h : TakeIs zs s k er) : takeV (Utf.takeL zs) = .tuple #[.int .i64 s, .int .i64 k, .int .i64 er] := by
  obtain ⟨h1, rfl⟩ | ⟨h1, rfl, rfl, rfl⟩ := h
  · rw [h1]; rfl
  · rw [h1]; rfl
end Go.Proofs.YtbfjihbkkcggmaaGreat

/- Used by the law. -/
namespace Go.Proofs.YtbfjihbkkcggmaaGreat
open Go.RowKit

theorem val_take {zs : List Int} {i : Nat} (h : i < zs.length) : Num.val (zs.take (i + 1)) = Num.val (zs.take i) * 10 + (zs.getD i 0 - 48).toNat := by
  rw [List.take_succ_eq_append_getElem h, Num.val_snoc]
  simp [h]
end Go.Proofs.YtbfjihbkkcggmaaGreat

/- Used by the law. -/
namespace Go.Proofs.YtbfjihbkkcggmaaGreat
open Go.RowKit

end Go.Proofs.YtbfjihbkkcggmaaGreat

/- Used by the law. -/
namespace Go.Proofs.YtbfjihbkkcggmaaGreat
open Go.RowKit

theorem all_ruls {xs : List Rw} {j : Nat} {r : Rul} (h : j < xs.length) (hr : (xs.getD j Rw.no).r = r) : (ruls xs).take (j + 1) = (ruls xs).take j ++ [r] := by
  have hl : j < (ruls xs).length := by rw [ruls_length]; exact h
  rw [List.take_succ_eq_append_getElem hl]
  congr 2
  have := ruls_at xs j
  rw [hr] at this
  rw [← this, List.getD_eq_getElem?_getD, List.getElem?_eq_getElem hl, Option.getD_some]

end Go.Proofs.YtbfjihbkkcggmaaGreat
