import Derived.Test.YtimjdlbhbiklgaaPackC
import Derived.LoopN
import Derived.Lib.Strings
import Derived.Test.YtimjdlbhbiklgaaPackN
/- Used by the law. -/
namespace Go.Proofs.Ytimjdlbhbiklgaa
open Go.RowKit

theorem Sl.new {w : World} {t : TypeId} (zs : List Int) (hw : ∀ z ∈ zs, 0 ≤ z ∧ z ≤ 255) (hl : zs.length ≤ maxLen) : Sl .u8 (w.alloc (.cells (u8s zs).toArray t)) (some ⟨w.heap.size, 0, none⟩) zs.length zs.length zs := by
  refine ⟨rfl, Nat.le_refl _, hl, fun z hz => WalkArith.wf_u8 (hw z hz), .inr ⟨w.heap.size, 0, rfl, fun i hi => ?_⟩⟩
  rw [cell_of_row _ w.heap.size _ _ t (0, 0) (heap_alloc_new w _)]
  simp [u8s, hi]
end Go.Proofs.Ytimjdlbhbiklgaa

/- Used by the law. -/
namespace Go.Proofs.Ytimjdlbhbiklgaa
open Go.RowKit

end Go.Proofs.Ytimjdlbhbiklgaa

/- Used by the law. -/
namespace Go.Proofs.Ytimjdlbhbiklgaa
open Go.RowKit


end Go.Proofs.Ytimjdlbhbiklgaa

/- Used by the law. -/
namespace Go.Proofs.Ytimjdlbhbiklgaa
open Go.RowKit

theorem put_wf {l : List Int} (h : Utf.allGood l = true) : ∀ z ∈ Utf.put l, (Lit.int .u8 z).wf = true := fun z hz => WalkArith.wf_u8 (Utf.put_bytes l h z hz)

set_option maxRecDepth 100000 in
theorem put_ok (a : Option Addr) (n cap : Nat) (zs : List Int) (w : World) (hs : Sl .i64 w a n cap zs) (hn : n ≤ 17592186044416) (hg : Utf.allGood zs = true) :
    Calls Try.prog 65 #[.slice a n cap] w fun e w' => ∃ g c, e = .returned (.tuple #[.slice (some ⟨g, 0, none⟩) (Utf.put zs).length c, .int .i64 0]) ∧
      Sl .u8 w' (some ⟨g, 0, none⟩) (Utf.put zs).length c (Utf.put zs) ∧ Below w.heap.size w w' :=
  (put_any a n cap zs w hs hn).mono fun e w' h => by
    obtain ⟨hb, ⟨_, g, c, he, ho⟩ | ⟨h0, _⟩⟩ := h
    · exact ⟨g, c, he, Sl.of_owns ho (put_wf hg) rfl, hb⟩
    · rw [hg] at h0; cases h0
set_option maxRecDepth 100000 in
theorem put_is (a : Option Addr) (n cap : Nat) (zs bs : List Int) (m : Nat) (w : World) (hs : Sl .i64 w a n cap zs) (hn : n ≤ 17592186044416) (hg : Utf.allGood zs = true) (hp : Utf.put zs = bs) (hm : bs.length = m) :
    Calls Try.prog 65 #[.slice a n cap] w fun e w' => ∃ g c, e = .returned (.tuple #[.slice (some ⟨g, 0, none⟩) m c, .int .i64 0]) ∧ Sl .u8 w' (some ⟨g, 0, none⟩) m c bs ∧ Below w.heap.size w w' := by
  subst hm; subst hp
  exact put_ok a n cap zs w hs hn hg
end Go.Proofs.Ytimjdlbhbiklgaa

/- Used by the law. -/
namespace Go.Proofs.Ytimjdlbhbiklgaa
open Go.RowKit

def PutIs (zs bs : List Int) (er : Int) : Prop := (Utf.allGood zs = true ∧ bs = Utf.put zs ∧ er = 0) ∨ (Utf.allGood zs = false ∧ bs = [] ∧ er = 10)
theorem PutIs.wf {zs bs : List Int} {er : Int} (h : PutIs zs bs er) : ∀ z ∈ bs, 0 ≤ z ∧ z ≤ 255 := by
  obtain ⟨h1, rfl, _⟩ | ⟨_, rfl, _⟩ := h
  · exact Utf.put_bytes zs h1
  · simp
def TakeIs (zs : List Int) (s : Int) (k : Nat) (er : Int) : Prop := (Utf.takeL zs = some (s, k) ∧ er = 0) ∨ (Utf.takeL zs = none ∧ s = 0 ∧ k = 0 ∧ er = 10)
theorem TakeIs.v {zs : List Int} {s : Int} {k : Nat} {er : Int} (h : TakeIs zs s k er) : takeV (Utf.takeL zs) = .tuple #[.int .i64 s, .int .i64 k, .int .i64 er] := by
  obtain ⟨h1, rfl⟩ | ⟨h1, rfl, rfl, rfl⟩ := h
  · rw [h1]; rfl
  · rw [h1]; rfl
end Go.Proofs.Ytimjdlbhbiklgaa
