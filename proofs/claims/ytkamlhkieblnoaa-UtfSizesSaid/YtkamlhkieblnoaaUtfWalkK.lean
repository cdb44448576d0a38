/- Put and Read told in one, whether there are signs or not: for laws that go on the same way. -/
import Derived.Test.YtkamlhkieblnoaaUtfWalkJ
namespace Go.Proofs.Ytkamlhkieblnoaa
open Go.RowKit

theorem put_both (a : Option Addr) (n cap : Nat) (zs : List Int) (w : World) (hs : Sl .i64 w a n cap zs) (hn : n ≤ 17592186044416) :
    Calls Try.prog 11 #[.slice a n cap] w fun e w' => ∃ (a' : Option Addr) (m c : Nat) (er : Int), e = .returned (.tuple #[.slice a' m c, .int .i64 er]) ∧
      ((Utf.allGood zs = true ∧ er = 0 ∧ m = (Utf.put zs).length ∧ Sl .u8 w' a' m c (Utf.put zs)) ∨ (Utf.allGood zs = false ∧ er = 10 ∧ m = 0 ∧ c = 0 ∧ a' = none)) ∧ Below w.heap.size w w' := by
  cases hg : Utf.allGood zs with
  | true =>
    refine (put_ok a n cap zs w hs hn hg).mono ?_
    rintro e w' ⟨g, c, rfl, h, hb⟩
    exact ⟨some ⟨g, 0, none⟩, _, c, 0, rfl, .inl ⟨rfl, rfl, rfl, h⟩, hb⟩
  | false =>
    refine (put_bad a n cap zs w hs hn hg).mono ?_
    rintro e w' ⟨rfl, hb⟩
    exact ⟨none, 0, 0, 10, rfl, .inr ⟨rfl, rfl, rfl, rfl, rfl⟩, hb⟩

end Go.Proofs.Ytkamlhkieblnoaa
