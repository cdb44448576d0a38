/- Used by the law. -/
import Derived.Test.YtimjdlbhbiklgaaIterLaw
namespace Go.Proofs.Ytimjdlbhbiklgaa
open Go.RowKit
theorem Sl.keep {k : IntKind} {S : Nat → Prop} {w w' : World} {a : Option Addr} {n cap : Nat} {zs : List Int} (h : Sl k w a n cap zs) (hk : Keep S w w') (hs : ∀ b off, a = some ⟨b, off, none⟩ → S b) : Sl k w' a n cap zs := by
  obtain ⟨h1, h2, h3, h4, h5⟩ := h
  refine ⟨h1, h2, h3, h4, ?_⟩
  rcases h5 with h5 | ⟨b, off, ha, hc⟩
  · exact .inl h5
  · exact .inr ⟨b, off, ha, fun i hi => hk.cell (hc i hi) (hs b off ha)⟩
theorem own_keep {S : Nat → Prop} {w w' : World} {base : Nat} {e : TypeId} {size : Nat} {v : Value} {k : Nat} {xs : List Value} (h : w.ownsRow base e size v k xs) (hk : Keep S w w') (hs : ∀ r, v.ownBlock = some r → S r) : w'.ownsRow base e size v k xs := by
  refine ⟨h.1, ?_⟩
  rcases h.2 with hn | ⟨g, cap, cur, rfl, hb, hgg, rest⟩
  · exact .inl hn
  · exact .inr ⟨g, cap, cur, rfl, hb, hk.heap hgg (hs g rfl), rest⟩
end Go.Proofs.Ytimjdlbhbiklgaa
