import Derived.Test.YtbfjihbkkcggmaaGreatPackA
/- Used by the law. -/
namespace Go.Proofs.YtbfjihbkkcggmaaGreat
namespace Tri

structure St where
  final : Bool
  arcs : List (Int × Int)
def St.no : St := ⟨false, []⟩

def behind : Option Int → Int → Bool
  | none, _ => true
  | some q, s => decide (q < s)
def arcsOk (n i : Nat) : Option Int → List (Int × Int) → Bool
  | _, [] => true
  | p, a :: r => Utf.good a.1 && decide ((i : Int) < a.2) && decide (a.2 < (n : Int)) && behind p a.1 && arcsOk n i (some a.1) r
def checkA (n : Nat) : Nat → List St → Bool
  | _, [] => true
  | i, s :: r => arcsOk n i none s.arcs && checkA n (i + 1) r
def check (l : List St) : Bool := checkA l.length 0 l && decide (1 ≤ l.length) && decide (l.length ≤ 6001)

def step (l : List St) (f s : Int) : Int × Bool :=
  if f < 0 ∨ (l.length : Int) ≤ f then (0, false)
  else match (l.getD f.toNat St.no).arcs.find? fun a => decide (a.1 = s) with
    | some a => (a.2, true)
    | none => (0, false)

/-! ### what the beginnings are -/
def sl (a b : List Int) : Prop := a.length < b.length ∨ a.length = b.length ∧ lessL a b = true
/-! ### how many there are -/
end Tri
end Go.Proofs.YtbfjihbkkcggmaaGreat

/- Used by the law. -/
namespace Go.Proofs.YtbfjihbkkcggmaaGreat
namespace Tri

/-! ### it may be -/
/-! ### where words lead -/
def walk (l : List St) : Int → List Int → Option Int
  | a, [] => some a
  | a, s :: w => if (step l a s).2 = true then walk l (step l a s).1 w else none
/-! ### how much it has -/
end Tri
end Go.Proofs.YtbfjihbkkcggmaaGreat

/- Used by the law. -/
namespace Go.Proofs.YtbfjihbkkcggmaaGreat
namespace Daw
open Tri

/-! ### kinds -/
structure Kd where
  E : List (List Int)
  L : Nat
  F : List Int
def Kd.no : Kd := ⟨[], 0, []⟩
/-! ### what the kinds are -/
end Daw
end Go.Proofs.YtbfjihbkkcggmaaGreat

/- Used by the law. -/
namespace Go.Proofs.YtbfjihbkkcggmaaGreat
namespace Daw
open Tri

/-! ### it may be -/
/-! ### where words lead -/
/-! ### it is least -/
end Daw
end Go.Proofs.YtbfjihbkkcggmaaGreat
