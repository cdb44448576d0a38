/- Short names. -/
import Derived.WalkKit
import Derived.ProofKit
import Derived.Lib.Hide
namespace Go.Proofs.YtkiamgcpcneggaaGreat
open Go.RowKit
theorem omg {p : Prop} (h : p := by omega) : p := h
theorem rfq {p : Prop} (h : p := by rfl) : p := h
theorem krf {p : Prop} (h : p := by kernel_rfl) : p := h
theorem smp {p : Prop} (h : p := by simp) : p := h
abbrev LIn := List Int
abbrev LLI := List (List Int)
abbrev OAd := Option Addr
theorem lrf {n : Nat} : n ≤ n := Nat.le_refl n
theorem hdq {p : Prop} (h : p) : RowKit.Hid p := h
theorem hltq {α : Type} {xs : Array α} {i : Nat} {b : α} (h : xs[i]? = some b) : i < xs.size := (Array.getElem?_eq_some_iff.1 h).1
theorem gdq {α : Type} {xs : List α} {i : Nat} {d : α} : xs.getD i d = xs[i]?.getD d := List.getD_eq_getElem?_getD
theorem geg {α : Type} {l : List α} {i : Nat} (h : i < l.length) : l[i]? = some l[i] := List.getElem?_eq_getElem h
theorem tsa {α : Type} {l : List α} {i : Nat} (h : i < l.length) : l.take (i + 1) = l.take i ++ [l[i]] := List.take_succ_eq_append_getElem h
theorem tol {α : Type} {l : List α} {i : Nat} (h : l.length ≤ i) : l.take i = l := List.take_of_length_le h
theorem sij {α : Type} {a b : α} : (some a = some b) = (a = b) := Option.some.injEq a b
theorem msg {α : Type} {a b : α} (h : a ∈ [b]) : a = b := List.mem_singleton.1 h
theorem map1 {α : Type} {a : α} {s t : List α} (h : a ∈ s ++ t) : a ∈ s ∨ a ∈ t := List.mem_append.1 h
theorem han (w : World) (o : Obj) : (w.alloc o).heap[w.heap.size]? = some o := heap_alloc_new w o
end Go.Proofs.YtkiamgcpcneggaaGreat
