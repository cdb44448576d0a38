import Derived.Test.YtdondndalpmdgaaSpecRefB
import Derived.Test.YtdondndalpmdgaaPackD
import Derived.Test.YtdondndalpmdgaaSpecRefM
import Derived.Test.YtdondndalpmdgaaPackP
import Derived.Test.YtdondndalpmdgaaPackF
/- The document's Same of two specs, and its side. -/
namespace Go.Proofs.Ytdondndalpmdgaa
open Go.RowKit

/-- signs of a field, as a call answers them -/
def SignsIs (w w' : World) (e : Ending) (r : Option (List Int)) : Prop :=
  ∃ a' m c' l er, e = .returned (.tuple #[.slice a' m c', .int .i64 er]) ∧ Sl .i64 w' a' m c' l ∧ ((r = some l ∧ er = 0) ∨ (r = none ∧ l = [] ∧ er = 10)) ∧ Below w.heap.size w w'

set_option maxRecDepth 100000 in
theorem str_is {f g : List Int} {lit : List UInt8} (hf : ∀ z ∈ f, (Lit.int .u8 z).wf = true) (hg : ∀ z ∈ g, (Lit.int .u8 z).wf = true) (hl : (strOfNums g).toList = lit) : ((strOfNums f).toList == lit) = decide (f = g) := by
  by_cases h : f = g
  · subst h; rw [hl]; simp
  · rw [decide_eq_false h, ← hl]
    apply beq_eq_false_iff_ne.2
    intro e
    refine h (bytes_ne hf hg ?_)
    rw [ByteArray.toList_eq, ByteArray.toList_eq] at e
    have e2 : (strOfNums f).data = (strOfNums g).data := Array.ext' e
    cases h1 : strOfNums f with
    | mk d => cases h2 : strOfNums g with
      | mk d' => rw [h1, h2] at e2; exact congrArg ByteArray.mk e2

end Go.Proofs.Ytdondndalpmdgaa

/- The document's keys of layer 7: rules of rows. Written by wip/gen/spec_keys.py. -/
namespace Go.Proofs.Ytdondndalpmdgaa
open Go.RowKit

set_option maxRecDepth 100000 in
theorem drop_getD {l : List Int} {i : Nat} (h : i < l.length) : l.drop i = l.getD i 0 :: l.drop (i + 1) := by
  rw [List.drop_eq_getElem_cons h]; simp [h]

end Go.Proofs.Ytdondndalpmdgaa

/- The document's rules of layer 7: what REP, KEY and MAP tell. Written by wip/gen/spec_rules.py. -/
namespace Go.Proofs.Ytdondndalpmdgaa
open Go.RowKit

set_option maxRecDepth 100000 in
theorem take_rul {xs : List Rw} {j : Nat} {x : Rw} (hj : j < xs.length) (hx : xs.getD j Rw.no = x) : (ruls xs).take (j + 1) = (ruls xs).take j ++ [x.r] := by
  have hj' : j < (ruls xs).length := by rw [ruls_length]; exact hj
  rw [List.take_succ_eq_append_getElem hj']
  congr 2
  have := ruls_at xs j
  rw [hx, List.getD_eq_getElem?_getD, List.getElem?_eq_getElem hj', Option.getD_some] at this
  exact this
set_option maxRecDepth 100000 in
/-- in a block of two slices lie no numbers, and no rules -/
theorem slf_spec {q : IntKind} {w : World} {k : Nat} {ty : TypeId} {fr : Nat × Nat} {a : Option Addr} {n c : Nat} {zs : List Int} (h0 : w.heap[k]? = some (.cells #[.slice none 0 0, .slice none 0 0] ty fr)) (h : Sl q w a n c zs) : Slf (some k) a n := by
  rcases Nat.eq_zero_or_pos n with hz | hp
  · exact .inl hz
  · obtain ⟨b, off, ha, _, hc⟩ := h.at hp
    refine .inr ⟨b, off, ha, fun e => ?_⟩
    cases e
    have h1 := hc 0 hp
    simp only [World.cell?, h0] at h1
    match off, h1 with
    | 0, h1 => simp at h1
    | 1, h1 => simp at h1
    | off + 2, h1 => simp at h1
set_option maxRecDepth 100000 in
theorem rs_kept {w w' : World} {a : Option Addr} {n c k : Nat} {ty : TypeId} {fr : Nat × Nat} {xs : List Rw} (h : Rs w a n c xs) (hg : w.grownBy w' (some k)) (h0 : w.heap[k]? = some (.cells #[.slice none 0 0, .slice none 0 0] ty fr)) : Rs w' a n c xs := by
  obtain ⟨h1, h2, h3, h4, h5⟩ := h
  refine ⟨h1, h2, h3, fun x hm => (h4 x hm).grown hg ⟨slf_spec h0 (h4 x hm).1, slf_spec h0 (h4 x hm).2.1⟩, ?_⟩
  rcases h5 with h5 | ⟨b, off, ha, hc⟩
  · exact .inl h5
  · rcases Nat.eq_zero_or_pos n with hz | hp
    · exact .inl hz
    · refine .inr ⟨b, off, ha, fun i hi => (hc i hi).grown' hg (fun e => ?_)⟩
      cases e
      have h1 := (hc 0 hp).2.2
      simp only [World.cell?, h0] at h1
      match off, h1 with
      | 0, h1 => simp at h1
      | off + 1, h1 => simp at h1
set_option maxRecDepth 100000 in
theorem word_is {g : List Int} {lit : List UInt8} (f : List Int) (r : Bool) (hf : ∀ z ∈ f, (Lit.int .u8 z).wf = true) (hg : ∀ z ∈ g, (Lit.int .u8 z).wf = true) (hl : (strOfNums g).data.toList = lit) (hr : decide (f = g) = r) : ((strOfNums f).toList == lit) = r := by
  rw [str_is hf hg (by rw [ByteArray.toList_eq]; exact hl), hr]

set_option maxRecDepth 100000 in
theorem lt_one' (w : World) (A : Obj) : w.heap.size < (w.alloc A).heap.size := by unfold World.alloc; simp

end Go.Proofs.Ytdondndalpmdgaa

/- The document's Read of layer 7. Written by wip/gen/spec_read.py. -/
namespace Go.Proofs.Ytdondndalpmdgaa
open Go.RowKit

set_option maxRecDepth 100000 in
theorem fieldsA_short : ∀ (b cur : List Int), ∀ x ∈ Line.fieldsA cur b, x.length ≤ cur.length + b.length
  | [], cur, x, hx => by
    unfold Line.fieldsA at hx
    split at hx
    · simp at hx
    · simp only [List.mem_singleton] at hx; subst hx; simp
  | c :: cs, cur, x, hx => by
    unfold Line.fieldsA at hx
    simp only [List.length_cons]
    split at hx
    · split at hx
      · have := fieldsA_short cs [] x hx; simp at this; omega
      · rcases List.mem_cons.1 hx with rfl | hx
        · omega
        · have := fieldsA_short cs [] x hx; simp at this; omega
    · have := fieldsA_short cs (cur ++ [c]) x hx
      simp at this; omega
set_option maxRecDepth 100000 in
theorem fields_short {b : List Int} : ∀ x ∈ Line.fields b, x.length ≤ b.length := fun x hx => by
  have := fieldsA_short b [] x hx
  simpa using this

end Go.Proofs.Ytdondndalpmdgaa
