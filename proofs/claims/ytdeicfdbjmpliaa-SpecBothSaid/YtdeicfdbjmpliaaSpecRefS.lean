/- The document's Same of two specs, and its side. -/
import Derived.Test.YtdeicfdbjmpliaaSpecRefB
import Derived.Test.YtdeicfdbjmpliaaPackD
namespace Go.Proofs.Ytdeicfdbjmpliaa
open Go.RowKit

set_option maxRecDepth 100000 in
set_option maxHeartbeats 3200000 in
theorem rsamesp_is (ba : Option Addr) (bn bc : Nat) (bs : List Int) (ra : Option Addr) (rn rc : Nat) (xs : List Rw) (ba' : Option Addr) (bn' bc' : Nat) (bs' : List Int) (ra' : Option Addr) (rn' rc' : Nat) (xs' : List Rw) (r : Bool) (w : World)
    (h1 : Sl .u64 w ba bn bc bs) (h2 : Rs w ra rn rc xs) (h3 : Sl .u64 w ba' bn' bc' bs') (h4 : Rs w ra' rn' rc' xs') (hr : (decide (ruls xs = ruls xs') && decide (bs = bs')) = r) :
    Calls Try.prog 14 #[.agg #[.slice ba bn bc, .slice ra rn rc], .agg #[.slice ba' bn' bc', .slice ra' rn' rc']] w fun e w' => e = .returned (.bool r) ∧ Below w.heap.size w w' := by
  have H1 := Lib.hid h1
  have H2 := Lib.hid h2
  have H3 := Lib.hid h3
  have H4 := Lib.hid h4
  obtain ⟨p, hp⟩ : ∃ b, decide (ruls xs = ruls xs') = b := ⟨_, rfl⟩
  obtain ⟨q, hq⟩ : ∃ b, decide (bs = bs') = b := ⟨_, rfl⟩
  have HP := Lib.hid hp
  have HQ := Lib.hid hq
  have HR : Hid ((p && q) = r) := by show _ = _; rw [← hr, hp, hq]
  have HBB : ∀ (o o' : Obj), Hid (Below w.heap.size w ((w.alloc o).alloc o')) := fun o o' => ((Below.refl _ w).alloc (Nat.le_refl _) o).alloc (by simp) o'
  clear h1 h2 h3 h4 hr hp hq
  go_enter Try.func14, Try.ntmps14
  go_wp2_with fail
  refine (rsames_is ra ra' rn rn' rc rc' xs xs' p _ ((H2.out.alloc _).alloc _) ((H4.out.alloc _).alloc _) HP.out).mono ?_
  rintro e w1 ⟨rfl, k, rfl⟩
  cases p
  · go_wp2
    go_ret
    exact ⟨by rw [← HR.out]; rfl, below_drawn (HBB _ _).out ⟨_, rfl⟩⟩
  · go_wp2_with fail
    refine (csame_is ba ba' bn bn' bc bc' bs bs' q _ (((H1.out.alloc _).alloc _).drewN _) (((H3.out.alloc _).alloc _).drewN _) HQ.out).mono ?_
    rintro e w1 ⟨rfl, k2, rfl⟩
    go_wp2
    go_ret
    exact ⟨by rw [← HR.out]; rfl, below_drawn (HBB _ _).out ⟨_, rfl⟩⟩

/-- signs of a field, as a call answers them -/
def SignsIs (w w' : World) (e : Ending) (r : Option (List Int)) : Prop :=
  ∃ a' m c' l er, e = .returned (.tuple #[.slice a' m c', .int .i64 er]) ∧ Sl .i64 w' a' m c' l ∧ ((r = some l ∧ er = 0) ∨ (r = none ∧ l = [] ∧ er = 10)) ∧ Below w.heap.size w w'

set_option maxRecDepth 100000 in
theorem str_is {f g : List Int} {lit : List UInt8} (hf : ∀ z ∈ f, (Lit.int .u8 z).wf = true) (hg : ∀ z ∈ g, (Lit.int .u8 z).wf = true) (hl : (strOfNums g).toList = lit) : ((strOfNums f).toList == lit) = decide (f = g) := by
  by_cases h : f = g
  · subst h; rw [hl]; simp
  · rw [decide_eq_false h, ← hl]
    apply beq_eq_false_iff_ne.2
    intro e
    refine h (bytes_ne hf hg ?_)
    rw [ByteArray.toList_eq, ByteArray.toList_eq] at e
    have e2 : (strOfNums f).data = (strOfNums g).data := Array.ext' e
    cases h1 : strOfNums f with
    | mk d => cases h2 : strOfNums g with
      | mk d' => rw [h1, h2] at e2; exact congrArg ByteArray.mk e2

set_option maxRecDepth 100000 in
set_option maxHeartbeats 3200000 in
theorem rside_is (a : Option Addr) (n cap : Nat) (f : List Int) (r : Option (List Int)) (w : World) (hs : Sl .u8 w a n cap f) (hn : n ≤ 1000000) (hr : Spec.side f = r) :
    Calls Try.prog 60 #[.slice a n cap] w fun e w' => SignsIs w w' e r := by
  have hstr := hs.str
  have HS := Lib.hid hs
  have he := str_is (f := f) (g := [95]) (lit := [95]) hs.2.2.2.1 (by decide) (by rw [ByteArray.toList_eq]; rfl)
  unfold Spec.side at hr
  by_cases hf : f = [95]
  · rw [decide_eq_true hf] at he
    obtain rfl : r = some [] := by rw [← hr, if_pos hf]
    clear hs hr hf
    go_enter Try.func60, Try.ntmps60
    go_wp2
    go_ret2
    exact ⟨none, 0, 0, [], 0, rfl, Sl.nil, .inl ⟨rfl, rfl⟩, Below.refl _ _⟩
  · rw [decide_eq_false hf] at he
    rw [if_neg hf] at hr
    obtain ⟨l, er, hri⟩ := readIs_ex f
    have HRI := Lib.hid hri
    have HR := Lib.hid hr
    clear hs hr hri hf
    go_enter Try.func60, Try.ntmps60
    go_wp2_with fail
    refine (rread_gen a n cap f l er w HRI.out HS.out (by omega)).mono ?_
    rintro e w1 ⟨a', c, rfl, hs1, hb⟩
    have HS1 := Lib.hid hs1
    have HB := Lib.hid hb
    clear hs1 hb
    go_wp2
    go_ret2
    refine ⟨a', l.length, c, l, er, rfl, HS1.out, ?_, HB.out⟩
    rcases HRI.out with ⟨h, he⟩ | ⟨h, hl, he⟩
    · exact .inl ⟨by rw [← HR.out]; exact Spec.signs_of h, he⟩
    · exact .inr ⟨by rw [← HR.out]; exact Spec.signs_of h, hl, he⟩

end Go.Proofs.Ytdeicfdbjmpliaa
