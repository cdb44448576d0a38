import Derived.Test.YtbfjihbkkcggmaaPackT
import Derived.Test.YtbfjihbkkcggmaaPackU
import Derived.Test.YtbfjihbkkcggmaaRuleApp
/- The taker's states. -/
namespace Go.Proofs.Ytbfjihbkkcggmaa
open Go.RowKit

set_option maxRecDepth 100000 in
theorem keep_high {w w' : World} {tb E : Nat} (h : w.grownBy w' (some tb)) (ht : tb < E) : ∀ b, E ≤ b → b < w.heap.size → w'.heap[b]? = w.heap[b]? :=
  fun b hb hlt => h.block b hlt (by simp; omega)
set_option maxRecDepth 100000 in
theorem keep_new {w w' : World} {E : Nat} {r : Option Nat} (h : w.grownBy w' r) (ht : ∀ g, r = some g → g < E) : ∀ b, E ≤ b → b < w.heap.size → w'.heap[b]? = w.heap[b]? :=
  fun b hb hlt => h.block b hlt (fun e => by have := ht b e.symm; omega)

/-- what states answers -/
def StatesP (B tb E : Nat) (w' : World) (e : Ending) (r : Option (List Tri.St × List Int)) : Prop :=
  (r = none ∧ e = .panicked formPanic) ∨ ∃ xs l sa sn sc a n c, r = some (sts xs, l) ∧ e = .returned (.slice sa sn sc) ∧ Ss w' sa sn sc xs ∧ High E sa sn ∧ (∀ x ∈ xs, High E x.a x.n) ∧ Tk w' B tb l a n c
/-- how far states are read -/
def StatesQ (N : Nat) (b0 : List Int) (k : Nat) (pre : List Tri.St) (bb : List Int) : Prop :=
  pre.length = k ∧ bb.length ≤ b0.length ∧ Img.qStates N 0 b0 = (Img.qStates (N - k) (k : Int) bb).map (fun x => (pre ++ x.1, x.2))
set_option maxRecDepth 100000 in
theorem StatesQ.start (n : Nat) (b0 : List Int) : StatesQ n b0 0 [] b0 := by
  refine ⟨rfl, by omega, ?_⟩
  rw [Nat.sub_zero, Int.natCast_zero]
  cases Img.qStates n 0 b0 <;> simp
set_option maxRecDepth 100000 in
theorem qArcs_len (i : Int) : ∀ (k : Nat) (p : Int) (b : List Int) (l : List (Int × Int)) (z : List Int), Img.qArcs i k p b = some (l, z) → z.length ≤ b.length
  | 0, p, b, l, z, h => by rw [Img.qArcs] at h; cases h; exact Nat.le_refl _
  | k + 1, p, b, l, z, h => by
    rw [Img.qArcs] at h
    split at h
    · cases h
    · rename_i s r h1
      split at h
      · cases h
      · rename_i t q h2
        split at h
        · cases h
        · rename_i l' z' h3
          cases h
          have := qArcs_len i k _ _ _ _ h3
          have := Img.take_less h1
          have := Img.take_less h2
          omega
set_option maxRecDepth 100000 in
theorem StatesQ.next {N : Nat} {b0 : List Int} {k : Nat} {pre : List Tri.St} {bb r q : List Int} {x : Nat} {l : List (Int × Int)} (h : StatesQ N b0 k pre bb) (hk : k < N) (hx : Var.take bb = some (x, r)) (hl : Img.qArcs (k : Int) (x / 2) (-1) r = some (l, q)) :
    StatesQ N b0 (k + 1) (pre ++ [⟨decide (x % 2 = 1), l⟩]) q := by
  obtain ⟨h1, h2, h3⟩ := h
  have e1 := Img.take_less hx
  have e2 := qArcs_len _ _ _ _ _ _ hl
  refine ⟨by simp [h1], by omega, ?_⟩
  rw [h3, show N - k = (N - (k + 1)) + 1 from by omega, Img.qStates, Img.qState, hx]
  simp only
  rw [hl]
  simp only
  rw [Int.natCast_add, Int.natCast_one]
  cases Img.qStates (N - (k + 1)) ((k : Int) + 1) q <;> simp
set_option maxRecDepth 100000 in
theorem StatesQ.none {N : Nat} {b0 : List Int} {k : Nat} {pre : List Tri.St} {bb : List Int} (h : StatesQ N b0 k pre bb) (hk : k < N) (hs : Var.take bb = Option.none ∨ ∃ x r, Var.take bb = some (x, r) ∧ Img.qArcs (k : Int) (x / 2) (-1) r = Option.none) : Img.qStates N 0 b0 = Option.none := by
  obtain ⟨h1, h2, h3⟩ := h
  rw [h3, show N - k = (N - (k + 1)) + 1 from by omega, Img.qStates, Img.qState]
  rcases hs with hs | ⟨x, r, hs, hl⟩
  · rw [hs]; rfl
  · rw [hs]; simp only; rw [hl]; rfl
set_option maxRecDepth 100000 in
theorem StatesQ.done {N : Nat} {b0 : List Int} {pre : List Tri.St} {bb : List Int} (h : StatesQ N b0 N pre bb) : Img.qStates N 0 b0 = some (pre, bb) := by
  obtain ⟨h1, h2, h3⟩ := h
  rw [h3, Nat.sub_self, Img.qStates]
  simp

set_option maxHeartbeats 6400000 in
set_option maxRecDepth 100000 in
theorem states_is (B tb : Nat) (a : Option Addr) (n cap : Nat) (b : List Int) (w : World) (ht : Tk w B tb b a n cap) (hn : n ≤ 200000000000) :
    Calls Try.prog 23 #[.pointer (some ⟨tb, 0, none⟩)] w fun e w' => StatesP B tb w.heap.size w' e (Img.qStatesOf b) ∧ w.grownBy w' (some tb) := by
  have HC := Lib.hid (count_is 6001 (by omega) B tb a n cap b w ht)
  have HTB := Lib.hid ht.lt
  have HBL : Hid (b.length ≤ 200000000000) := by show _ ≤ _; rw [ht.sl.1]; exact hn
  clear ht hn
  go_enter Try.func23, Try.ntmps23
  go_wp2_with fail
  refine HC.out.mono ?_
  rintro e w1 ⟨(⟨hr, rfl⟩ | ⟨N, b0, a1, n1, c1, hr, rfl, ht1⟩), hg⟩
  · exact ⟨rfl, .inl ⟨by rw [Img.qStatesOf, hr], rfl⟩, hg⟩
  · have HQ : Hid (Img.qStatesOf b = Img.qStates N 0 b0) := by show _ = _; rw [Img.qStatesOf, hr]
    have hN := Img.take_le hr
    have HB0 : Hid (b0.length ≤ 200000000000) := by
      show _ ≤ _
      have h1 := Img.take_len hr
      have h2 := HBL.out
      omega
    have T1 := Lib.hid ht1
    have G1 := Lib.hid hg
    clear hr ht1 hg HC
    go_wp2
    go_loopw [3, 8] (fun lv kv wr => ∃ (k c nb cb : Nat) (ao ab : Option Addr) (outs : List Sw) (bb : List Int), lv = .slice ao k c ∧ kv = .int .i64 (k : Int) ∧ k ≤ N ∧ Hid (StatesQ N b0 k (sts outs) bb) ∧ Hid (Tk wr B tb bb ab nb cb) ∧ Hid (wr.ownsRow w.heap.size 49 2 (.slice ao k c) k (scells outs)) ∧ Hid (∀ x ∈ outs, x.Good wr ∧ x.Front ∧ High w.heap.size x.a x.n) ∧ Hid (w.grownBy wr (some tb))) (fun _ kv _ => N - (intOf kv).toNat)
    case atStart => exact ⟨0, 0, n1, c1, none, a1, [], b0, rfl, rfl, Nat.zero_le _, StatesQ.start _ _, T1.out, World.ownsRow_nil _ _ _ _, by first | exact (trivial : True) | (intro z hz; simp at hz), G1.out⟩
    case round =>
      obtain ⟨k, c, nb, cb, ao, ab, outs, bb, rfl, rfl, hk, HI, HX, HOW, HEL, HG⟩ := hrel
      by_cases hlt : k < N
      · have hki : (k : Int) < (N : Int) := by omega
        have HCT := Lib.hid (number_is B tb ab nb cb bb wr HX.out)
        go_wp2_with fail
        refine HCT.out.mono ?_
        rintro e w3 ⟨(⟨hr, rfl⟩ | ⟨x, r, a3, n3, c3, hr, rfl, ht3⟩), hg⟩
        · exact ⟨rfl, .inl ⟨by rw [HQ.out]; exact HI.out.none hlt (.inl hr), rfl⟩, grown_trans HG.out hg⟩
        · have HR := Lib.hid hr
          have hx64 := (Var.take_some hr).2
          have T3 := Lib.hid ht3
          have G3 : Hid (w.grownBy w3 (some tb)) := grown_trans HG.out hg
          have O3 : Hid (w3.ownsRow w.heap.size 49 2 (.slice ao k c) k (scells outs)) := HOW.out.kept hg (own_tb HOW.out HTB.out)
          have E3 : Hid (∀ x ∈ outs, x.Good w3 ∧ x.Front ∧ High w.heap.size x.a x.n) := fun x hx => ⟨(HEL.out x hx).1.high (HEL.out x hx).2.2 (keep_high hg HTB.out), (HEL.out x hx).2⟩
          have hn3 : n3 ≤ 200000000000 := by
            rw [← ht3.sl.1]
            have h1 := Img.take_less hr
            have h2 := HI.out.2.1
            have h3 := HB0.out
            omega
          obtain ⟨H, hH⟩ : ∃ H, H = x / 2 := ⟨_, rfl⟩
          have hH1 : (x : Int) / 2 = (H : Int) := by rw [hH]; omega
          have hH2 : (x : Int).tdiv 2 = (H : Int) := by rw [Int.tdiv_eq_ediv_of_nonneg (by omega)]; exact hH1
          have hH9 : H ≤ 9223372036854775807 := by omega
          obtain ⟨R, hR⟩ : ∃ R, R = x % 2 := ⟨_, rfl⟩
          have hR1 : (x : Int) % 2 = (R : Int) := by rw [hR]; omega
          have hR2 : (x : Int).tmod 2 = (R : Int) := by rw [Int.tmod_eq_emod_of_nonneg (by omega)]; exact hR1
          obtain ⟨f, hf⟩ : ∃ f, ((R : Int) == 1) = f := ⟨_, rfl⟩
          have HF : Hid (f = decide (x % 2 = 1)) := by
            show _ = _
            rw [← hf, hR]
            by_cases h : x % 2 = 1
            · rw [h]; rfl
            · rw [show x % 2 = 0 by omega]; rfl
          have HCA := Lib.hid (arcs_is B tb a3 n3 c3 r k H w3 ht3 hn3 hH9)
          have HH := Lib.hid hH
          clear hr ht3 hg HCT hH hR
          go_wp2_with fail
          refine HCA.out.mono ?_
          rintro e w4 ⟨(⟨hr, rfl⟩ | ⟨arcs, q, la, ln, lc, a4, n4, c4, hr, rfl, hars, hhi, hfr, ht4⟩), hg⟩
          · exact ⟨rfl, .inl ⟨by rw [HQ.out]; rw [HH.out] at hr; exact HI.out.none hlt (.inr ⟨x, r, HR.out, hr⟩), rfl⟩, grown_trans G3.out hg⟩
          · rw [HH.out] at hr
            have hnx := HI.out.next hlt HR.out hr
            rw [← HF.out] at hnx
            have HNX : Hid (StatesQ N b0 (k + 1) (sts (outs ++ [⟨f, la, ln, lc, arcs⟩])) q) := by rw [sts_app]; exact hnx
            have T4 := Lib.hid ht4
            have G4 : Hid (w.grownBy w4 (some tb)) := grown_trans G3.out hg
            have O4 : Hid (w4.ownsRow w.heap.size 49 2 (.slice ao k c) k (scells outs)) := O3.out.kept hg (own_tb O3.out HTB.out)
            have E4 : Hid (∀ x ∈ outs, x.Good w4 ∧ x.Front ∧ High w.heap.size x.a x.n) := fun x hx => ⟨(E3.out x hx).1.high (E3.out x hx).2.2 (keep_high hg HTB.out), (E3.out x hx).2⟩
            have Y4 : Hid (Sw.Good w4 ⟨f, la, ln, lc, arcs⟩ ∧ Sw.Front ⟨f, la, ln, lc, arcs⟩ ∧ High w3.heap.size la ln) := ⟨hars, hfr, hhi⟩
            have L4 : Hid (∀ g, (Value.slice ao k c).ownBlock = some g → g < w3.heap.size) := fun g hg => (O3.out.lt g hg).2
            have Z4 : Hid (w.heap.size ≤ w4.heap.size) := G4.out.size
            have Z3 : Hid (w.heap.size ≤ w3.heap.size) := G3.out.size
            clear hr hars hhi hfr ht4 hg HCA hnx
            go_wp2_with (at_builtin; refine append_state (by rfl) (.tmp 13) (.tmp 23) (by rfl) w.heap.size _ k outs (by rfl) (ownsRow_below O4.out ((Below.refl w4.heap.size w4).alloc (Nat.le_refl _) _) (Nat.le_refl _)) w4.heap.size ⟨f, la, ln, lc, arcs⟩ (by rfl) (lit2 w4 _ _ _ _).1 (lit2 w4 _ _ _ _).2 (k + 1) rfl (by omega) (by have := Z4.out; simp; omega) ?_; intro a5 c5 w5 hown5 hb5 hg5 hnil5; have O5 := Lib.hid hown5; have B5 : Hid (Below w.heap.size w4 w5) := Lib.hid (((Below.refl _ w4).alloc Z4.out _).trans hb5); have G5 := Lib.hid hg5; clear hown5 hb5 hg5 hnil5)
            go_roundw
            case rel =>
              refine ⟨k + 1, c5, n4, c4, a5, a4, outs ++ [Sw.mk f la ln lc arcs], q, rfl, by go_num, by omega, HNX.out, T4.out.below B5.out HTB.out, O5.out, ?_, grown_low G4.out B5.out⟩
              intro y hy
              rcases List.mem_append.1 hy with hy | hy
              · obtain ⟨e1, e2, e3⟩ := E4.out y hy
                exact ⟨(e1.alloc _).apart e2 G5.out (fun b hb => owns_front (ownsRow_below O4.out ((Below.refl w4.heap.size w4).alloc (Nat.le_refl _) _) (Nat.le_refl _)) b hb (List.ne_nil_of_mem hy)), e2, e3⟩
              · rw [List.mem_singleton.1 hy]
                obtain ⟨e1, e2, e3⟩ := Y4.out
                exact ⟨(e1.alloc _).high e3 (keep_new G5.out L4.out), e2, e3.mono Z3.out⟩
            case measure => simp [intOf]; omega
      · obtain rfl : k = N := by omega
        have HF : Hid (Img.qStatesOf b = some (sts outs, bb)) := by show _ = _; rw [HQ.out]; exact HI.out.done
        go_wp2
        go_ret
        exact ⟨.inr ⟨outs, bb, _, _, _, _, _, _, HF.out, rfl, Ss.of_owns HOW.out (fun x hx => (HEL.out x hx).1) (by have h := HI.out.1; rwa [sts_length] at h), High.of_owns HOW.out, fun x hx => (HEL.out x hx).2.2, HX.out⟩, HG.out⟩

end Go.Proofs.Ytbfjihbkkcggmaa

/- The costs that the taker makes as they lie, and how far they are read. -/
namespace Go.Proofs.Ytbfjihbkkcggmaa
open Go.RowKit

/-! ### how far they are read -/
set_option maxRecDepth 100000 in
theorem pFour_n1 {b : List Int} (h1 : Var.take b = none) : Img.pFour 4 b = none := by rw [Img.pFour, h1]
set_option maxRecDepth 100000 in
theorem pFour_n2 {b b1 : List Int} {m : Nat} (h1 : Var.take b = some (m, b1)) (h2 : Var.take b1 = none) : Img.pFour 4 b = none := by
  rw [Img.pFour, h1]; simp only; rw [Img.pFour, h2]
set_option maxRecDepth 100000 in
theorem pFour_n3 {b b1 b2 : List Int} {m l : Nat} (h1 : Var.take b = some (m, b1)) (h2 : Var.take b1 = some (l, b2)) (h3 : Var.take b2 = none) : Img.pFour 4 b = none := by
  rw [Img.pFour, h1]; simp only; rw [Img.pFour, h2]; simp only; rw [Img.pFour, h3]
set_option maxRecDepth 100000 in
theorem pFour_n4 {b b1 b2 b3 : List Int} {m l o : Nat} (h1 : Var.take b = some (m, b1)) (h2 : Var.take b1 = some (l, b2)) (h3 : Var.take b2 = some (o, b3)) (h4 : Var.take b3 = none) : Img.pFour 4 b = none := by
  rw [Img.pFour, h1]; simp only; rw [Img.pFour, h2]; simp only; rw [Img.pFour, h3]; simp only; rw [Img.pFour, h4]
set_option maxRecDepth 100000 in
theorem pFour_four {b b1 b2 b3 b4 : List Int} {m l o t : Nat} (h1 : Var.take b = some (m, b1)) (h2 : Var.take b1 = some (l, b2)) (h3 : Var.take b2 = some (o, b3)) (h4 : Var.take b3 = some (t, b4)) : Img.pFour 4 b = some ([(m : Int), (l : Int), (o : Int), (t : Int)], b4) := by
  rw [Img.pFour, h1]; simp only; rw [Img.pFour, h2]; simp only; rw [Img.pFour, h3]; simp only; rw [Img.pFour, h4]; simp only; rw [Img.pFour]
set_option maxRecDepth 100000 in
theorem qCosts_n {b : List Int} (h : Img.pFour 4 b = none) : Img.qCosts b = none := by rw [Img.qCosts, h]
set_option maxRecDepth 100000 in
theorem qCosts_cn {b b4 l : List Int} (h : Img.pFour 4 b = some (l, b4)) (h2 : Img.take 200 b4 = none) : Img.qCosts b = none := by rw [Img.qCosts, h]; simp only; rw [h2]
set_option maxRecDepth 100000 in
theorem qCosts_is {b b4 b5 l : List Int} {N : Nat} (h : Img.pFour 4 b = some (l, b4)) (h2 : Img.take 200 b4 = some (N, b5)) : Img.qCosts b = (Img.qRules N b5).map (fun x => (⟨l, x.1⟩, x.2)) := by
  rw [Img.qCosts, h]; simp only; rw [h2]; simp only
  cases Img.qRules N b5 <;> simp
set_option maxRecDepth 100000 in
theorem qRule_n1 {b : List Int} (h1 : Img.qSide b = none) : Img.qRule b = none := by rw [Img.qRule, h1]
set_option maxRecDepth 100000 in
theorem qRule_n2 {b b1 L : List Int} (h1 : Img.qSide b = some (L, b1)) (h2 : Img.qSide b1 = none) : Img.qRule b = none := by rw [Img.qRule, h1]; simp only; rw [h2]
set_option maxRecDepth 100000 in
theorem qRule_n3 {b b1 b2 L R : List Int} (h1 : Img.qSide b = some (L, b1)) (h2 : Img.qSide b1 = some (R, b2)) (h3 : Var.take b2 = none) : Img.qRule b = none := by rw [Img.qRule, h1]; simp only; rw [h2]; simp only; rw [h3]
set_option maxRecDepth 100000 in
theorem qRule_is {b b1 b2 b3 L R : List Int} {C : Nat} (h1 : Img.qSide b = some (L, b1)) (h2 : Img.qSide b1 = some (R, b2)) (h3 : Var.take b2 = some (C, b3)) : Img.qRule b = some (⟨L, R, (C : Int)⟩, b3) := by rw [Img.qRule, h1]; simp only; rw [h2]; simp only; rw [h3]
def RulesQ (N : Nat) (b0 : List Int) (k : Nat) (pre : List Rul) (bb : List Int) : Prop :=
  pre.length = k ∧ Img.qRules N b0 = (Img.qRules (N - k) bb).map (fun x => (pre ++ x.1, x.2))
set_option maxRecDepth 100000 in
theorem RulesQ.start (n : Nat) (b0 : List Int) : RulesQ n b0 0 [] b0 := by
  refine ⟨rfl, ?_⟩
  rw [Nat.sub_zero]
  cases Img.qRules n b0 <;> simp
set_option maxRecDepth 100000 in
theorem RulesQ.next {N : Nat} {b0 : List Int} {k : Nat} {pre : List Rul} {bb q : List Int} {x : Rul} (h : RulesQ N b0 k pre bb) (hk : k < N) (hx : Img.qRule bb = some (x, q)) : RulesQ N b0 (k + 1) (pre ++ [x]) q := by
  obtain ⟨h1, h2⟩ := h
  refine ⟨by simp [h1], ?_⟩
  rw [h2, show N - k = (N - (k + 1)) + 1 from by omega, Img.qRules, hx]
  simp only
  cases Img.qRules (N - (k + 1)) q <;> simp
set_option maxRecDepth 100000 in
theorem RulesQ.none {N : Nat} {b0 : List Int} {k : Nat} {pre : List Rul} {bb : List Int} (h : RulesQ N b0 k pre bb) (hk : k < N) (hx : Img.qRule bb = Option.none) : Img.qRules N b0 = Option.none := by
  obtain ⟨h1, h2⟩ := h
  rw [h2, show N - k = (N - (k + 1)) + 1 from by omega, Img.qRules, hx]
  rfl
set_option maxRecDepth 100000 in
theorem RulesQ.done {N : Nat} {b0 : List Int} {pre : List Rul} {bb : List Int} (h : RulesQ N b0 N pre bb) : Img.qRules N b0 = some (pre, bb) := by
  obtain ⟨h1, h2⟩ := h
  rw [h2, Nat.sub_self, Img.qRules]
  simp

/-! ### as they lie -/
def costZero : Array Value := #[Value.int .u64 0, Value.int .u64 0, Value.int .u64 0, Value.int .u64 0, Value.slice none 0 0]
set_option maxRecDepth 100000 in
theorem Rw.Good.high {w w' : World} {x : Rw} {B : Nat} (h : x.Good w) (hh : High B x.la x.ln ∧ High B x.ra x.rn) (hc : ∀ b, B ≤ b → b < w.heap.size → w'.heap[b]? = w.heap[b]?) : x.Good w' := ⟨h.1.high hh.1 hc, h.2.1.high hh.2 hc, h.2.2⟩
set_option maxRecDepth 100000 in
theorem Rw.Good.apart {w w' : World} {x : Rw} {k : Option Nat} (h : x.Good w) (hf : Front x.la x.ln ∧ Front x.ra x.rn) (hg : w.grownBy w' k) (hk : ∀ b, k = some b → ∀ z : Int, w.cell? ⟨b, 0, none⟩ ≠ some (.int .i64 z)) : x.Good w' := ⟨h.1.apart hf.1 hg hk, h.2.1.apart hf.2 hg hk, h.2.2⟩
/-- the costs in the block cb, whose rules lie from cb on; the taker's block tb, the answer's r0 -/
structure Ck (W : World) (B tb r0 cb : Nat) (bb : List Int) (ab : Option Addr) (nb cbp : Nat) (m l o t : Nat) (ao : Option Addr) (k c : Nat) (outs : List Rw) : Prop where
  tk : Tk W B tb bb ab nb cbp
  ord : tb < r0 ∧ r0 < cb ∧ cb < W.heap.size
  zero : W.heap[r0]? = some (.cells costZero 26 (0, 0))
  box : W.heap[cb]? = some (.cells #[.int .u64 (m : Int), .int .u64 (l : Int), .int .u64 (o : Int), .int .u64 (t : Int), .slice ao k c] 26 (0, 0))
  row : W.ownsRow (cb + 1) 54 3 (.slice ao k c) k (rcells outs)
  els : ∀ x ∈ outs, x.Good W ∧ (Front x.la x.ln ∧ Front x.ra x.rn) ∧ (High (cb + 1) x.la x.ln ∧ High (cb + 1) x.ra x.rn)
set_option maxRecDepth 100000 in
theorem Ck.cell {W : World} {B tb r0 cb : Nat} {bb : List Int} {ab : Option Addr} {nb cbp m l o t : Nat} {ao : Option Addr} {k c : Nat} {outs : List Rw} (h : Ck W B tb r0 cb bb ab nb cbp m l o t ao k c outs) : W.cell? ⟨cb, 4, none⟩ = some (.slice ao k c) := by
  rw [cell_of_row W cb 4 _ _ _ h.box]; rfl
set_option maxRecDepth 100000 in
theorem Ck.frozen {W : World} {B tb r0 cb : Nat} {bb : List Int} {ab : Option Addr} {nb cbp m l o t : Nat} {ao : Option Addr} {k c : Nat} {outs : List Rw} (h : Ck W B tb r0 cb bb ab nb cbp m l o t ao k c outs) : W.frozen? ⟨cb, 4, none⟩ = false := by
  have hb := h.box
  simp [World.frozen?, hb]
set_option maxRecDepth 100000 in
theorem Ck.len {W : World} {B tb r0 cb : Nat} {bb : List Int} {ab : Option Addr} {nb cbp m l o t : Nat} {ao : Option Addr} {k c : Nat} {outs : List Rw} (h : Ck W B tb r0 cb bb ab nb cbp m l o t ao k c outs) : outs.length = k := by
  have := h.row.1
  rw [rcells_length] at this
  omega
set_option maxRecDepth 100000 in
theorem Ck.drew {W : World} {B tb r0 cb : Nat} {bb : List Int} {ab : Option Addr} {nb cbp m l o t : Nat} {ao : Option Addr} {k c : Nat} {outs : List Rw} (h : Ck W B tb r0 cb bb ab nb cbp m l o t ao k c outs) : Ck W.drew B tb r0 cb bb ab nb cbp m l o t ao k c outs :=
  ⟨⟨h.tk.box, h.tk.sl.drew, h.tk.low, h.tk.le⟩, h.ord, h.zero, h.box, h.row, h.els⟩
set_option maxRecDepth 100000 in
theorem Ck.grown {W W' : World} {B tb r0 cb : Nat} {bb bb' : List Int} {ab ab' : Option Addr} {nb nb' cbp cbp' m l o t : Nat} {ao : Option Addr} {k c : Nat} {outs : List Rw} (h : Ck W B tb r0 cb bb ab nb cbp m l o t ao k c outs) (hg : W.grownBy W' (some tb)) (ht : Tk W' B tb bb' ab' nb' cbp') :
    Ck W' B tb r0 cb bb' ab' nb' cbp' m l o t ao k c outs := by
  obtain ⟨o1, o2, o3⟩ := h.ord
  refine ⟨ht, ⟨o1, o2, Nat.lt_of_lt_of_le o3 hg.size⟩, (hg.block _ (by omega) (by simp; omega)).trans h.zero, (hg.block _ o3 (by simp; omega)).trans h.box, h.row.kept hg (own_tb h.row (by omega)), fun x hx => ?_⟩
  obtain ⟨e1, e2, e3⟩ := h.els x hx
  exact ⟨e1.high e3 (keep_high hg (by omega)), e2, e3⟩
set_option maxRecDepth 100000 in
theorem Ck.push {W w9 : World} {B tb r0 cb : Nat} {bb : List Int} {ab : Option Addr} {nb cbp m l o t : Nat} {ao a9 : Option Addr} {k c c9 X : Nat} {outs : List Rw} {y : Rw} {ob : Obj} (h : Ck W B tb r0 cb bb ab nb cbp m l o t ao k c outs)
    (hy : y.Good W ∧ (Front y.la y.ln ∧ Front y.ra y.rn) ∧ (High X y.la y.ln ∧ High X y.ra y.rn)) (hX : cb + 1 ≤ X) (hown : ∀ g, (Value.slice ao k c).ownBlock = some g → g < X)
    (hrow : w9.ownsRow (cb + 1) 54 3 (.slice a9 (k + 1) c9) (k + 1) (rcells (outs ++ [y]))) (hb : Below (cb + 1) W w9) (hg : (W.alloc ob).grownBy w9 (Value.slice ao k c).ownBlock) :
    Ck (w9.setCell ⟨cb, 4, none⟩ (.slice a9 (k + 1) c9)) B tb r0 cb bb ab nb cbp m l o t a9 (k + 1) c9 (outs ++ [y]) := by
  obtain ⟨o1, o2, o3⟩ := h.ord
  have hbx : w9.heap[cb]? = _ := (hb.block cb (by omega)).trans h.box
  have hset : ∀ b, cb + 1 ≤ b → b < w9.heap.size → (w9.setCell ⟨cb, 4, none⟩ (.slice a9 (k + 1) c9)).heap[b]? = w9.heap[b]? := fun b' h1 _ => heap_setCell_other _ _ _ _ (by show b' ≠ cb; omega)
  refine ⟨h.tk.keep (fun i hi => by rw [heap_setCell_other _ _ _ _ (by show i ≠ cb; omega)]; exact hb.block i (by omega)), ⟨o1, o2, by have := hb.size; simp; omega⟩, ?_, ?_, ownsRow_setCell_below (a := ⟨cb, 4, none⟩) hrow (by show cb < cb + 1; omega) _, ?_⟩
  · rw [heap_setCell_other _ _ _ _ (by show r0 ≠ cb; omega)]
    exact (hb.block r0 (by omega)).trans h.zero
  · rw [heap_setCell_same _ _ _ _ _ _ hbx]; rfl
  · intro x hx
    rcases List.mem_append.1 hx with hx | hx
    · obtain ⟨e1, e2, e3⟩ := h.els x hx
      have hr : (W.alloc ob).ownsRow (cb + 1) 54 3 (.slice ao k c) k (rcells outs) := ownsRow_below h.row ((Below.refl W.heap.size W).alloc (Nat.le_refl _) _) (Nat.le_refl _)
      exact ⟨((e1.alloc ob).apart e2 hg (fun b' hb' => owns_frontR hr b' hb' (List.ne_nil_of_mem hx))).high e3 hset, e2, e3⟩
    · rw [List.mem_singleton.1 hx]
      obtain ⟨e1, e2, e3⟩ := hy
      have e4 : High (cb + 1) y.la y.ln ∧ High (cb + 1) y.ra y.rn := ⟨e3.1.mono hX, e3.2.mono hX⟩
      exact ⟨((e1.alloc ob).high e3 (keep_new hg hown)).high e4 hset, e2, e4⟩
/-- what costs answers -/
def CostsP (B tb E : Nat) (w' : World) (e : Ending) (r : Option (File.Cst × List Int)) : Prop :=
  (r = none ∧ e = .panicked formPanic) ∨ ∃ (c : Cw) (l : List Int) (a : Option Addr) (n cap : Nat), r = some (c.c, l) ∧ e = .returned c.v ∧ c.Good w' ∧ c.High E ∧ Tk w' B tb l a n cap

end Go.Proofs.Ytbfjihbkkcggmaa
