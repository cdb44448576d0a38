import Derived.Test.YtbfjihbkkcggmaaImgNum
import Derived.Test.YtbfjihbkkcggmaaPackF
import Derived.Test.YtbfjihbkkcggmaaTrieApp
/- The taker's count, and its side. -/
namespace Go.Proofs.Ytbfjihbkkcggmaa
open Go.RowKit

set_option maxRecDepth 100000 in
theorem grown_low {a b c : World} {r : Option Nat} (h : a.grownBy b r) (k : Below a.heap.size b c) : a.grownBy c r :=
  ⟨k.os.trans h.os, k.tape.trans h.tape, k.output.trans h.output, Nat.le_trans h.size k.size, fun i hi hn => (k.block i hi).trans (h.block i hi hn)⟩
set_option maxRecDepth 100000 in
theorem own_tb {w : World} {base tb size n : Nat} {e : TypeId} {v : Value} {l : List Value} (h : w.ownsRow base e size v n l) (ht : tb < base) : v.ownBlock = none ∨ v.ownBlock ≠ some tb := by
  rcases h.2 with ⟨rfl, _⟩ | ⟨g, c, cur, rfl, hg, _⟩
  · exact .inl rfl
  · exact .inr (by simp [Value.ownBlock]; omega)

/-- what count answers -/
def CountP (B tb : Nat) (w' : World) (e : Ending) (r : Option (Nat × List Int)) : Prop :=
  (r = none ∧ e = .panicked formPanic) ∨ ∃ x l a n c, r = some (x, l) ∧ e = .returned (.int .i64 ((x : Nat) : Int)) ∧ Tk w' B tb l a n c
set_option maxRecDepth 100000 in
theorem Img.take_le {M : Nat} {b l : List Int} {x : Nat} (h : Img.take M b = some (x, l)) : x ≤ M := by
  rw [Img.take] at h
  split at h
  · split at h
    · rename_i h2
      cases h; exact h2
    · cases h
  · cases h

set_option maxHeartbeats 1600000 in
set_option maxRecDepth 100000 in
theorem count_is (M : Nat) (hM : M ≤ 1000000) (B tb : Nat) (a : Option Addr) (n cap : Nat) (b : List Int) (w : World) (ht : Tk w B tb b a n cap) :
    Calls Try.prog 44 #[.pointer (some ⟨tb, 0, none⟩), .int .i64 (M : Int)] w fun e w' => CountP B tb w' e (Img.take M b) ∧ w.grownBy w' (some tb) := by
  have HC := Lib.hid (number_is B tb a n cap b w ht)
  have hMu : IntKind.u64.wrap (M : Int) = (M : Int) := by rw [wrap_u64v]; omega
  clear ht
  go_enter Try.func44, Try.ntmps44
  go_wp2_with fail
  refine HC.out.mono ?_
  rintro e w1 ⟨(⟨hr, rfl⟩ | ⟨x, l, a1, n1, c1, hr, rfl, ht1⟩), hg⟩
  · exact ⟨rfl, .inl ⟨by rw [Img.take, hr], rfl⟩, hg⟩
  · have HR := Lib.hid hr
    have T1 := Lib.hid ht1
    have G1 := Lib.hid hg
    clear hr ht1 hg HC
    by_cases hx : x ≤ M
    · have hgt : ¬ (M : Int) < (x : Int) := by omega
      have hxi : IntKind.i64.wrap (x : Int) = (x : Int) := Img.wrap_small (by omega)
      go_wp2
      go_ret
      exact ⟨.inr ⟨x, l, a1, n1, c1, by rw [Img.take, HR.out]; simp [hx], rfl, T1.out⟩, G1.out⟩
    · have hgt : (M : Int) < (x : Int) := by omega
      go_wp2
      exact ⟨rfl, .inl ⟨by rw [Img.take, HR.out]; simp [hx], rfl⟩, G1.out⟩

/-- what side answers -/
def SideP (B tb E : Nat) (w' : World) (e : Ending) (r : Option (List Int × List Int)) : Prop :=
  (r = none ∧ e = .panicked formPanic) ∨ ∃ xs l la ln lc a n c, r = some (xs, l) ∧ e = .returned (.slice la ln lc) ∧ Sl .i64 w' la ln lc xs ∧ High E la ln ∧ Front la ln ∧ Tk w' B tb l a n c
/-- how far the numbers of a side are read -/
def IntsQ (n : Nat) (b0 : List Int) (k : Nat) (pre bb : List Int) : Prop :=
  pre.length = k ∧ (∀ z ∈ pre, (Lit.int .i64 z).wf = true) ∧ Img.qInts n b0 = (Img.qInts (n - k) bb).map (fun x => (pre ++ x.1, x.2))
set_option maxRecDepth 100000 in
theorem IntsQ.start (n : Nat) (b0 : List Int) : IntsQ n b0 0 [] b0 := by
  refine ⟨rfl, by simp, ?_⟩
  rw [Nat.sub_zero]
  cases Img.qInts n b0 <;> simp
set_option maxRecDepth 100000 in
theorem wrap_wf (x : Int) : (Lit.int .i64 (IntKind.i64.wrap x)).wf = true := by
  apply WalkArith.wf_i64
  rw [IntKind.wrap_i64]
  omega
set_option maxRecDepth 100000 in
theorem IntsQ.next {n : Nat} {b0 : List Int} {k : Nat} {pre bb r : List Int} {s : Nat} (h : IntsQ n b0 k pre bb) (hk : k < n) (hs : Var.take bb = some (s, r)) : IntsQ n b0 (k + 1) (pre ++ [IntKind.i64.wrap (s : Int)]) r := by
  obtain ⟨h1, h2, h3⟩ := h
  refine ⟨by simp [h1], ?_, ?_⟩
  · intro z hz
    rcases List.mem_append.1 hz with hz | hz
    · exact h2 z hz
    · simp only [List.mem_singleton] at hz
      subst hz; exact wrap_wf _
  · rw [h3, show n - k = (n - (k + 1)) + 1 from by omega, Img.qInts, hs]
    simp only
    cases Img.qInts (n - (k + 1)) r <;> simp
set_option maxRecDepth 100000 in
theorem IntsQ.none {n : Nat} {b0 : List Int} {k : Nat} {pre bb : List Int} (h : IntsQ n b0 k pre bb) (hk : k < n) (hs : Var.take bb = Option.none) : Img.qInts n b0 = Option.none := by
  obtain ⟨h1, h2, h3⟩ := h
  rw [h3, show n - k = (n - (k + 1)) + 1 from by omega, Img.qInts, hs]
  rfl
set_option maxRecDepth 100000 in
theorem IntsQ.done {n : Nat} {b0 : List Int} {pre bb : List Int} (h : IntsQ n b0 n pre bb) : Img.qInts n b0 = some (pre, bb) := by
  obtain ⟨h1, h2, h3⟩ := h
  rw [h3, Nat.sub_self, Img.qInts]
  simp

set_option maxHeartbeats 3200000 in
set_option maxRecDepth 100000 in
theorem side_is (B tb : Nat) (a : Option Addr) (n cap : Nat) (b : List Int) (w : World) (ht : Tk w B tb b a n cap) :
    Calls Try.prog 47 #[.pointer (some ⟨tb, 0, none⟩)] w fun e w' => SideP B tb w.heap.size w' e (Img.qSide b) ∧ w.grownBy w' (some tb) := by
  have HC := Lib.hid (count_is 8 (by omega) B tb a n cap b w ht)
  have HTB := Lib.hid ht.lt
  clear ht
  go_enter Try.func47, Try.ntmps47
  go_wp2_with fail
  refine HC.out.mono ?_
  rintro e w1 ⟨(⟨hr, rfl⟩ | ⟨N, b0, a1, n1, c1, hr, rfl, ht1⟩), hg⟩
  · exact ⟨rfl, .inl ⟨by rw [Img.qSide, hr], rfl⟩, hg⟩
  · have HQ : Hid (Img.qSide b = Img.qInts N b0) := by show _ = _; rw [Img.qSide, hr]
    have hN := Img.take_le hr
    have T1 := Lib.hid ht1
    have G1 := Lib.hid hg
    clear hr ht1 hg HC
    go_wp2
    go_loopw [3, 6] (fun lv kv wr => ∃ (k c nb cb : Nat) (ao ab : Option Addr) (pre bb : List Int), lv = .slice ao k c ∧ kv = .int .i64 (k : Int) ∧ k ≤ N ∧ Hid (IntsQ N b0 k pre bb) ∧ Hid (Tk wr B tb bb ab nb cb) ∧ Hid (wr.ownsRow w.heap.size 3 1 (.slice ao k c) k (i64s pre)) ∧ Hid (w.grownBy wr (some tb))) (fun _ kv _ => N - (intOf kv).toNat)
    case atStart => exact ⟨0, 0, n1, c1, none, a1, [], b0, rfl, rfl, Nat.zero_le _, IntsQ.start _ _, T1.out, World.ownsRow_nil _ _ _ _, G1.out⟩
    case round =>
      obtain ⟨k, c, nb, cb, ao, ab, pre, bb, rfl, rfl, hk, HI, HX, HOW, HG⟩ := hrel
      by_cases hlt : k < N
      · have hki : (k : Int) < (N : Int) := by omega
        have HCT := Lib.hid (number_is B tb ab nb cb bb wr HX.out)
        go_wp2_with fail
        refine HCT.out.mono ?_
        rintro e w3 ⟨(⟨hr, rfl⟩ | ⟨s, r, a3, n3, c3, hr, rfl, ht3⟩), hg⟩
        · exact ⟨rfl, .inl ⟨by rw [HQ.out]; exact HI.out.none hlt hr, rfl⟩, grown_trans HG.out hg⟩
        · have HNX := Lib.hid (HI.out.next hlt hr)
          have T3 := Lib.hid ht3
          have G3 : Hid (w.grownBy w3 (some tb)) := grown_trans HG.out hg
          have O3 : Hid (w3.ownsRow w.heap.size 3 1 (.slice ao k c) k (i64s pre)) := HOW.out.kept hg (own_tb HOW.out HTB.out)
          have Z3 : Hid (w.heap.size ≤ w3.heap.size) := G3.out.size
          obtain ⟨S, hS⟩ : ∃ S, S = IntKind.i64.wrap (s : Int) := ⟨_, rfl⟩
          rw [← hS] at HNX
          have HSW : Hid (∀ z ∈ [S], (Lit.int .i64 z).wf = true) := by intro z hz; simp at hz; subst hz; rw [hS]; exact wrap_wf _
          have hSr := hS.symm
          clear hr ht3 hg HCT hS
          go_wp2_with (at_builtin; refine append_i64 (by rfl) (.tmp 8) (.tmp 12) (by rfl) w.heap.size _ k pre (by rfl) (ownsRow_below O3.out ((Below.refl w3.heap.size w3).alloc (Nat.le_refl _) _) (Nat.le_refl _)) (some ⟨w3.heap.size, 0, none⟩) 1 1 [S] (by rfl) (Sl.newI [S] HSW.out (by unfold maxLen; simp) rfl rfl rfl) (k + 1) rfl (by omega) (by have := Z3.out; simp; omega) ?_; intro a4 c4 w4 hown4 hb4 hnil4; have O4 := Lib.hid hown4; have B4 : Hid (Below w.heap.size w3 w4) := Lib.hid (((Below.refl _ w3).alloc Z3.out _).trans hb4); clear hown4 hb4 hnil4)
          go_roundw
          case rel => exact ⟨k + 1, c4, n3, c3, a4, a3, pre ++ [S], r, rfl, by go_num, by omega, HNX.out, T3.out.below B4.out HTB.out, O4.out, grown_low G3.out B4.out⟩
          case measure => simp [intOf]; omega
      · obtain rfl : k = N := by omega
        have HF : Hid (Img.qSide b = some (pre, bb)) := by show _ = _; rw [HQ.out]; exact HI.out.done
        go_wp2
        go_ret
        exact ⟨.inr ⟨pre, bb, _, _, _, _, _, _, HF.out, rfl, Sl.of_owns (k := .i64) HOW.out HI.out.2.1 HI.out.1, High.of_owns HOW.out, Front.of_owns HOW.out, HX.out⟩, HG.out⟩

end Go.Proofs.Ytbfjihbkkcggmaa

/- The taker's arcs. -/
namespace Go.Proofs.Ytbfjihbkkcggmaa
open Go.RowKit

set_option maxRecDepth 100000 in
theorem wrap_is64 (x : Int) : IntKind.i64.wrap x = wrap64 x := by rw [IntKind.wrap_i64]; unfold wrap64; omega
set_option maxRecDepth 100000 in
theorem sg_wrap64 (s : Nat) (p : Int) : Img.sg s p = wrap64 (wrap64 (wrap64 (s : Int) + p) + 1) := by
  unfold Img.sg
  rw [wrap_is64, wrap_is64, wrap_is64]

/-- what arcs answers -/
def ArcsP (B tb E : Nat) (w' : World) (e : Ending) (r : Option (List (Int × Int) × List Int)) : Prop :=
  (r = none ∧ e = .panicked formPanic) ∨ ∃ xs l la ln lc a n c, r = some (xs, l) ∧ e = .returned (.slice la ln lc) ∧ Ars w' la ln lc xs ∧ High E la ln ∧ Front la ln ∧ Tk w' B tb l a n c
/-- how far a state's arcs are read -/
def ArcsQ (i : Int) (H : Nat) (b0 : List Int) (k : Nat) (p : Int) (pre : List (Int × Int)) (bb : List Int) : Prop :=
  pre.length = k ∧ (∀ z ∈ pre, (Lit.int .i64 z.1).wf = true ∧ (Lit.int .i64 z.2).wf = true) ∧ k + bb.length ≤ b0.length ∧ Img.qArcs i H (-1) b0 = (Img.qArcs i (H - k) p bb).map (fun x => (pre ++ x.1, x.2))
set_option maxRecDepth 100000 in
theorem ArcsQ.start (i : Int) (n : Nat) (b0 : List Int) : ArcsQ i n b0 0 (-1) [] b0 := by
  refine ⟨rfl, by simp, by omega, ?_⟩
  rw [Nat.sub_zero]
  cases Img.qArcs i n (-1) b0 <;> simp
set_option maxRecDepth 100000 in
theorem ArcsQ.next {i : Int} {H : Nat} {b0 : List Int} {k : Nat} {p : Int} {pre : List (Int × Int)} {bb r q : List Int} {s t : Nat} (h : ArcsQ i H b0 k p pre bb) (hk : k < H) (hs : Var.take bb = some (s, r)) (ht : Var.take r = some (t, q)) :
    ArcsQ i H b0 (k + 1) (Img.sg s p) (pre ++ [(Img.sg s p, Img.sg t i)]) q := by
  obtain ⟨h1, h2, h3, h4⟩ := h
  have e1 := Img.take_less hs
  have e2 := Img.take_less ht
  refine ⟨by simp [h1], ?_, by omega, ?_⟩
  · intro z hz
    rcases List.mem_append.1 hz with hz | hz
    · exact h2 z hz
    · simp only [List.mem_singleton] at hz
      subst hz; exact ⟨Img.sg_wf _ _, Img.sg_wf _ _⟩
  · rw [h4, show H - k = (H - (k + 1)) + 1 from by omega, Img.qArcs, hs]
    simp only
    rw [ht]
    simp only
    cases Img.qArcs i (H - (k + 1)) (Img.sg s p) q <;> simp
set_option maxRecDepth 100000 in
theorem ArcsQ.none {i : Int} {H : Nat} {b0 : List Int} {k : Nat} {p : Int} {pre : List (Int × Int)} {bb : List Int} (h : ArcsQ i H b0 k p pre bb) (hk : k < H) (hs : Var.take bb = Option.none ∨ ∃ s r, Var.take bb = some (s, r) ∧ Var.take r = Option.none) : Img.qArcs i H (-1) b0 = Option.none := by
  obtain ⟨h1, h2, h3, h4⟩ := h
  rw [h4, show H - k = (H - (k + 1)) + 1 from by omega, Img.qArcs]
  rcases hs with hs | ⟨s, r, hs, ht⟩
  · rw [hs]; rfl
  · rw [hs]; simp only; rw [ht]; rfl
set_option maxRecDepth 100000 in
theorem ArcsQ.done {i : Int} {H : Nat} {b0 : List Int} {p : Int} {pre : List (Int × Int)} {bb : List Int} (h : ArcsQ i H b0 H p pre bb) : Img.qArcs i H (-1) b0 = some (pre, bb) := by
  obtain ⟨h1, h2, h3, h4⟩ := h
  rw [h4, Nat.sub_self, Img.qArcs]
  simp

set_option maxHeartbeats 3200000 in
set_option maxRecDepth 100000 in
theorem arcs_is (B tb : Nat) (a : Option Addr) (n cap : Nat) (b : List Int) (i H : Nat) (w : World) (ht : Tk w B tb b a n cap) (hn : n ≤ 200000000000) (hH : H ≤ 9223372036854775807) :
    Calls Try.prog 46 #[.pointer (some ⟨tb, 0, none⟩), .int .i64 (i : Int), .int .u64 (H : Int)] w fun e w' => ArcsP B tb w.heap.size w' e (Img.qArcs (i : Int) H (-1) b) ∧ w.grownBy w' (some tb) := by
  have HT := Lib.hid ht
  have HTB := Lib.hid ht.lt
  have HBL : Hid (b.length ≤ 200000000000) := by show _ ≤ _; rw [ht.sl.1]; exact hn
  clear ht hn
  go_enter Try.func46, Try.ntmps46
  go_wp2
  go_loopw [7, 8, 12] (fun lv pv kv wr => ∃ (k c nb cb : Nat) (ao ab : Option Addr) (p : Int) (pre : List (Int × Int)) (bb : List Int), lv = .slice ao k c ∧ pv = .int .i64 p ∧ kv = .int .u64 (k : Int) ∧ k ≤ H ∧ Hid (ArcsQ (i : Int) H b k p pre bb) ∧ Hid (Tk wr B tb bb ab nb cb) ∧ Hid (wr.ownsRow w.heap.size 51 2 (.slice ao k c) k (acells pre)) ∧ Hid (w.grownBy wr (some tb))) (fun _ _ kv _ => H - (intOf kv).toNat)
  case atStart => exact ⟨0, 0, n, cap, none, a, -1, [], b, rfl, rfl, rfl, Nat.zero_le _, ArcsQ.start _ _ _, HT.out, World.ownsRow_nil _ _ _ _, World.grownBy.refl _ _⟩
  case round =>
    obtain ⟨k, c, nb, cb, ao, ab, p, pre, bb, rfl, rfl, rfl, hk, HI, HX, HOW, HG⟩ := hrel
    by_cases hlt : k < H
    · have hki : (k : Int) < (H : Int) := by omega
      have hk9 : k ≤ 200000000000 := by have := HI.out.2.2.1; have := HBL.out; omega
      have HCT := Lib.hid (number_is B tb ab nb cb bb wr HX.out)
      go_wp2_with fail
      refine HCT.out.mono ?_
      rintro e w3 ⟨(⟨hr, rfl⟩ | ⟨s, r, a3, n3, c3, hr, rfl, ht3⟩), hg⟩
      · exact ⟨rfl, .inl ⟨HI.out.none hlt (.inl hr), rfl⟩, grown_trans HG.out hg⟩
      · have HR := Lib.hid hr
        have T3 := Lib.hid ht3
        have G3 : Hid (w.grownBy w3 (some tb)) := grown_trans HG.out hg
        have O3 : Hid (w3.ownsRow w.heap.size 51 2 (.slice ao k c) k (acells pre)) := HOW.out.kept hg (own_tb HOW.out HTB.out)
        obtain ⟨S, hS⟩ : ∃ S, wrap64 (wrap64 (wrap64 (s : Int) + p) + 1) = S := ⟨_, rfl⟩
        have HS : Hid (S = Img.sg s p) := by show _ = _; rw [← hS, sg_wrap64]
        have HCT2 := Lib.hid (number_is B tb a3 n3 c3 r w3 ht3)
        clear hr ht3 hg HCT
        go_wp2_with fail
        refine HCT2.out.mono ?_
        rintro e w4 ⟨(⟨hr, rfl⟩ | ⟨t, q, a4, n4, c4, hr, rfl, ht4⟩), hg⟩
        · exact ⟨rfl, .inl ⟨HI.out.none hlt (.inr ⟨s, r, HR.out, hr⟩), rfl⟩, grown_trans G3.out hg⟩
        · obtain ⟨T, hT⟩ : ∃ T, wrap64 (wrap64 (wrap64 (t : Int) + (i : Int)) + 1) = T := ⟨_, rfl⟩
          have hTS : T = Img.sg t (i : Int) := by rw [← hT, sg_wrap64]
          have hnx := HI.out.next hlt HR.out hr
          rw [← HS.out, ← hTS] at hnx
          have HNX := Lib.hid hnx
          have T4 := Lib.hid ht4
          have G4 : Hid (w.grownBy w4 (some tb)) := grown_trans G3.out hg
          have O4 : Hid (w4.ownsRow w.heap.size 51 2 (.slice ao k c) k (acells pre)) := O3.out.kept hg (own_tb O3.out HTB.out)
          have Z4 : Hid (w.heap.size ≤ w4.heap.size) := G4.out.size
          clear hr ht4 hg HCT2 hTS hnx
          go_wp2_with (at_builtin; refine append_arc (by rfl) (.tmp 26) (.tmp 30) (by rfl) w.heap.size _ k pre (by rfl) (ownsRow_below O4.out ((Below.refl w4.heap.size w4).alloc (Nat.le_refl _) _) (Nat.le_refl _)) w4.heap.size (S, T) (by rfl) (lit2 w4 _ _ _ _).1 (lit2 w4 _ _ _ _).2 (k + 1) rfl (by omega) (by have := Z4.out; simp; omega) ?_; intro a5 c5 w5 hown5 hb5 hg5 hnil5; have O5 := Lib.hid hown5; have B5 : Hid (Below w.heap.size w4 w5) := Lib.hid (((Below.refl _ w4).alloc Z4.out _).trans hb5); clear hown5 hb5 hg5 hnil5)
          go_roundw
          case rel => exact ⟨k + 1, c5, n4, c4, a5, a4, S, pre ++ [(S, T)], q, rfl, rfl, by go_num, by omega, HNX.out, T4.out.below B5.out HTB.out, O5.out, grown_low G4.out B5.out⟩
          case measure => simp [intOf]; omega
    · obtain rfl : k = H := by omega
      have HF := Lib.hid HI.out.done
      go_wp2
      go_ret
      exact ⟨.inr ⟨pre, bb, _, _, _, _, _, _, HF.out, rfl, Ars.of_owns HOW.out HI.out.2.1 HI.out.1, High.of_owns HOW.out, Front.of_owns HOW.out, HX.out⟩, HG.out⟩

end Go.Proofs.Ytbfjihbkkcggmaa
