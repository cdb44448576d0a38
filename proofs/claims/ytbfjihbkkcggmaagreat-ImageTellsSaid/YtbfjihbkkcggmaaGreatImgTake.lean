/- Used by the law. -/
import Derived.Test.YtbfjihbkkcggmaaGreatVarRef
import Derived.Test.YtbfjihbkkcggmaaGreatPackC
import Derived.Test.YtbfjihbkkcggmaaGreatPackI
import Derived.Test.YtbfjihbkkcggmaaGreatPackF
namespace Go.Proofs.YtbfjihbkkcggmaaGreat
open Go.RowKit

def NumIs (B : Nat) (w' : World) (e : Ending) (k : IntKind) (r : Nat × List Int × Bool) : Prop :=
  ∃ a n c, e = .returned (.tuple #[.int k (r.1 : Int), .slice a n c, .bool r.2.2]) ∧ Sl .u8 w' a n c r.2.1 ∧ Low B a n
def Front (a : Option Addr) (n : Nat) : Prop := n = 0 ∨ ∃ b, a = some ⟨b, 0, none⟩
theorem Front.of_owns {w : World} {B : Nat} {T : TypeId} {size : Nat} {a : Option Addr} {n cap m : Nat} {l : List Value} (h : w.ownsRow B T size (.slice a n cap) m l) : Front a n := by
  rcases h.2 with ⟨h1, _⟩ | ⟨g, c, cur, h1, _⟩
  · cases h1; exact .inl rfl
  · cases h1; exact .inr ⟨g, rfl⟩
def High (B : Nat) (a : Option Addr) (n : Nat) : Prop := n = 0 ∨ ∃ b o, a = some ⟨b, o, none⟩ ∧ B ≤ b
theorem High.of_owns {w : World} {B : Nat} {T : TypeId} {size : Nat} {a : Option Addr} {n cap m : Nat} {l : List Value} (h : w.ownsRow B T size (.slice a n cap) m l) : High B a n := by
  rcases h.2 with ⟨h1, _⟩ | ⟨g, c, cur, h1, h2, _⟩
  · cases h1; exact .inl rfl
  · cases h1; exact .inr ⟨g, 0, rfl, h2⟩
theorem High.mono {B B' : Nat} {a : Option Addr} {n : Nat} (h : High B a n) (hB : B' ≤ B) : High B' a n := by
  rcases h with h | ⟨b, o, h1, h2⟩
  · exact .inl h
  · exact .inr ⟨b, o, h1, by omega⟩
theorem Sl.high {k : IntKind} {w w' : World} {a : Option Addr} {n cap B : Nat} {zs : List Int} (h : Sl k w a n cap zs) (hh : High B a n) (hc : ∀ b, B ≤ b → b < w.heap.size → w'.heap[b]? = w.heap[b]?) : Sl k w' a n cap zs := by
  obtain ⟨h1, h2, h3, h4, h5⟩ := h
  refine ⟨h1, h2, h3, h4, ?_⟩
  rcases h5 with h5 | ⟨b, off, ha, hcell⟩
  · exact .inl h5
  · rcases Nat.eq_zero_or_pos n with h0 | hp
    · exact .inl h0
    · refine .inr ⟨b, off, ha, fun i hi => ?_⟩
      rcases hh with hh | ⟨b', o', hb', hB⟩
      · omega
      · rw [ha] at hb'
        cases hb'
        have e := hcell i hi
        have hlt := cell_lt e
        rw [World.cell?] at e ⊢
        rw [hc b hB hlt]; exact e
theorem Sl.apart {w w' : World} {a : Option Addr} {n cap : Nat} {zs : List Int} {k : Option Nat} (h : Sl .i64 w a n cap zs) (hf : Front a n) (hg : w.grownBy w' k) (hk : ∀ b, k = some b → ∀ z : Int, w.cell? ⟨b, 0, none⟩ ≠ some (.int .i64 z)) : Sl .i64 w' a n cap zs := by
  obtain ⟨h1, h2, h3, h4, h5⟩ := h
  refine ⟨h1, h2, h3, h4, ?_⟩
  rcases h5 with h5 | ⟨b, off, ha, hc⟩
  · exact .inl h5
  · rcases Nat.eq_zero_or_pos n with h0 | hp
    · exact .inl h0
    · refine .inr ⟨b, off, ha, fun i hi => ?_⟩
      rcases hf with hf | ⟨b', hb'⟩
      · omega
      · rw [ha] at hb'
        simp only [Option.some.injEq, Addr.mk.injEq, and_true] at hb'
        obtain ⟨rfl, rfl⟩ := hb'
        have hne : k ≠ some b := fun e => hk b e _ (by have := hc 0 hp; simpa using this)
        exact hg.cell (hc i hi) (fun e => hne e.symm)
def SideIs (B E : Nat) (w' : World) (e : Ending) (r : List Int × List Int × Bool) : Prop :=
  ∃ la ln lc a n c, e = .returned (.tuple #[.slice la ln lc, .slice a n c, .bool r.2.2]) ∧ Sl .i64 w' la ln lc r.1 ∧ Front la ln ∧ High E la ln ∧ Sl .u8 w' a n c r.2.1 ∧ Low B a n

namespace Img
theorem dTake_le (b : List Int) : (dTake b).1 ≤ 2000000 := by
  unfold dTake take
  split
  · rename_i h
    split at h
    · split at h
      · cases h; omega
      · cases h
    · cases h
  · exact Nat.zero_le _
theorem dCost_lt (b : List Int) : (dCost b).1 < 18446744073709551616 := by
  unfold dCost
  split
  · rename_i n r h; exact (Var.take_some h).2
  · simp
end Img

set_option maxHeartbeats 1600000 in
set_option maxRecDepth 100000 in
theorem rtake15_is (B : Nat) (a : Option Addr) (n cap : Nat) (b : List Int) (w : World) (hs : Sl .u8 w a n cap b) (hl : Low B a n) :
    Calls Tryz.prog 30 #[.slice a n cap] w fun e w' => NumIs B w' e .i64 (Img.dTake b) ∧ Below w.heap.size w w' := by
  have HC := Lib.hid (rtake_at B a n cap b w hs hl)
  cases hr : Var.take b with
  | none =>
    have HR := Lib.hid hr
    have HD : Hid (Img.dTake b = (0, [], false)) := by show _ = _; rw [Img.dTake, Img.take, hr]
    clear hr hs hl
    go_enter Tryz.func30, Tryz.ntmps30
    go_wp2_with fail
    refine HC.out.mono ?_
    rintro e w1 ⟨h1, hb1⟩
    obtain rfl := h1.none HR.out
    have HB := Lib.hid hb1
    clear h1 hb1
    go_wp2
    go_ret3
    exact ⟨by rw [HD.out]; exact ⟨none, 0, 0, rfl, Sl.nil, .inl rfl⟩, HB.out⟩
  | some x =>
    obtain ⟨m, l⟩ := x
    have HR := Lib.hid hr
    have hm := (Var.take_some hr).2
    by_cases hle : m ≤ 2000000
    · have HD : Hid (Img.dTake b = (m, l, true)) := by show _ = _; rw [Img.dTake, Img.take, hr]; simp [hle]
      have hgt : ¬ (2000000 : Int) < (m : Int) := by omega
      have hwi : IntKind.i64.wrap (m : Int) = (m : Int) := by rw [IntKind.wrap_i64]; omega
      clear hr hs hl
      go_enter Tryz.func30, Tryz.ntmps30
      go_wp2_with fail
      refine HC.out.mono ?_
      rintro e w1 ⟨h1, hb1⟩
      obtain ⟨a1, n1, c1, rfl, hs1, hl1⟩ := h1.some HR.out
      have HB := Lib.hid hb1
      have HS := Lib.hid (And.intro hs1 hl1)
      clear h1 hb1 hs1 hl1
      go_wp2
      go_ret3
      exact ⟨by rw [HD.out]; exact ⟨a1, n1, c1, rfl, HS.out.1, HS.out.2⟩, HB.out⟩
    · have HD : Hid (Img.dTake b = (0, [], false)) := by show _ = _; rw [Img.dTake, Img.take, hr]; simp [hle]
      have hgt : (2000000 : Int) < (m : Int) := by omega
      clear hr hs hl
      go_enter Tryz.func30, Tryz.ntmps30
      go_wp2_with fail
      refine HC.out.mono ?_
      rintro e w1 ⟨h1, hb1⟩
      obtain ⟨a1, n1, c1, rfl, hs1, hl1⟩ := h1.some HR.out
      have HB := Lib.hid hb1
      clear h1 hb1 hs1 hl1
      go_wp2
      go_ret3
      exact ⟨by rw [HD.out]; exact ⟨none, 0, 0, rfl, Sl.nil, .inl rfl⟩, HB.out⟩

set_option maxHeartbeats 1600000 in
set_option maxRecDepth 100000 in
theorem rtakeCost15_is (B : Nat) (a : Option Addr) (n cap : Nat) (b : List Int) (ok : Bool) (w : World) (hs : Sl .u8 w a n cap b) (hl : Low B a n) :
    Calls Tryz.prog 61 #[.slice a n cap, .bool ok] w fun e w' => NumIs B w' e .u64 ((Img.dCost b).1, (Img.dCost b).2.1, ok && (Img.dCost b).2.2) ∧ Below w.heap.size w w' := by
  have HC := Lib.hid (rtake_at B a n cap b w hs hl)
  cases hr : Var.take b with
  | none =>
    have HR := Lib.hid hr
    have HD : Hid (Img.dCost b = (0, [], false)) := by show _ = _; rw [Img.dCost, hr]
    clear hr hs hl
    cases ok with
    | false =>
      go_enter Tryz.func61, Tryz.ntmps61
      go_wp2_with fail
      refine HC.out.mono ?_
      rintro e w1 ⟨h1, hb1⟩
      obtain rfl := h1.none HR.out
      have HB := Lib.hid hb1
      clear h1 hb1
      go_wp2
      go_ret3
      exact ⟨by rw [HD.out]; exact ⟨none, 0, 0, rfl, Sl.nil, .inl rfl⟩, HB.out⟩
    | true =>
      go_enter Tryz.func61, Tryz.ntmps61
      go_wp2_with fail
      refine HC.out.mono ?_
      rintro e w1 ⟨h1, hb1⟩
      obtain rfl := h1.none HR.out
      have HB := Lib.hid hb1
      clear h1 hb1
      go_wp2
      go_ret3
      exact ⟨by rw [HD.out]; exact ⟨none, 0, 0, rfl, Sl.nil, .inl rfl⟩, HB.out⟩
  | some x =>
    obtain ⟨m, l⟩ := x
    have HR := Lib.hid hr
    have hm := (Var.take_some hr).2
    have HD : Hid (Img.dCost b = (m, l, true)) := by show _ = _; rw [Img.dCost, hr]
    clear hr hs hl
    cases ok with
    | false =>
      go_enter Tryz.func61, Tryz.ntmps61
      go_wp2_with fail
      refine HC.out.mono ?_
      rintro e w1 ⟨h1, hb1⟩
      obtain ⟨a1, n1, c1, rfl, hs1, hl1⟩ := h1.some HR.out
      have HB := Lib.hid hb1
      have HS := Lib.hid (And.intro hs1 hl1)
      clear h1 hb1 hs1 hl1
      go_wp2
      go_ret3
      exact ⟨by rw [HD.out]; exact ⟨a1, n1, c1, rfl, HS.out.1, HS.out.2⟩, HB.out⟩
    | true =>
      go_enter Tryz.func61, Tryz.ntmps61
      go_wp2_with fail
      refine HC.out.mono ?_
      rintro e w1 ⟨h1, hb1⟩
      obtain ⟨a1, n1, c1, rfl, hs1, hl1⟩ := h1.some HR.out
      have HB := Lib.hid hb1
      have HS := Lib.hid (And.intro hs1 hl1)
      clear h1 hb1 hs1 hl1
      go_wp2
      go_ret3
      exact ⟨by rw [HD.out]; exact ⟨a1, n1, c1, rfl, HS.out.1, HS.out.2⟩, HB.out⟩

def IntsAt (n : Nat) (b0 : List Int) (k : Nat) (pre bb : List Int) (ok : Bool) : Prop :=
  pre.length = k ∧ (∀ z ∈ pre, 0 ≤ z ∧ z ≤ 2000000) ∧ Img.dInts n b0 = if ok = true then (pre ++ (Img.dInts (n - k) bb).1, (Img.dInts (n - k) bb).2.1, (Img.dInts (n - k) bb).2.2) else (pre, bb, false)
theorem IntsAt.next {n : Nat} {b0 : List Int} {k : Nat} {pre bb : List Int} (h : IntsAt n b0 k pre bb true) (hk : k < n) : IntsAt n b0 (k + 1) (pre ++ [((Img.dTake bb).1 : Int)]) (Img.dTake bb).2.1 (Img.dTake bb).2.2 := by
  obtain ⟨h1, h2, h3⟩ := h
  refine ⟨by simp [h1], ?_, ?_⟩
  · intro z hz
    rcases List.mem_append.1 hz with hz | hz
    · exact h2 z hz
    · simp only [List.mem_singleton] at hz
      subst hz
      have := Img.dTake_le bb
      omega
  · rw [h3, if_pos rfl, show n - k = (n - (k + 1)) + 1 from by omega, Img.dInts]
    cases (Img.dTake bb).2.2 <;> simp
theorem IntsAt.done {n : Nat} {b0 : List Int} {k : Nat} {pre bb : List Int} {ok : Bool} (h : IntsAt n b0 k pre bb ok) (hk : k = n ∨ ok = false) : Img.dInts n b0 = (pre, bb, ok) := by
  obtain ⟨h1, h2, h3⟩ := h
  rw [h3]
  cases ok with
  | false => rfl
  | true =>
    rcases hk with rfl | hk
    · rw [if_pos rfl, Nat.sub_self, Img.dInts]; simp
    · cases hk

set_option maxHeartbeats 3200000 in
set_option maxRecDepth 100000 in
theorem rtakeSide15_is (B : Nat) (a : Option Addr) (n cap : Nat) (b : List Int) (w : World) (hs : Sl .u8 w a n cap b) (hl : Low B a n) (hB : B ≤ w.heap.size) :
    Calls Tryz.prog 62 #[.slice a n cap] w fun e w' => SideIs B w.heap.size w' e (Img.dSide b) ∧ Below w.heap.size w w' := by
  have HC := Lib.hid (rtake15_is B a n cap b w hs hl)
  have HBB := Lib.hid hB
  obtain ⟨N, b0, ok0, hD⟩ : ∃ N b0 ok0, Img.dTake b = (N, b0, ok0) := ⟨_, _, _, rfl⟩
  have hN := Img.dTake_le b
  rw [hD] at hN HC
  simp only at hN
  have HD := Lib.hid hD
  have hz0 : ok0 = false → N = 0 ∧ b0 = [] := by
    intro h
    subst h
    unfold Img.dTake at hD
    split at hD
    · cases hD
    · cases hD; exact ⟨rfl, rfl⟩
  have HZ := Lib.hid hz0
  clear hs hD hz0 hl hB
  go_enter Tryz.func62, Tryz.ntmps62
  go_wp2_with fail
  refine HC.out.mono ?_
  rintro e w1 ⟨⟨a1, n1, c1, rfl, hs1, hl1⟩, hb1⟩
  have S1 := Lib.hid hs1
  have L1 := Lib.hid hl1
  have B1 := Lib.hid hb1
  clear hs1 hl1 hb1 HC
  go_wp2
  go_loopw [0, 6, 7, 8] (fun bv okv ov kv wr => ∃ (k c nb cb : Nat) (ao ab : Option Addr) (pre bb : List Int) (ok : Bool), bv = .slice ab nb cb ∧ okv = .bool ok ∧ ov = .slice ao k c ∧ kv = .int .i64 (k : Int) ∧ k ≤ N ∧ Hid (ok0 = false → ok = false) ∧ Hid (ok0 = true → IntsAt N b0 k pre bb ok) ∧ Hid (ok0 = false → pre = [] ∧ bb = []) ∧ Hid (Sl .u8 wr ab nb cb bb) ∧ Hid (Low B ab nb) ∧ Hid (wr.ownsRow w.heap.size 3 1 (.slice ao k c) k (i64s pre)) ∧ Hid (∀ z ∈ pre, 0 ≤ z ∧ z ≤ 2000000) ∧ Hid (Below w.heap.size w wr)) (fun _ _ _ kv _ => N - (intOf kv).toNat)
  case atStart =>
    refine ⟨0, 0, n1, c1, none, a1, [], b0, ok0, rfl, rfl, rfl, rfl, Nat.zero_le _, fun h => h, ?_, fun h => ⟨rfl, (HZ.out h).2⟩, S1.out, L1.out, World.ownsRow_nil _ _ _ _, by first | exact (trivial : True) | (intro z hz; simp at hz), B1.out⟩
    intro h
    refine ⟨rfl, by simp, ?_⟩
    rw [if_pos h, Nat.sub_zero]; simp
  case round =>
    obtain ⟨k, c, nb, cb, ao, ab, pre, bb, ok, rfl, rfl, rfl, rfl, hk, HO, HI, HE, HX, HLW, HOW, HP, HBW⟩ := hrel
    cases ok with
    | false =>
      have HF : Hid (Img.dSide b = (pre, bb, false)) := by
        show _ = _
        rw [Img.dSide, HD.out]
        cases h0 : ok0 with
        | false =>
          obtain ⟨h1, h2⟩ := HE.out h0
          subst h1 h2; rfl
        | true => exact (HI.out h0).done (.inr rfl)
      by_cases hlt : k < N
      · have hki : (k : Int) < (N : Int) := by omega
        go_wp2
        go_ret3
        exact ⟨by rw [HF.out]; exact ⟨_, _, _, _, _, _, rfl, Sl.of_owns (k := .i64) HOW.out (fun z hz => by have := HP.out z hz; exact WalkArith.wf_i64 ⟨by omega, by omega⟩) (by have h := HOW.out.1; simpa [i64s] using h), Front.of_owns HOW.out, High.of_owns HOW.out, HX.out, HLW.out⟩, HBW.out⟩
      · have hki : ¬ (k : Int) < (N : Int) := by omega
        go_wp2
        go_ret3
        exact ⟨by rw [HF.out]; exact ⟨_, _, _, _, _, _, rfl, Sl.of_owns (k := .i64) HOW.out (fun z hz => by have := HP.out z hz; exact WalkArith.wf_i64 ⟨by omega, by omega⟩) (by have h := HOW.out.1; simpa [i64s] using h), Front.of_owns HOW.out, High.of_owns HOW.out, HX.out, HLW.out⟩, HBW.out⟩
    | true =>
      have h0 : ok0 = true := by
        cases h : ok0 with
        | true => rfl
        | false => have := HO.out h; cases this
      have HIN := Lib.hid (HI.out h0)
      by_cases hlt : k < N
      · have hki : (k : Int) < (N : Int) := by omega
        have HCT := Lib.hid (rtake15_is B ab nb cb bb wr HX.out HLW.out)
        have HNX := Lib.hid (HIN.out.next hlt)
        obtain ⟨M, b2, ok2, hD2⟩ : ∃ N b0 ok0, Img.dTake bb = (N, b0, ok0) := ⟨_, _, _, rfl⟩
        have hM := Img.dTake_le bb
        rw [hD2] at hM HCT HNX
        simp only at hM HNX
        have hszw := HBW.out.size
        have HMW : Hid (∀ z ∈ [(M : Int)], (Lit.int .i64 z).wf = true) := by intro z hz; simp at hz; subst hz; exact WalkArith.wf_i64 ⟨by omega, by omega⟩
        have HLP : Hid (pre.length = k) := HIN.out.1
        have HOK := Lib.hid h0
        clear hD2 h0
        go_wp2_with fail
        refine HCT.out.mono ?_
        rintro e w3 ⟨⟨a3, n3, c3, rfl, hs3, hl3⟩, hb3⟩
        have S3 := Lib.hid hs3
        have L3 := Lib.hid hl3
        have B3 : Hid (Below w.heap.size w w3) := HBW.out.trans (hb3.mono hszw)
        have O3 := Lib.hid (ownsRow_below HOW.out hb3 (Nat.le_refl _))
        clear hs3 hl3 hb3 HCT
        go_wp2_with (at_builtin; refine append_i64 (by rfl) (.tmp 32) (.tmp 34) (by rfl) w.heap.size _ k pre (by rfl) (ownsRow_below O3.out ((Below.refl w3.heap.size w3).alloc (Nat.le_refl _) _) (Nat.le_refl _)) (some ⟨w3.heap.size, 0, none⟩) 1 1 [(M : Int)] (by rfl) (Sl.newI [(M : Int)] HMW.out (by unfold maxLen; simp) rfl rfl rfl) (k + 1) rfl (by omega) (by have := B3.out.size; simp; omega) ?_; intro a4 c4 w4 hown4 hb4 hnil4; have O4 := Lib.hid hown4; have B4 : Hid (Below w.heap.size w w4) := (B3.out.alloc B3.out.size _).trans hb4; have S4 : Hid (Sl .u8 w4 a3 n3 c3 b2) := (S3.out.alloc _).low (L3.out.mono HBB.out) hb4; clear hown4 hb4 hnil4)
        go_roundw
        case rel =>
          refine ⟨k + 1, c4, n3, c3, a4, a3, pre ++ [(M : Int)], b2, ok2, rfl, rfl, rfl, by go_num, by omega, ?_, fun _ => HNX.out, ?_, S4.out, L3.out, O4.out, HNX.out.2.1, B4.out⟩
          · intro h; rw [HOK.out] at h; cases h
          · intro h; rw [HOK.out] at h; cases h
        case measure => simp [intOf]; omega
      · obtain rfl : k = N := by omega
        have HF : Hid (Img.dSide b = (pre, bb, true)) := by
          show _ = _
          rw [Img.dSide, HD.out, h0]
          exact HIN.out.done (.inl rfl)
        go_wp2
        go_ret3
        exact ⟨by rw [HF.out]; exact ⟨_, _, _, _, _, _, rfl, Sl.of_owns (k := .i64) HOW.out (fun z hz => by have := HP.out z hz; exact WalkArith.wf_i64 ⟨by omega, by omega⟩) HIN.out.1, Front.of_owns HOW.out, High.of_owns HOW.out, HX.out, HLW.out⟩, HBW.out⟩

end Go.Proofs.YtbfjihbkkcggmaaGreat
