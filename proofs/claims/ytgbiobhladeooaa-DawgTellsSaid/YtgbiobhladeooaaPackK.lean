import Derived.Test.YtgbiobhladeooaaOrderWords
import Derived.Test.YtgbiobhladeooaaPackA
import Derived.Test.YtgbiobhladeooaaOrderWalkB
import Derived.Test.YtgbiobhladeooaaPackV
import Derived.Test.YtgbiobhladeooaaTrieRefB
import Derived.Test.YtgbiobhladeooaaTrieRefD
import Derived.Test.YtgbiobhladeooaaChecked
import Derived.Test.YtgbiobhladeooaaPackR
import Derived.Test.YtgbiobhladeooaaTrieMk
import Derived.KernelRfl
/- A slice of kinds as it lies. Nothing of the program. -/
namespace Go.Proofs.Ytgbiobhladeooaa
open Go.RowKit Daw

/-- a kind as it lies -/
structure Kw where
  ea : Option Addr
  en : Nat
  ec : Nat
  es : List Wd
  L : Nat
  f : Wd
def Kw.e (x : Kw) : Value := .slice x.ea x.en x.ec
def Kw.l (x : Kw) : Value := .int .i64 (x.L : Int)
def Kw.cells (x : Kw) : List Value := [x.e, x.l, x.f.v]
def Kw.v (x : Kw) : Value := .agg #[x.e, x.l, x.f.v]
def Kw.k (x : Kw) : Kd := ⟨nums x.es, x.L, x.f.zs⟩
def Kw.no : Kw := ⟨none, 0, 0, [], 0, Wd.no⟩
def Kw.Good (w : World) (x : Kw) : Prop := Ws w x.ea x.en x.ec x.es ∧ x.f.Good w ∧ x.L ≤ 1000
set_option maxRecDepth 100000 in
theorem Kw.no_good (w : World) : Kw.no.Good w := ⟨Ws.nil, Wd.no_good w, by show 0 ≤ 1000; omega⟩
set_option maxRecDepth 100000 in
theorem Kw.Good.below {w w' : World} {x : Kw} {B : Nat} (h : x.Good w) (hb : Below B w w') (hB : w.heap.size ≤ B) : x.Good w' := ⟨h.1.below hb hB, h.2.1.below hb hB, h.2.2⟩
def kds (xs : List Kw) : List Kd := xs.map Kw.k
def kcells (xs : List Kw) : List Value := xs.flatMap Kw.cells
set_option maxRecDepth 100000 in
theorem kds_length (xs : List Kw) : (kds xs).length = xs.length := by simp [kds]
set_option maxRecDepth 100000 in
theorem kds_app (xs ys : List Kw) : kds (xs ++ ys) = kds xs ++ kds ys := by simp [kds]
set_option maxRecDepth 100000 in
theorem kcells_app (xs ys : List Kw) : kcells (xs ++ ys) = kcells xs ++ kcells ys := by simp [kcells]
set_option maxRecDepth 100000 in
theorem kcells_cons (x : Kw) (xs : List Kw) : kcells (x :: xs) = x.cells ++ kcells xs := by simp [kcells]
set_option maxRecDepth 100000 in
theorem kcells_length : ∀ xs : List Kw, (kcells xs).length = xs.length * 3
  | [] => rfl
  | x :: xs => by rw [kcells_cons, List.length_append, kcells_length xs]; simp [Kw.cells]; omega
set_option maxRecDepth 100000 in
theorem kds_at (xs : List Kw) (i : Nat) : (kds xs).getD i Kd.no = (xs.getD i Kw.no).k := by
  simp only [kds, List.getD_eq_getElem?_getD, List.getElem?_map]
  cases xs[i]? <;> rfl
set_option maxRecDepth 100000 in
theorem kcells_at : ∀ (xs : List Kw) (i j : Nat), i < xs.length → j < 3 → (kcells xs)[i * 3 + j]? = (xs.getD i Kw.no).cells[j]?
  | [], _, _, h, _ => by simp at h
  | x :: xs, 0, j, _, hj => by
    rw [kcells_cons, Nat.zero_mul, Nat.zero_add, List.getElem?_append_left (by simpa [Kw.cells] using hj)]; rfl
  | x :: xs, i + 1, j, h, hj => by
    rw [kcells_cons, List.getElem?_append_right (by simp [Kw.cells]; omega), show (i + 1) * 3 + j - x.cells.length = i * 3 + j from by simp [Kw.cells]; omega, kcells_at xs i j (by simpa using h) hj]
    simp
set_option maxRecDepth 100000 in
theorem kcells_one (xs : List Kw) : ∀ u ∈ kcells xs, u.oneCell' = true := by
  intro u hu
  obtain ⟨x, _, hx⟩ := List.mem_flatMap.1 hu
  simp only [Kw.cells, List.mem_cons, List.not_mem_nil, or_false] at hx
  rcases hx with rfl | rfl | rfl <;> rfl
/-- the three cells of kind i -/
def KwAt (w : World) (b o : Nat) (x : Kw) : Prop := w.cell? ⟨b, o, none⟩ = some x.e ∧ w.cell? ⟨b, o + 1, none⟩ = some x.l ∧ w.cell? ⟨b, o + 2, none⟩ = some x.f.v
set_option maxRecDepth 100000 in
theorem KwAt.below {w w' : World} {b o B : Nat} {x : Kw} (h : KwAt w b o x) (hb : Below B w w') (hB : w.heap.size ≤ B) : KwAt w' b o x := by
  have hlt := cell_lt h.1
  refine ⟨?_, ?_, ?_⟩
  · rw [hb.cell (p := ⟨b, o, none⟩) (by show b < B; omega)]; exact h.1
  · rw [hb.cell (p := ⟨b, o + 1, none⟩) (by show b < B; omega)]; exact h.2.1
  · rw [hb.cell (p := ⟨b, o + 2, none⟩) (by show b < B; omega)]; exact h.2.2
/-- the slice (a, n, cap) of kinds reads as xs -/
def Ks (w : World) (a : Option Addr) (n cap : Nat) (xs : List Kw) : Prop :=
  xs.length = n ∧ n ≤ cap ∧ cap ≤ maxLen ∧ (∀ x ∈ xs, x.Good w) ∧ (n = 0 ∨ ∃ b off, a = some ⟨b, off, none⟩ ∧ ∀ i, i < n → KwAt w b (off + i * 3) (xs.getD i Kw.no))
set_option maxRecDepth 100000 in
theorem Ks.below {w w' : World} {a : Option Addr} {n cap B : Nat} {xs : List Kw} (h : Ks w a n cap xs) (hb : Below B w w') (hB : w.heap.size ≤ B) : Ks w' a n cap xs := by
  obtain ⟨h1, h2, h3, h4, h5⟩ := h
  refine ⟨h1, h2, h3, fun x hx => (h4 x hx).below hb hB, ?_⟩
  rcases h5 with h5 | ⟨b, off, ha, hc⟩
  · exact .inl h5
  · exact .inr ⟨b, off, ha, fun i hi => (hc i hi).below hb hB⟩
set_option maxRecDepth 100000 in
theorem Ks.drawn {w w' : World} {a : Option Addr} {n cap : Nat} {xs : List Kw} (h : Ks w a n cap xs) (hq : ∃ q, w' = w.drewN q) : Ks w' a n cap xs := by
  obtain ⟨q, rfl⟩ := hq; exact h
set_option maxRecDepth 100000 in
theorem Ks.good {w : World} {a : Option Addr} {n cap : Nat} {xs : List Kw} (h : Ks w a n cap xs) (i : Nat) : (xs.getD i Kw.no).Good w := by
  rw [List.getD_eq_getElem?_getD]
  rcases Nat.lt_or_ge i xs.length with hi | hi
  · rw [List.getElem?_eq_getElem hi]; exact h.2.2.2.1 _ (List.getElem_mem hi)
  · rw [List.getElem?_eq_none hi]; exact Kw.no_good w
set_option maxRecDepth 100000 in
theorem Ks.one {w : World} {a : Option Addr} {n cap : Nat} {xs : List Kw} (h : Ks w a n cap xs) (i : Nat) (hi : i < n) :
    ∃ b off ea en ec es L fa fn fc fz, a = some ⟨b, off, none⟩ ∧ b < w.heap.size ∧ w.cell? ⟨b, off + i * 3, none⟩ = some (.slice ea en ec) ∧ w.cell? ⟨b, off + i * 3 + 1, none⟩ = some (.int .i64 ((L : Nat) : Int)) ∧ w.cell? ⟨b, off + i * 3 + 2, none⟩ = some (.slice fa fn fc) ∧
      Ws w ea en ec es ∧ Sl .i64 w fa fn fc fz ∧ L ≤ 1000 ∧ xs.getD i Kw.no = ⟨ea, en, ec, es, L, ⟨fa, fn, fc, fz⟩⟩ := by
  have hg := h.good i
  obtain ⟨h1, h2, h3, h4, h5⟩ := h
  rcases h5 with h5 | ⟨b, off, ha, hc⟩
  · omega
  · have hx := hc i hi
    generalize xs.getD i Kw.no = x at hg hx
    obtain ⟨ea, en, ec, es, L, ⟨fa, fn, fc, fz⟩⟩ := x
    exact ⟨b, off, ea, en, ec, es, L, fa, fn, fc, fz, ha, cell_lt hx.1, hx.1, hx.2.1, hx.2.2, hg.1, hg.2.1, hg.2.2, rfl⟩
set_option maxRecDepth 100000 in
theorem Ks.of_owns {w : World} {B : Nat} {T : TypeId} {a : Option Addr} {n cap : Nat} {xs : List Kw}
    (h : w.ownsRow B T 3 (.slice a n cap) n (kcells xs)) (hg : ∀ x ∈ xs, x.Good w) : Ks w a n cap xs := by
  have hl : xs.length = n := by have h1 := h.1; rw [kcells_length] at h1; omega
  have h' := h
  obtain ⟨_, h2⟩ := h
  rcases h2 with ⟨hv, h0⟩ | ⟨g, c, cur, hv, hgB, hh, hnc, hcm, hcs, ht⟩
  · simp only [Value.slice.injEq] at hv
    obtain ⟨rfl, rfl, rfl⟩ := hv
    exact ⟨hl, Nat.le_refl _, by unfold maxLen; omega, hg, .inl rfl⟩
  · simp only [Value.slice.injEq] at hv
    obtain ⟨rfl, _, rfl⟩ := hv
    refine ⟨hl, hnc, hcm, hg, .inr ⟨g, 0, rfl, fun i hi => ?_⟩⟩
    have e : ∀ j, j < 3 → w.cell? ⟨g, 0 + i * 3 + j, none⟩ = (xs.getD i Kw.no).cells[j]? := fun j hj => by
      rw [Nat.zero_add, h'.cellAt (i * 3 + j) (by omega), kcells_at xs i j (by omega) hj]
    exact ⟨e 0 (by omega), e 1 (by omega), e 2 (by omega)⟩
set_option maxRecDepth 100000 in
theorem Ks.nil {w : World} : Ks w none 0 0 [] := ⟨rfl, Nat.le_refl _, by unfold maxLen; omega, by simp, .inl rfl⟩
set_option maxRecDepth 100000 in
theorem kcells_set (xs : List Kw) (i : Nat) (z : Kw) : kcells (xs.set i z) = (((kcells xs).set (i * 3) z.e).set (i * 3 + 1) z.l).set (i * 3 + 2) z.f.v := by
  induction xs generalizing i with
  | nil => simp [kcells]
  | cons x xs ih =>
    cases i with
    | zero => simp [kcells, Kw.cells]
    | succ i =>
      rw [List.set_cons_succ, kcells_cons, ih i, kcells_cons, show (i + 1) * 3 = i * 3 + 3 by omega, show i * 3 + 3 + 1 = i * 3 + 1 + 3 by omega, show i * 3 + 3 + 2 = i * 3 + 2 + 3 by omega]
      simp [Kw.cells]
set_option maxRecDepth 100000 in
theorem kds_set (xs : List Kw) (i : Nat) (z : Kw) : kds (xs.set i z) = (kds xs).set i z.k := by simp [kds, List.map_set]

end Go.Proofs.Ytgbiobhladeooaa

/- The document's find and ahead of layer 11. -/
namespace Go.Proofs.Ytgbiobhladeooaa
open Go.RowKit Tri Daw

/-- what find answers -/
def findV (l : List Kd) (e : List (List Int)) : Int := match findK l e with | some k => (k : Int) | none => -1

set_option maxRecDepth 100000 in
set_option maxHeartbeats 3200000 in
theorem rfind11_is (a ea : Option Addr) (n cap en ec : Nat) (xs : List Kw) (es : List Wd) (w : World) (ha : Ks w a n cap xs) (he : Ws w ea en ec es) :
    Calls Try.prog 28 #[.slice a n cap, .slice ea en ec] w fun e w' => e = .returned (.int .i64 (findV (kds xs) (nums es))) ∧ ∃ q, w' = w.drewN q := by
  have hnc := ha.2.1
  have hcm := ha.2.2.1
  unfold maxLen at hcm
  have HA := Lib.hid ha
  have HE := Lib.hid he
  have HL : Hid ((kds xs).length = n) := by show _ = _; rw [kds_length, ha.1]
  clear ha he
  go_enter Try.func28, Try.ntmps28
  go_wp2
  go_loopw [5] (fun ix wr => ∃ j : Nat, j ≤ n ∧ ix = .int .i64 (j : Int) ∧ Hid (∀ p, p < j → ((kds xs).getD p Kd.no).E ≠ nums es) ∧ Hid (∃ q, wr = w.drewN q)) (fun ix _ => n - (intOf ix).toNat)
  case atStart => exact ⟨0, Nat.zero_le _, rfl, (fun p hp => by omega), ⟨0, rfl⟩⟩
  case round =>
    obtain ⟨j, hj, rfl, HT, HQ⟩ := hrel
    by_cases hlt : j < n
    · obtain ⟨b1, o1, ka, kn, kc, kes, L, fa, fn, fc, fz, rfl, _, hx1, _, _, hws, _, _, hz⟩ := (HA.out.drawn HQ.out).one j hlt
      have HWS := Lib.hid hws
      have HZ : Hid (((kds xs).getD j Kd.no).E = nums kes) := by show _ = _; rw [kds_at, hz]; rfl
      have HEW : Hid (Ws wr ea en ec es) := HE.out.drawn HQ.out
      have hlti : (j : Int) < (n : Int) := by omega
      obtain ⟨g, hg⟩ : ∃ g, decide (nums kes = nums es) = g := ⟨_, rfl⟩
      have HG := Lib.hid hg
      clear hws hz hg
      go_wp2_with fail
      refine (sames_is _ _ _ _ _ _ kes es g _ HWS.out HEW.out HG.out).mono ?_
      rintro e w1 ⟨rfl, hq1⟩
      have HQ1 : Hid (∃ q, w1 = w.drewN q) := by obtain ⟨q, rfl⟩ := hq1; exact drew_more (q := q) HQ.out
      clear hq1
      cases g
      · go_wp2
        go_roundw
        case rel =>
          refine ⟨j + 1, by omega, by go_num, fun p hp => ?_, HQ1.out⟩
          rcases Nat.lt_or_ge p j with h | h
          · exact HT.out p h
          · rw [show p = j by omega, HZ.out]; exact of_decide_eq_false HG.out
        case measure => simp [intOf]; omega
      · have hfin : findV (kds xs) (nums es) = (j : Int) := by
          unfold findV
          rw [findK_first (by rw [HL.out]; exact hlt) (by rw [HZ.out]; exact of_decide_eq_true HG.out) HT.out]
        have HF := Lib.hid hfin
        clear hfin
        go_wp2
        go_ret
        exact ⟨by rw [HF.out]; rfl, HQ1.out⟩
    · have hfin : findV (kds xs) (nums es) = -1 := by
        unfold findV
        cases hf : findK (kds xs) (nums es) with
        | none => rfl
        | some k =>
          exfalso
          obtain ⟨h1, h2⟩ := findK_some hf
          rw [HL.out] at h1
          exact HT.out k (by omega) h2
      have HF := Lib.hid hfin
      clear hfin
      go_wp2
      go_ret
      exact ⟨by rw [HF.out]; rfl, HQ.out⟩

set_option maxRecDepth 100000 in
set_option maxHeartbeats 3200000 in
theorem rahead_is (x y : Kw) (r : Bool) (w : World) (hx : x.Good w) (hy : y.Good w) (hr : aheadK x.k y.k = r) :
    Calls Try.prog 54 #[x.v, y.v] w fun e w' => e = .returned (.bool r) ∧ Below w.heap.size w w' := by
  obtain ⟨ea, en, ec, es, L, ⟨fa, fn, fc, fz⟩⟩ := x
  obtain ⟨ea', en', ec', es', L', ⟨fa', fn', fc', fz'⟩⟩ := y
  have HX : Hid (Sl .i64 w fa fn fc fz) := hx.2.1
  have HY : Hid (Sl .i64 w fa' fn' fc' fz') := hy.2.1
  have hr' : (decide (L < L') || decide (L = L') && lessL fz fz') = r := hr
  have HR := Lib.hid hr'
  have HB : ∀ o o', Hid (Below w.heap.size w ((w.alloc o).alloc o')) := fun o o' => ((Below.refl _ w).alloc (Nat.le_refl _) o).alloc (by simp) o'
  clear hx hy hr hr'
  simp only [Kw.v, Kw.e, Kw.l, Wd.v]
  by_cases h1 : L < L'
  · obtain rfl : r = true := by rw [← HR.out, decide_eq_true h1]; rfl
    have h1i : (L : Int) < (L' : Int) := by omega
    have h1d : decide ((L : Int) < (L' : Int)) = true := decide_eq_true h1i
    go_enter Try.func54, Try.ntmps54
    go_wp2
    go_ret
    exact ⟨rfl, (HB _ _).out⟩
  · have h1i : ¬ (L : Int) < (L' : Int) := by omega
    have h1d : decide ((L : Int) < (L' : Int)) = false := decide_eq_false h1i
    by_cases h2 : L = L'
    · subst h2
      obtain rfl : r = lessL fz fz' := by rw [← HR.out]; simp
      have h2d : ((L : Int) == (L : Int)) = true := by simp
      obtain ⟨g, hg⟩ : ∃ g, lessL fz fz' = g := ⟨_, rfl⟩
      rw [hg]
      have HG := Lib.hid hg
      clear hg HR
      go_enter Try.func54, Try.ntmps54
      go_wp2_with fail
      refine (rless_is fa fa' fn fn' fc fc' fz fz' g _ (HX.out.below (HB _ _).out (Nat.le_refl _)) (HY.out.below (HB _ _).out (Nat.le_refl _)) HG.out).mono ?_
      rintro e w1 ⟨rfl, hq1⟩
      have HB1 := Lib.hid (below_drawn (HB _ _).out hq1)
      clear hq1
      go_wp2
      go_ret
      exact ⟨rfl, HB1.out⟩
    · obtain rfl : r = false := by rw [← HR.out, decide_eq_false h1, decide_eq_false h2]; rfl
      have h2d : ((L : Int) == (L' : Int)) = false := by simp; omega
      have h2i : ¬ (L : Int) = (L' : Int) := by omega
      go_enter Try.func54, Try.ntmps54
      go_wp2
      go_ret
      exact ⟨rfl, (HB _ _).out⟩

end Go.Proofs.Ytgbiobhladeooaa

/- The document's endings of layer 11. -/
namespace Go.Proofs.Ytgbiobhladeooaa
open Go.RowKit Tri Daw

set_option maxRecDepth 100000 in
theorem Sl.behind {k : IntKind} {w : World} {b off n cap : Nat} {zs : List Int} (h : Sl k w (some ⟨b, off, none⟩) n cap zs) {j o' m c' : Nat} (hj : j ≤ n) (ho : o' = off + j) (hm : m = n - j) (hc : c' = cap - j) : Sl k w (some ⟨b, o', none⟩) m c' (zs.drop j) := by
  subst ho hm hc
  obtain ⟨h1, h2, h3, h4, h5⟩ := h
  refine ⟨by rw [List.length_drop, h1], by omega, by omega, fun z hz => h4 z (List.mem_of_mem_drop hz), ?_⟩
  rcases Nat.eq_zero_or_pos (n - j) with h0 | h0
  · exact .inl h0
  · rcases h5 with h5 | ⟨b', off', e, hc⟩
    · omega
    · simp only [Option.some.injEq, Addr.mk.injEq, and_true] at e
      obtain ⟨rfl, rfl⟩ := e
      refine .inr ⟨b, off + j, rfl, fun i hi => ?_⟩
      have := hc (j + i) (by omega)
      rw [← Nat.add_assoc] at this
      rw [this]; simp
set_option maxRecDepth 100000 in
theorem Sl.behind_all {k : IntKind} {w w' : World} {a : Option Addr} {n cap : Nat} {zs : List Int} (h : Sl k w a n cap zs) {j : Nat} {a' : Option Addr} (hj : n ≤ j) : Sl k w' a' 0 0 (zs.drop j) := by
  rw [List.drop_of_length_le (by rw [h.1]; exact hj)]
  exact ⟨rfl, Nat.le_refl _, by unfold maxLen; omega, by simp, .inl rfl⟩
set_option maxRecDepth 100000 in
theorem ends_next {ws : List (List Int)} {p z : List Int} {i : Nat} (hi : i < ws.length) (hz : ws.getD i [] = z) :
    ends (ws.take (i + 1)) p = ends (ws.take i) p ++ (if p.length ≤ z.length ∧ z.take p.length = p then [z.drop p.length] else []) := by
  have e : ws.take (i + 1) = ws.take i ++ [z] := by rw [List.take_succ_eq_append_getElem hi, ← hz]; simp [hi]
  unfold ends
  rw [e, List.filter_append, List.map_append]
  congr 1
  by_cases h : p.length ≤ z.length ∧ z.take p.length = p
  · rw [if_pos h, List.filter_cons_of_pos (by simp [h.1, h.2])]; rfl
  · rw [if_neg h, List.filter_cons_of_neg (by
      intro hc
      rw [Bool.and_eq_true, decide_eq_true_eq, decide_eq_true_eq] at hc
      exact h hc)]; rfl

/-- what endings answers: a row of its own, of pieces of the words that were there -/
def EndsIs (w0 w w' : World) (e : Ending) (l : List (List Int)) : Prop :=
  ∃ a n c ys, e = .returned (.slice a n c) ∧ w'.ownsRow w.heap.size 33 1 (.slice a n c) n (vals ys) ∧ (∀ y ∈ ys, y.Good w0) ∧ nums ys = l ∧ n ≤ 10000 ∧ (a = none → c = 0) ∧ Below w.heap.size w w'

set_option maxRecDepth 100000 in
set_option maxHeartbeats 6400000 in
theorem rendings_own (a pa : Option Addr) (n cap pn pc : Nat) (xs : List Wd) (p : List Int) (w0 w : World) (hs : Ws w0 a n cap xs) (hb0 : Below w0.heap.size w0 w) (hp : Sl .i64 w pa pn pc p) (hne : ∀ z ∈ nums xs, z ≠ []) (hn : n ≤ 10000) :
    Calls Try.prog 29 #[.slice a n cap, .slice pa pn pc] w fun e w' => EndsIs w0 w w' e (ends (nums xs) p) := by
  have hnc := hs.2.1
  have hcm := hs.2.2.1
  have hpc := hp.2.1
  have hpcm := hp.2.2.1
  unfold maxLen at hcm hpcm
  have HS := Lib.hid hs
  have HP := Lib.hid hp
  have HPL := Lib.hid hp.1
  have HNE := Lib.hid hne
  have HL : Hid ((nums xs).length = n) := by show _ = _; rw [nums_length, hs.1]
  have HB0 := Lib.hid hb0
  clear hs hp hne hb0
  go_enter Try.func29, Try.ntmps29
  go_wp2
  go_loopw [5, 7] (fun ov ix wr => ∃ (i L : Nat) (a1 : Option Addr) (c1 : Nat) (outs : List Wd), i ≤ n ∧ L ≤ i ∧ ov = .slice a1 L c1 ∧ ix = .int .i64 (i : Int) ∧ Hid (a1 = none → c1 = 0) ∧ Hid (wr.ownsRow w.heap.size 33 1 (.slice a1 L c1) L (vals outs)) ∧ Hid (∀ x ∈ outs, x.Good w0) ∧ Hid (nums outs = ends ((nums xs).take i) p) ∧ Hid (Below w.heap.size w wr)) (fun _ ix _ => n - (intOf ix).toNat)
  case atStart => exact ⟨0, 0, none, 0, [], Nat.zero_le _, Nat.le_refl _, rfl, rfl, (fun _ => rfl), ⟨rfl, .inl ⟨rfl, rfl⟩⟩, (by show ∀ x ∈ ([] : List Wd), x.Good w0; simp), rfl, Below.refl _ _⟩
  case round =>
    obtain ⟨i, L, a1, c1, outs, hi, hL, rfl, rfl, HNIL, HOW, HGD, HNU, HBW⟩ := hrel
    by_cases hlt : i < n
    · have hbz : Below w0.heap.size w0 wr := HB0.out.trans (HBW.out.mono HB0.out.size)
      obtain ⟨b1, o1, za, zn, zc, z, rfl, hb1, hgd, hclw, hslw, hz⟩ := HS.out.one i hlt
      have hcl : wr.cell? ⟨b1, o1 + i, none⟩ = some (.slice za zn zc) := by rw [hbz.cell (p := ⟨b1, o1 + i, none⟩) hb1]; exact hclw
      have hzl := hslw.1
      have hznc := hslw.2.1
      have hzcm := hslw.2.2.1
      unfold maxLen at hzcm
      have hzm : z ∈ nums xs := by rw [← hz, List.getD_eq_getElem?_getD, List.getElem?_eq_getElem (by rw [HL.out]; exact hlt), Option.getD_some]; exact List.getElem_mem _
      have hz0 : 0 < zn := by rw [← hzl]; exact List.length_pos_iff.2 (HNE.out z hzm)
      obtain ⟨zb, zo, rfl, _, _⟩ := hslw.at hz0
      have HSLW := Lib.hid hslw
      have HSL : Hid (Sl .i64 wr (some ⟨zb, zo, none⟩) zn zc z) := hslw.below hbz (Nat.le_refl _)
      have HPW : Hid (Sl .i64 wr pa pn pc p) := HP.out.below HBW.out (Nat.le_refl _)
      have HZL := Lib.hid hzl
      have HSTEP := Lib.hid (ends_next (p := p) (by rw [HL.out]; exact hlt) hz)
      have hlti : (i : Int) < (n : Int) := by omega
      clear hgd hclw hslw hz hzm hzl hbz hb1
      by_cases hc1 : pn ≤ zn
      · have c1d : decide ((zn : Int) ≥ (pn : Int)) = true := decide_eq_true (by omega)
        have hp0 : (0 : Int) ≤ (pn : Int) := by omega
        have hpz : (pn : Int) ≤ (zc : Int) := by omega
        have hpz2 : (pn : Int) ≤ (zn : Int) := by omega
        have htn : (pn : Int).toNat = pn := by omega
        have HFI : Hid (Sl .i64 wr (some ⟨zb, zo, none⟩) pn zc (z.take pn)) := HSL.out.first pn hc1
        obtain ⟨sm, hsm⟩ : ∃ q, decide (z.take pn = p) = q := ⟨_, rfl⟩
        have HSM := Lib.hid hsm
        clear hsm
        cases sm
        · have HST : Hid (ends ((nums xs).take (i + 1)) p = ends ((nums xs).take i) p) := by
            show _ = _
            rw [HSTEP.out, if_neg (fun h => of_decide_eq_false HSM.out (by have := h.2; rw [HPL.out] at this; exact this)), List.append_nil]
          go_wp2_with (go_at_call 30; refine (same_is _ _ _ _ _ _ (z.take pn) p false _ HFI.out HPW.out HSM.out).mono ?_; rintro e w3 ⟨rfl, q3, rfl⟩)
          go_roundw
          case rel => exact ⟨i + 1, L, a1, c1, outs, by omega, by omega, rfl, by go_num, HNIL.out, HOW.out, HGD.out, (by show _ = _; rw [HST.out]; exact HNU.out), below_drewN HBW.out _⟩
          case measure => simp [intOf]; omega
        · have HST : Hid (ends ((nums xs).take (i + 1)) p = ends ((nums xs).take i) p ++ [z.drop pn]) := by
            show _ = _
            rw [HSTEP.out, if_pos ⟨by rw [HPL.out, HZL.out]; exact hc1, by rw [HPL.out]; exact of_decide_eq_true HSM.out⟩, HPL.out]
          by_cases hcp : zc = pn
          · subst hcp
            obtain rfl : zc = zn := by omega
            have HW0 : ∀ W, Hid (Wd.Good W ⟨some ⟨zb, zo, none⟩, 0, 0, z.drop zc⟩) := fun W => by
              show Sl .i64 W _ 0 0 _
              exact Sl.behind_all (n := zc) HSLW.out (Nat.le_refl _)
            have HW1 := HW0 w0
            have HBQ : Hid (∀ q, Below w.heap.size w (wr.drewN q)) := fun q => below_drewN HBW.out q
            go_wp2_with (first
              | (go_at_call 30
                 refine (same_is _ _ _ _ _ _ (z.take zc) p true _ HFI.out HPW.out HSM.out).mono ?_
                 rintro e w3 ⟨rfl, q3, rfl⟩)
              | (at_builtin
                 go_loud (
                 refine append_words rfl (.tmp 33) (.tmp 40) (by rfl) w.heap.size _ L outs (by rfl) (World.ownsRow.alloc HOW.out _) (some ⟨wr.heap.size, 0, none⟩) 1 1 [⟨some ⟨zb, zo, none⟩, 0, 0, z.drop zc⟩] (by rfl) (Ws.newc [⟨some ⟨zb, zo, none⟩, 0, 0, z.drop zc⟩] (by intro x hx; rw [List.mem_singleton.1 hx]; exact (HW0 _).out) (by simp [maxLen]) rfl rfl rfl) (fun h => by cases h) (L + 1) rfl (by omega) (by have := HBW.out.size; simp; omega) ?_
                 intro a3 c3 w3 hown3 hb3 hnil3
                 have HO3 := Lib.hid hown3
                 have HN3 := Lib.hid hnil3
                 have HB3 : Hid (Below w.heap.size w w3) := ((HBQ.out _).alloc (HBQ.out _).size _).trans hb3
                 clear hown3 hb3 hnil3)))
            go_roundw
            case rel =>
              refine ⟨i + 1, L + 1, a3, c3, outs ++ [Wd.mk (some ⟨zb, zo, none⟩) (0) (0) (z.drop zc)], by omega, by omega, rfl, by go_num, HN3.out, HO3.out, ?_, ?_, HB3.out⟩
              · intro x hx
                rcases List.mem_append.1 hx with hx | hx
                · exact HGD.out x hx
                · rw [List.mem_singleton.1 hx]; exact HW1.out
              · show _ = _
                rw [nums_app, HNU.out]; exact HST.out.symm
            case measure => simp [intOf]; omega
          · have HW0 : Hid (Wd.Good wr ⟨some ⟨zb, zo + pn, none⟩, zn - pn, zc - pn, z.drop pn⟩) := HSL.out.behind hc1 rfl rfl rfl
            have HW1 : Hid (Wd.Good w0 ⟨some ⟨zb, zo + pn, none⟩, zn - pn, zc - pn, z.drop pn⟩) := HSLW.out.behind hc1 rfl rfl rfl
            have HBQ : Hid (∀ q, Below w.heap.size w (wr.drewN q)) := fun q => below_drewN HBW.out q
            go_wp2_with (first
              | (go_at_call 30
                 refine (same_is _ _ _ _ _ _ (z.take pn) p true _ HFI.out HPW.out HSM.out).mono ?_
                 rintro e w3 ⟨rfl, q3, rfl⟩)
              | (at_builtin
                 go_loud (
                 refine append_words rfl (.tmp 33) (.tmp 40) (by rfl) w.heap.size _ L outs (by rfl) (World.ownsRow.alloc HOW.out _) (some ⟨wr.heap.size, 0, none⟩) 1 1 [⟨some ⟨zb, zo + pn, none⟩, zn - pn, zc - pn, z.drop pn⟩] (by rfl) (Ws.newc [⟨some ⟨zb, zo + pn, none⟩, zn - pn, zc - pn, z.drop pn⟩] (by intro x hx; rw [List.mem_singleton.1 hx]; exact HW0.out) (by simp [maxLen]) rfl rfl rfl) (fun h => by cases h) (L + 1) rfl (by omega) (by have := HBW.out.size; simp; omega) ?_
                 intro a3 c3 w3 hown3 hb3 hnil3
                 have HO3 := Lib.hid hown3
                 have HN3 := Lib.hid hnil3
                 have HB3 : Hid (Below w.heap.size w w3) := ((HBQ.out _).alloc (HBQ.out _).size _).trans hb3
                 clear hown3 hb3 hnil3)))
            go_roundw
            case rel =>
              refine ⟨i + 1, L + 1, a3, c3, outs ++ [Wd.mk (some ⟨zb, zo + pn, none⟩) (zn - pn) (zc - pn) (z.drop pn)], by omega, by omega, rfl, by go_num, HN3.out, HO3.out, ?_, ?_, HB3.out⟩
              · intro x hx
                rcases List.mem_append.1 hx with hx | hx
                · exact HGD.out x hx
                · rw [List.mem_singleton.1 hx]; exact HW1.out
              · show _ = _
                rw [nums_app, HNU.out]; exact HST.out.symm
            case measure => simp [intOf]; omega
      · have c1d : decide ((zn : Int) ≥ (pn : Int)) = false := decide_eq_false (by omega)
        have HST : Hid (ends ((nums xs).take (i + 1)) p = ends ((nums xs).take i) p) := by
          show _ = _
          rw [HSTEP.out, if_neg (fun h => hc1 (by have := h.1; rw [HPL.out, HZL.out] at this; exact this)), List.append_nil]
        go_wp2
        go_roundw
        case rel => exact ⟨i + 1, L, a1, c1, outs, by omega, by omega, rfl, by go_num, HNIL.out, HOW.out, HGD.out, (by show _ = _; rw [HST.out]; exact HNU.out), HBW.out⟩
        case measure => simp [intOf]; omega
    · obtain rfl : i = n := by omega
      go_wp2
      go_ret
      refine ⟨a1, L, c1, outs, rfl, HOW.out, HGD.out, ?_, by omega, HNIL.out, HBW.out⟩
      rw [HNU.out, List.take_of_length_le (by rw [HL.out]; exact Nat.le_refl _)]

end Go.Proofs.Ytgbiobhladeooaa

/- append of kinds; kinds whose endings lie in rows of the call's own. -/
namespace Go.Proofs.Ytgbiobhladeooaa
open Go.RowKit Tri Daw

set_option maxRecDepth 100000 in
theorem info_kind : (Try.prog.info? 62).map (fun i => (i.zero, i.size, i.bytes)) = some (some (.agg #[.slice none 0 0, .int .i64 0, .slice none 0 0]), 3, 56) := by kernel_rfl
set_option maxRecDepth 100000 in
theorem Ks.news {w : World} {a : Option Addr} {m c : Nat} {zs : List Kw} (h : Ks w a m c zs) (hm : 0 < m) : ∃ y, a = some y ∧ ∀ j u, (kcells zs)[j]? = some u → w.cell? (y.add j) = some u := by
  obtain ⟨h1, h2, h3, h4, h5⟩ := h
  rcases h5 with h5 | ⟨b, off, ha, hc⟩
  · omega
  · refine ⟨_, ha, fun j u hj => ?_⟩
    have hjl : j < (kcells zs).length := by
      rcases Nat.lt_or_ge j (kcells zs).length with h' | h'
      · exact h'
      · rw [List.getElem?_eq_none h'] at hj; cases hj
    rw [kcells_length] at hjl
    have hd : j / 3 < m := by omega
    have hr : j % 3 < 3 := Nat.mod_lt _ (by omega)
    have e : j = j / 3 * 3 + j % 3 := by omega
    rw [e, kcells_at zs (j / 3) (j % 3) (by omega) hr] at hj
    obtain ⟨c0, c1, c2⟩ := hc (j / 3) hd
    have hadd : (⟨b, off, none⟩ : Addr).add j = ⟨b, off + j, none⟩ := by simp [Addr.add]
    rw [hadd]
    rcases (by omega : j % 3 = 0 ∨ j % 3 = 1 ∨ j % 3 = 2) with h0 | h0 | h0
    · rw [h0] at hj; rw [show off + j = off + j / 3 * 3 by omega, c0]; exact hj
    · rw [h0] at hj; rw [show off + j = off + j / 3 * 3 + 1 by omega, c1]; exact hj
    · rw [h0] at hj; rw [show off + j = off + j / 3 * 3 + 2 by omega, c2]; exact hj
set_option maxRecDepth 100000 in
theorem wp_append_kinds {w : World} {o : Oper} {act : Act} {K : Act → World → Prop} {Q : Exit → Act → World → Prop} (s x : Operand)
    (ho : o.op = .call { callee := .builtin .append, args := #[s, x], argTypes := #[56, 56] }) (base : Nat) (v : Value) (n : Nat) (xs : List Kw) (hs : act.eval s = v)
    (hown : w.ownsRow base 62 3 v n (kcells xs)) (a : Option Addr) (m c : Nat) (zs : List Kw) (hx : act.eval x = .slice a m c) (hz : Ks w a m c zs)
    (N : Nat) (hN : n + m = N) (h63 : N * 56 ≤ 140737488355328) (hbase : base ≤ w.heap.size)
    (h : ∀ a' c' w', w'.ownsRow base 62 3 (.slice a' N c') N (kcells (xs ++ zs)) → Below base w w' → w.grownBy w' v.ownBlock → (a' = none → c' = 0) → K (act.put o.dst (.slice a' N c')) w') :
    o.wp Try.prog act w K Q := by
  subst hN
  refine wp_append_cells s x 56 62 ho _ 3 56 Try.underlying56 info_kind rfl (by omega) base v n (kcells xs) hs hown a m c (kcells zs) hx (by rw [kcells_length, hz.1]) (fun hm => hz.news hm) (kcells_one zs) (by unfold maxLen; omega) (by omega) hbase ?_
  intro a' c' w' h1 h2 h3 h4
  exact h a' c' w' (by rw [kcells_app]; exact h1) h2 h3 h4
set_option maxRecDepth 100000 in
theorem append_kinds {w : World} {ops : Array Oper} {rest : List Oper} {o : Oper} {act : Act} {Q : Exit → Act → World → Prop} (hw : Region.wanted o (yielded ops act.tmps) = true) (s x : Operand)
    (ho : o.op = .call { callee := .builtin .append, args := #[s, x], argTypes := #[56, 56] }) (base : Nat) (v : Value) (n : Nat) (xs : List Kw) (hs : act.eval s = v)
    (hown : w.ownsRow base 62 3 v n (kcells xs)) (a : Option Addr) (m c : Nat) (zs : List Kw) (hx : act.eval x = .slice a m c) (hz : Ks w a m c zs)
    (N : Nat) (hN : n + m = N) (h63 : N * 56 ≤ 140737488355328) (hbase : base ≤ w.heap.size)
    (h : ∀ a' c' w', w'.ownsRow base 62 3 (.slice a' N c') N (kcells (xs ++ zs)) → Below base w w' → w.grownBy w' v.ownBlock → (a' = none → c' = 0) → wpList Try.prog ops Q rest (act.put o.dst (.slice a' N c')) w') :
    wpList Try.prog ops Q (o :: rest) act w := by
  refine wpList_step fun K hK => ?_
  rw [if_pos hw]
  exact wp_append_kinds s x ho base v n xs hs hown a m c zs hx hz N hN h63 hbase (fun a' c' w' h1 h2 h3 h4 => hK _ _ (h a' c' w' h1 h2 h3 h4))
set_option maxRecDepth 100000 in
theorem step_append_kinds {w : World} {ops : Array Oper} {o : Oper} {act : Act} {K : Act → World → Prop} {Q : Exit → Act → World → Prop} {E : Prop} (hw : Region.wanted o (yielded ops act.tmps) = true) (s x : Operand)
    (ho : o.op = .call { callee := .builtin .append, args := #[s, x], argTypes := #[56, 56] }) (base : Nat) (v : Value) (n : Nat) (xs : List Kw) (hs : act.eval s = v)
    (hown : w.ownsRow base 62 3 v n (kcells xs)) (a : Option Addr) (m c : Nat) (zs : List Kw) (hx : act.eval x = .slice a m c) (hz : Ks w a m c zs)
    (N : Nat) (hN : n + m = N) (h63 : N * 56 ≤ 140737488355328) (hbase : base ≤ w.heap.size)
    (h : ∀ a' c' w', w'.ownsRow base 62 3 (.slice a' N c') N (kcells (xs ++ zs)) → Below base w w' → w.grownBy w' v.ownBlock → (a' = none → c' = 0) → K (act.put o.dst (.slice a' N c')) w') :
    if Region.wanted o (yielded ops act.tmps) = true then o.wp Try.prog act w K Q else E := by
  rw [if_pos hw]
  exact wp_append_kinds s x ho base v n xs hs hown a m c zs hx hz N hN h63 hbase h
set_option maxRecDepth 100000 in
theorem lit3 (w : World) (u v z : Value) (t : TypeId) (fr : Nat × Nat) : (w.alloc (.cells #[u, v, z] t fr)).cell? ⟨w.heap.size, 0, none⟩ = some u ∧ (w.alloc (.cells #[u, v, z] t fr)).cell? ⟨w.heap.size, 1, none⟩ = some v ∧ (w.alloc (.cells #[u, v, z] t fr)).cell? ⟨w.heap.size, 2, none⟩ = some z := by
  have h := heap_alloc_new w (.cells #[u, v, z] t fr)
  refine ⟨?_, ?_, ?_⟩ <;> (simp only [World.cell?]; rw [h]; rfl)
set_option maxRecDepth 100000 in
/-- one kind in a new block -/
theorem Ks.single {w w' : World} {g : Nat} {x : Kw} (hx : x.Good w) (h0 : w'.cell? ⟨g, 0, none⟩ = some x.e) (h1 : w'.cell? ⟨g, 1, none⟩ = some x.l) (h2 : w'.cell? ⟨g, 2, none⟩ = some x.f.v) (hb : Below w.heap.size w w') : Ks w' (some ⟨g, 0, none⟩) 1 1 [x] := by
  refine ⟨rfl, Nat.le_refl _, by unfold maxLen; omega, fun y hy => by rw [List.mem_singleton.1 hy]; exact hx.below hb (Nat.le_refl _), .inr ⟨g, 0, rfl, fun i hi => ?_⟩⟩
  obtain rfl : i = 0 := by omega
  exact ⟨h0, h1, h2⟩
set_option maxRecDepth 100000 in
theorem step_build_kind {w : World} {ops : Array Oper} {o : Oper} {act : Act} {K : Act → World → Prop} {Q : Exit → Act → World → Prop} {E : Prop} (hw : Region.wanted o (yielded ops act.tmps) = true) (x : Operand) (y : Kw)
    (ho : o.op = .buildSlice 56 1 #[(0, x)]) (hx : act.eval x = .agg #[y.e, y.l, y.f.v]) (h : ∀ g w', w'.cell? ⟨g, 0, none⟩ = some y.e → w'.cell? ⟨g, 1, none⟩ = some y.l → w'.cell? ⟨g, 2, none⟩ = some y.f.v → Below w.heap.size w w' → K (act.put o.dst (.slice (some ⟨g, 0, none⟩) 1 1)) w') :
    if Region.wanted o (yielded ops act.tmps) = true then o.wp Try.prog act w K Q else E := by
  rw [if_pos hw]
  unfold Oper.wp
  simp only [execOp, ho, List.map_toArray, List.map_cons, List.map_nil, hx]
  go_simp
  exact h _ _ (lit3 w _ _ _ _ _).1 (lit3 w _ _ _ _ _).2.1 (lit3 w _ _ _ _ _).2.2 ((Below.refl _ w).alloc (Nat.le_refl _) _)
set_option maxRecDepth 100000 in
/-- .. and which block that is -/
theorem step_build_kind_at {w : World} {ops : Array Oper} {o : Oper} {act : Act} {K : Act → World → Prop} {Q : Exit → Act → World → Prop} {E : Prop} (hw : Region.wanted o (yielded ops act.tmps) = true) (x : Operand) (y : Kw)
    (ho : o.op = .buildSlice 56 1 #[(0, x)]) (hx : act.eval x = .agg #[y.e, y.l, y.f.v]) (h : ∀ w', w'.cell? ⟨w.heap.size, 0, none⟩ = some y.e → w'.cell? ⟨w.heap.size, 1, none⟩ = some y.l → w'.cell? ⟨w.heap.size, 2, none⟩ = some y.f.v → Below w.heap.size w w' → K (act.put o.dst (.slice (some ⟨w.heap.size, 0, none⟩) 1 1)) w') :
    if Region.wanted o (yielded ops act.tmps) = true then o.wp Try.prog act w K Q else E := by
  rw [if_pos hw]
  unfold Oper.wp
  simp only [execOp, ho, List.map_toArray, List.map_cons, List.map_nil, hx]
  go_simp
  exact h _ (lit3 w _ _ _ _ _).1 (lit3 w _ _ _ _ _).2.1 (lit3 w _ _ _ _ _).2.2 ((Below.refl _ w).alloc (Nat.le_refl _) _)
set_option maxRecDepth 100000 in
/-- a new row of no kinds -/
theorem step_build_none {w : World} {ops : Array Oper} {o : Oper} {act : Act} {K : Act → World → Prop} {Q : Exit → Act → World → Prop} {E : Prop} (hw : Region.wanted o (yielded ops act.tmps) = true)
    (ho : o.op = .buildSlice 56 0 #[]) (h : ∀ w', w'.ownsRow w.heap.size 62 3 (.slice (some ⟨w.heap.size, 0, none⟩) 0 0) 0 (kcells []) → Below w.heap.size w w' → K (act.put o.dst (.slice (some ⟨w.heap.size, 0, none⟩) 0 0)) w') :
    if Region.wanted o (yielded ops act.tmps) = true then o.wp Try.prog act w K Q else E := by
  rw [if_pos hw]
  unfold Oper.wp
  simp only [execOp, ho, List.map_toArray, List.map_nil]
  go_simp
  exact h _ (World.ownsRow_lit (base := w.heap.size) (e := 62) (size := 3) w #[] 0 (Nat.le_refl _) (by unfold maxLen; omega) (by simp)) ((Below.refl _ w).alloc (Nat.le_refl _) _)

/-! ### kinds whose endings lie in rows of the call's own -/
structure KOwn (w0 W : World) (x : Kw) : Prop where
  row : W.ownsRow w0.heap.size 33 1 (.slice x.ea x.en x.ec) x.en (vals x.es)
  words : ∀ y ∈ x.es, y.Good w0
  first : x.f.Good w0
  long : x.L ≤ 1000
set_option maxRecDepth 100000 in
theorem KOwn.good {w0 W : World} {x : Kw} (h : KOwn w0 W x) (hb : Below w0.heap.size w0 W) : x.Good W := by
  refine ⟨Ws.of_owns h.row (fun y hy => (h.words y hy).below hb (Nat.le_refl _)) ?_, h.first.below hb (Nat.le_refl _), h.long⟩
  have := h.row.1
  unfold vals at this
  rw [List.length_map] at this; omega
set_option maxRecDepth 100000 in
theorem KOwn.kept {w0 W W' : World} {x : Kw} {row : Option Nat} (h : KOwn w0 W x) (hg : W.grownBy W' row) (hr : (Value.slice x.ea x.en x.ec).ownBlock = none ∨ (Value.slice x.ea x.en x.ec).ownBlock ≠ row) : KOwn w0 W' x := ⟨h.row.kept hg hr, h.words, h.first, h.long⟩
set_option maxRecDepth 100000 in
theorem KOwn.grow {w0 W W' : World} {x : Kw} (h : KOwn w0 W x) (hg : W.grownBy W' none) : KOwn w0 W' x := h.kept hg (or_none _)
set_option maxRecDepth 100000 in
theorem KOwn.below {w0 W W' : World} {x : Kw} (h : KOwn w0 W x) (hb : Below W.heap.size W W') : KOwn w0 W' x := h.grow ⟨hb.os, hb.tape, hb.output, hb.size, fun k hk _ => hb.block k hk⟩
set_option maxRecDepth 100000 in
theorem ne_wk : (33 : TypeId) ≠ 62 := by decide
set_option maxRecDepth 100000 in
theorem KOwn.row_kept {w0 W W' : World} {x : Kw} {B n : Nat} {v : Value} {l : List Value} (h : KOwn w0 W x) (ho : W.ownsRow B 62 3 v n l) (hg : W.grownBy W' v.ownBlock) : KOwn w0 W' x := h.kept hg (own_apart2 h.row ho ne_wk)
set_option maxRecDepth 100000 in
theorem kset1 {kx : List Kw} {k M : Nat} {x : Kw} (hk : k < kx.length) (hx : kx.getD k Kw.no = x) : kcells (kx.set k ⟨x.ea, x.en, x.ec, x.es, M, x.f⟩) = (kcells kx).set (k * 3 + 1) (.int .i64 (M : Int)) := by
  have h0 := kcells_at kx k 0 hk (by omega)
  have h2 := kcells_at kx k 2 hk (by omega)
  rw [hx] at h0 h2
  rw [kcells_set]
  show (((kcells kx).set (k * 3) x.e).set (k * 3 + 1) (.int .i64 (M : Int))).set (k * 3 + 2) x.f.v = _
  rw [set_same (l := kcells kx) (i := k * 3) (v := x.e) h0, set_same (i := k * 3 + 2) (v := x.f.v)]
  rw [List.getElem?_set_ne (by omega)]; exact h2
set_option maxRecDepth 100000 in
theorem kset2 {kx : List Kw} {k : Nat} {x : Kw} {f : Wd} (hk : k < kx.length) (hx : kx.getD k Kw.no = x) : kcells (kx.set k ⟨x.ea, x.en, x.ec, x.es, x.L, f⟩) = (kcells kx).set (k * 3 + 2) f.v := by
  have h0 := kcells_at kx k 0 hk (by omega)
  have h1 := kcells_at kx k 1 hk (by omega)
  rw [hx] at h0 h1
  rw [kcells_set]
  show (((kcells kx).set (k * 3) x.e).set (k * 3 + 1) x.l).set (k * 3 + 2) f.v = _
  rw [set_same (l := kcells kx) (i := k * 3) (v := x.e) h0, set_same (i := k * 3 + 1) (v := x.l)]
  exact h1
set_option maxRecDepth 100000 in
theorem Ks.behind {w : World} {b off n cap : Nat} {xs : List Kw} (h : Ks w (some ⟨b, off, none⟩) n cap xs) {j o' m c' : Nat} (hj : j ≤ n) (ho : o' = off + j * 3) (hm : m = n - j) (hc : c' = cap - j) : Ks w (some ⟨b, o', none⟩) m c' (xs.drop j) := by
  subst ho hm hc
  obtain ⟨h1, h2, h3, h4, h5⟩ := h
  refine ⟨by rw [List.length_drop, h1], by omega, by omega, fun z hz => h4 z (List.mem_of_mem_drop hz), ?_⟩
  rcases Nat.eq_zero_or_pos (n - j) with h0 | h0
  · exact .inl h0
  · rcases h5 with h5 | ⟨b', off', e, hc⟩
    · omega
    · simp only [Option.some.injEq, Addr.mk.injEq, and_true] at e
      obtain ⟨rfl, rfl⟩ := e
      refine .inr ⟨b, off + j * 3, rfl, fun i hi => ?_⟩
      have := hc (j + i) (by omega)
      rw [Nat.add_mul, ← Nat.add_assoc] at this
      have e2 : (xs.drop j).getD i Kw.no = xs.getD (j + i) Kw.no := by simp
      rw [e2]; exact this
set_option maxRecDepth 100000 in
theorem Ks.first {w : World} {a : Option Addr} {n cap : Nat} {xs : List Kw} (h : Ks w a n cap xs) {j : Nat} (hj : j ≤ n) : Ks w a j cap (xs.take j) := by
  obtain ⟨h1, h2, h3, h4, h5⟩ := h
  refine ⟨by rw [List.length_take, h1]; omega, by omega, h3, fun z hz => h4 z (List.mem_of_mem_take hz), ?_⟩
  rcases Nat.eq_zero_or_pos j with h0 | h0
  · exact .inl h0
  · rcases h5 with h5 | ⟨b, off, e, hc⟩
    · omega
    · refine .inr ⟨b, off, e, fun i hi => ?_⟩
      have e2 : (xs.take j).getD i Kw.no = xs.getD i Kw.no := by simp [hi]
      rw [e2]; exact hc i (by omega)
set_option maxRecDepth 100000 in
theorem Ks.none_at {w : World} {a : Option Addr} : Ks w a 0 0 [] := ⟨rfl, Nat.le_refl _, by unfold maxLen; omega, by simp, .inl rfl⟩
set_option maxRecDepth 100000 in
theorem ks_single_kept {W W' : World} {g : Nat} {x : Kw} {row : Option Nat} (h : Ks W (some ⟨g, 0, none⟩) 1 1 [x]) (hx : x.Good W') (hg : W.grownBy W' row) (hne : some g ≠ row) : Ks W' (some ⟨g, 0, none⟩) 1 1 [x] := by
  obtain ⟨_, _, _, _, h5⟩ := h
  refine ⟨rfl, Nat.le_refl _, by unfold maxLen; omega, fun y hy => by rw [List.mem_singleton.1 hy]; exact hx, .inr ⟨g, 0, rfl, fun i hi => ?_⟩⟩
  obtain rfl : i = 0 := by omega
  rcases h5 with h5 | ⟨b, off, e, hc⟩
  · cases h5
  · simp only [Option.some.injEq, Addr.mk.injEq, and_true] at e
    obtain ⟨rfl, rfl⟩ := e
    obtain ⟨c0, c1, c2⟩ := hc 0 (by omega)
    exact ⟨hg.cell c0 hne, hg.cell c1 hne, hg.cell c2 hne⟩
set_option maxRecDepth 100000 in
/-- where one is put in -/
theorem insK_at {l : List Kd} {x : Kd} {t : Nat} (ht : t ≤ l.length) (h1 : ∀ p, p < t → aheadK (l.getD p Kd.no) x = true) (h2 : t = l.length ∨ aheadK (l.getD t Kd.no) x = false) : insK l x = l.take t ++ x :: l.drop t := by
  have hp : ∀ a ∈ l.take t, (fun a => aheadK a x) a = true := by
    intro a ha
    obtain ⟨p, hp, rfl⟩ := List.getElem_of_mem ha
    have hpt : p < t := by simp at hp; omega
    have := h1 p hpt
    simpa [show p < l.length by omega] using this
  have key : ∀ (u v : List Kd), (∀ a ∈ u, aheadK a x = true) → (v = [] ∨ aheadK (v.getD 0 Kd.no) x = false) → (u ++ v).takeWhile (fun a => aheadK a x) = u ∧ (u ++ v).dropWhile (fun a => aheadK a x) = v := by
    intro u v hu hv
    induction u with
    | nil =>
      rcases hv with rfl | hv
      · simp
      · cases v with
        | nil => simp
        | cons y v =>
          have hy : aheadK y x = false := by simpa using hv
          simp [hy]
    | cons y u ih =>
      have hy := hu y (by simp)
      have := ih (fun a ha => hu a (by simp [ha]))
      simp [hy, this]
  have := key (l.take t) (l.drop t) hp (by
    rcases h2 with h2 | h2
    · exact .inl (by rw [List.drop_eq_nil_iff]; omega)
    · refine .inr ?_
      rw [List.getD_eq_getElem?_getD, List.getElem?_drop, Nat.add_zero, ← List.getD_eq_getElem?_getD]; exact h2)
  rw [List.take_append_drop] at this
  unfold insK
  rw [this.1, this.2]
set_option maxRecDepth 100000 in
theorem kds_take (xs : List Kw) (t : Nat) : kds (xs.take t) = (kds xs).take t := by simp [kds, List.map_take]
set_option maxRecDepth 100000 in
theorem kds_drop (xs : List Kw) (t : Nat) : kds (xs.drop t) = (kds xs).drop t := by simp [kds, List.map_drop]
set_option maxRecDepth 100000 in
theorem kown_set {w0 W : World} {kx : List Kw} {k : Nat} {z : Kw} (h : ∀ x ∈ kx, KOwn w0 W x) (hz : KOwn w0 W z) : ∀ x ∈ kx.set k z, KOwn w0 W x := fun x hx => by
  rcases List.mem_or_eq_of_mem_set hx with hx | rfl
  · exact h x hx
  · exact hz

end Go.Proofs.Ytgbiobhladeooaa
