/- For every file and every byte, RulesLines answers true, and turns nothing that was there. No condition. -/
import Derived.Test.YtdondndalpmdgaaRows
import Derived.Test.YtdondndalpmdgaaFileAwake
import Derived.Test.YtdondndalpmdgaaPackN
import Derived.Test.YtdondndalpmdgaaFileMathB
import Derived.WalkKit
import Derived.ProofKit
import Derived.OpenShut
import Derived.ShutString
import Derived.ChangeOld
import Derived.Below
import Derived.Deep.Matrix
import Derived.SizedLaws
namespace Go.Proofs.Ytdondndalpmdgaa.rulesLines
open Go.ChangeShapes Go.WideShapes Go.ChangeAt Go.RowKit
set_option linter.unusedVariables false

theorem own : ownKnob Try.prog.godebug = none := by kernel_rfl
theorem laidOut : laidOutB Try.prog = true := by kernel_rfl

/-- a slice of integers that came in -/
def IsRow (k : IntKind) (w : World) (a : Option Addr) (len cap : Nat) (zs : List Int) : Prop :=
  (a = none ∧ len = 0 ∧ cap = 0 ∧ zs = []) ∨
  ∃ x, a = some x ∧ len ≤ cap ∧ cap ≤ maxLen ∧ zs.length = cap ∧ (∀ i, i < zs.length → w.cell? (x.add i) = some (.int k (zs.getD i 0))) ∧ ∀ n ∈ zs, (Lit.int k n).wf = true

/-- the block that an append's answer lies in: the old one, or a new one -/
theorem run_append_where {P : Program} {w : World} (base : Nat) (t ty e : TypeId) (i : TypeInfo) (z : Value) (size bytes : Nat) (ht : P.underlying t = some (.slice e)) (hi : P.info? e = some i) (hz : i.zero = some z)
    (hsize : i.size = size) (hby : i.bytes = bytes) (hzs : z.cells.size = size) (hsz : 0 < size)
    (v : Value) (n : Nat) (xs : List Value) (hown : w.ownsRow base e size v n xs)
    (a : Addr) (m c : Nat) (news : List Value) (hl : news.length = m * size) (hnews : ∀ j u, news[j]? = some u → w.cell? (a.add j) = some u) (h1 : ∀ u ∈ news, u.oneCell' = true)
    (h63 : n + m ≤ maxLen) (hbytes : (n + m) * bytes ≤ 140737488355328) (hbase : base ≤ w.heap.size) (v' : Value) (w' : World)
    (hr : (Builtin.append_ #[t, t] ty #[v, .slice (some a) m c]).run P w = .ok v' w') : v'.ownBlock = v.ownBlock ∨ v'.ownBlock = some w.heap.size := by
  obtain ⟨v2, w2, hr2, _, _, h4⟩ := run_append_own (P := P) w base t ty e i z size bytes ht hi hz hsize hby hzs hsz v n xs hown a m c news hl hnews h1 h63 hbytes hbase
  subst hsize hby
  have hsmall : n + m ≤ 9223372036854775807 := by simp only [maxLen] at h63; omega
  rcases hown.2 with ⟨rfl, rfl⟩ | ⟨g, cap, cur, rfl, hbg, hg, hnc, hcm, hcs, htake⟩
  · by_cases hm : m = 0
    · rw [hr2] at hr
      cases hr
      exact .inl (by rw [h4.2 ⟨rfl, hm⟩])
    · have hq := run_append_nil (P := P) w t ty e i z ht hi hz a m c news hl hnews (by omega) (by omega) (by have hb := hbytes; simp only [Nat.zero_add] at hb; omega)
      rw [hq] at hr
      cases hr
      exact .inr rfl
  · by_cases hroom : n + m ≤ cap
    · have hfit : n * i.size + news.length ≤ cur.size := by rw [hl, hcs, ← Nat.add_mul]; exact Nat.mul_le_mul_right _ hroom
      have hq := run_append_room (P := P) w t ty e i ht hi g n cap cur hg a m c news hl hnews h1 hroom hfit
      rw [hq] at hr
      cases hr
      exact .inl rfl
    · have holds : ∀ j u, xs[j]? = some u → w.cell? ((⟨g, 0, none⟩ : Addr).add j) = some u := hown.cells (g := g) rfl
      have hq := run_append_grow (P := P) w t ty e i z ht hi hz ⟨g, 0, none⟩ n cap xs hown.1 holds a m c news hl hnews (by omega) (by omega) (growslice_fits (by omega) hbytes)
      rw [hq] at hr
      cases hr
      exact .inr rfl

/-- two rows of bytes that the call made: no one's block is the other's -/
def Two (B : Nat) (w : World) (v : Value) (n : Nat) (xs : List Int) (u : Value) (m : Nat) (ys : List Int) : Prop :=
  w.ownsRow B 5 1 v n (u8s xs) ∧ w.ownsRow B 5 1 u m (u8s ys) ∧ (u.ownBlock = none ∨ u.ownBlock ≠ v.ownBlock) ∧ B ≤ w.heap.size ∧ (∀ x ∈ xs, (Lit.int .u8 x).wf = true) ∧ ∀ x ∈ ys, (Lit.int .u8 x).wf = true
theorem Two.symm {B : Nat} {w : World} {v u : Value} {n m : Nat} {xs ys : List Int} (h : Two B w v n xs u m ys) : Two B w u m ys v n xs := by
  refine ⟨h.2.1, h.1, ?_, h.2.2.2.1, h.2.2.2.2.2, h.2.2.2.2.1⟩
  rcases h.2.2.1 with e | e
  · cases hv : v.ownBlock with
    | none => exact .inl rfl
    | some k => exact .inr (by rw [e]; simp)
  · exact .inr (fun q => e q.symm)
theorem Two.alloc {B : Nat} {w : World} {v u : Value} {n m : Nat} {xs ys : List Int} (h : Two B w v n xs u m ys) (o : Obj) : Two B (w.alloc o) v n xs u m ys :=
  ⟨World.ownsRow.alloc h.1 o, World.ownsRow.alloc h.2.1 o, h.2.2.1, by rw [World.size_alloc]; have := h.2.2.2.1; omega, h.2.2.2.2⟩
theorem Two.len {B : Nat} {w : World} {v u : Value} {n m : Nat} {xs ys : List Int} (h : Two B w v n xs u m ys) : xs.length = n := by
  have := h.1.1; simpa [u8s] using this
theorem Two.sl {B : Nat} {w : World} {a : Option Addr} {c : Nat} {u : Value} {n m : Nat} {xs ys : List Int} (h : Two B w (.slice a n c) n xs u m ys) : Sl .u8 w a n c xs :=
  Sl.of_owns (k := .u8) h.1 h.2.2.2.2.1 h.len
theorem two_nil (w : World) : Two w.heap.size w (.slice none 0 0) 0 [] (.slice none 0 0) 0 [] :=
  ⟨World.ownsRow_nil _ _ _ _, World.ownsRow_nil _ _ _ _, .inl rfl, Nat.le_refl _, by simp, by simp⟩
theorem append_two {w : World} {ops : Array Oper} {rest : List Oper} {o : Oper} {act : Act} {Q : Exit → Act → World → Prop} (hw : Region.wanted o (yielded ops act.tmps) = true) (s x : Operand)
    (ho : o.op = .call { callee := .builtin .append, args := #[s, x], argTypes := #[22, 22] }) (B : Nat) (v : Value) (n : Nat) (xs : List Int) (u : Value) (k : Nat) (ys : List Int) (hs : act.eval s = v)
    (H : Two B w v n xs u k ys) (a : Option Addr) (m c : Nat) (zs : List Int) (hx : act.eval x = .slice a m c) (hz : Sl .u8 w a m c zs)
    (N : Nat) (hN : n + m = N) (h63 : N ≤ 1000000000)
    (h : ∀ a' c' w', Two B w' (.slice a' N c') N (xs ++ zs) u k ys → Below B w w' → (a' = none → c' = 0) → wpList Try.prog ops Q rest (act.put o.dst (.slice a' N c')) w') :
    wpList Try.prog ops Q (o :: rest) act w := by
  subst hN
  obtain ⟨i0, hi, hz0, hz1, hz2⟩ := info_parts info_u8
  refine wpList_step fun K hK => ?_
  rw [if_pos hw]
  have hzl := hz.1
  have hwf : ∀ q ∈ xs ++ zs, (Lit.int .u8 q).wf = true := fun q hq => by
    rcases List.mem_append.1 hq with hq | hq
    · exact H.2.2.2.2.1 q hq
    · exact hz.2.2.2.1 q hq
  have happ : u8s (xs ++ zs) = u8s xs ++ u8s zs := by simp [u8s]
  cases a with
  | none =>
    obtain rfl : m = 0 := by
      rcases Nat.eq_zero_or_pos m with h0 | h0
      · exact h0
      · obtain ⟨b, off, e, _, _⟩ := hz.at h0; cases e
    obtain rfl : zs = [] := List.eq_nil_of_length_eq_zero hzl
    obtain ⟨a', c', rfl, hnil⟩ := owns_form H.1
    have hrun := run_append_none_any (P := Try.prog) (w := w) B 22 o.type 5 i0 1 c Try.underlying22 hi _ n (u8s xs) H.1
    unfold Oper.wp
    simp [execOp, ho, resolve, invoke, builtin, hs, hx, hrun, Result.andThen]
    exact hK _ _ (h a' c' w (by simpa using H) (Below.refl _ _) hnil)
  | some y =>
    have hnews : ∀ j q, (u8s zs)[j]? = some q → w.cell? (y.add j) = some q := by
      intro j q hj
      have hjl : j < zs.length := by
        rcases Nat.lt_or_ge j zs.length with hlt | hge
        · exact hlt
        · simp [u8s, List.getElem?_eq_none hge] at hj
      obtain ⟨b, off, e, _, hc⟩ := hz.at (by omega)
      cases e
      have := hc j (by omega)
      rw [show (⟨b, off, none⟩ : Addr).add j = ⟨b, off + j, none⟩ from by simp [Addr.add], this]
      simp [u8s, hjl] at hj
      rw [← hj]; simp [hjl]
    have hlz : (u8s zs).length = m * 1 := by simp [u8s, hzl]
    have hmax : n + m ≤ maxLen := by unfold maxLen; omega
    obtain ⟨v', w', hr, hown', hgrow, _⟩ := run_append_own (P := Try.prog) w B 22 o.type 5 i0 (.int .u8 0) 1 1 Try.underlying22 hi hz0 hz1 hz2 rfl (by decide) v n (u8s xs) H.1 y m c (u8s zs) hlz hnews (ints_oneCell .u8 zs) hmax (by omega) H.2.2.2.1
    have hwh := run_append_where (P := Try.prog) (w := w) B 22 o.type 5 i0 (.int .u8 0) 1 1 Try.underlying22 hi hz0 hz1 hz2 rfl (by decide) v n (u8s xs) H.1 y m c (u8s zs) hlz hnews (ints_oneCell .u8 zs) hmax (by omega) H.2.2.2.1 v' w' hr
    obtain ⟨a', c', rfl, hnil⟩ := owns_form hown'
    have hfar : u.ownBlock = none ∨ u.ownBlock ≠ (Value.slice a' (n + m) c').ownBlock := by
      rcases hwh with e | e
      · rw [e]; exact H.2.2.1
      · rw [e]
        cases hu : u.ownBlock with
        | none => exact .inl rfl
        | some q =>
          have := (World.ownsRow.lt H.2.1 q hu).2
          exact .inr (fun hq => by cases hq; omega)
    have hkept := World.ownsRow.kept H.2.1 hgrow H.2.2.1
    unfold Oper.wp execOp
    simp only [ho, resolve, invoke, builtin, Sem.run_bind, Sem.run_pure, Result.andThen_ok, List.map_toArray, List.map_cons, List.map_nil, hs, hx, hr]
    exact hK _ _ (h a' c' w' ⟨by rw [happ]; exact hown', hkept, hfar, Nat.le_trans H.2.2.2.1 hgrow.size, hwf, H.2.2.2.2.2⟩ ((Below.refl _ _).grown hgrow H.2.2.2.1 (fun k hk => (World.ownsRow.lt H.1 k hk).1)) hnil)

/-! ### lines turned -/
def rotL (l : List (List Int)) (f i : Nat) : List (List Int) := (List.range i).map fun j => l.getD ((j + f) % l.length) []
theorem rotL_next (l : List (List Int)) (f i : Nat) : rotL l f (i + 1) = rotL l f i ++ [l.getD ((i + f) % l.length) []] := by simp [rotL, List.range_succ]
theorem getD_at {l : List (List Int)} {i : Nat} (h : i < l.length) : l.getD i [] = l[i] := by rw [List.getD_eq_getElem?_getD, List.getElem?_eq_getElem h]; rfl
theorem rotL_all (l : List (List Int)) (f : Nat) : rotL l f l.length = l.drop (f % l.length) ++ l.take (f % l.length) := by
  rcases Nat.eq_zero_or_pos l.length with h | h
  · obtain rfl : l = [] := List.eq_nil_of_length_eq_zero h
    simp [rotL]
  · have hk := Nat.mod_lt f h
    obtain ⟨k, hkk⟩ : ∃ k, f % l.length = k := ⟨_, rfl⟩
    rw [hkk] at hk ⊢
    refine List.ext_getElem (by simp [rotL]; omega) fun j h1 h2 => ?_
    have hj : j < l.length := by simpa [rotL] using h1
    have e0 : (j + f) % l.length = (j + k) % l.length := by rw [Nat.add_mod, hkk, Nat.mod_eq_of_lt hj]
    have e1 : (rotL l f l.length)[j] = l.getD ((j + f) % l.length) [] := by simp [rotL]
    rw [e1, e0]
    rcases Nat.lt_or_ge (j + k) l.length with hlt | hge
    · rw [Nat.mod_eq_of_lt hlt, getD_at hlt, List.getElem_append_left (by simp; omega), List.getElem_drop]
      congr 1; omega
    · rw [Nat.mod_eq_sub_mod hge, Nat.mod_eq_of_lt (by omega), getD_at (by omega), List.getElem_append_right (by simp; omega), List.getElem_take]
      congr 1; simp; omega
theorem spaced_next (l : List (List Int)) (x : List Int) : File.spacedBytes (l ++ [x]) = File.spacedBytes l ++ x ++ [10] ++ [32, 35, 32, 98, 97, 114, 101, 10, 10] := by simp [File.spacedBytes]
theorem spaced_len : ∀ l : List (List Int), (File.spacedBytes l).length ≤ 10 * Line.total l
  | [] => by simp [File.spacedBytes]
  | x :: l => by
    have ih := spaced_len l
    have e : File.spacedBytes (x :: l) = x ++ [10] ++ [32, 35, 32, 98, 97, 114, 101, 10, 10] ++ File.spacedBytes l := by simp [File.spacedBytes]
    rw [e]
    simp only [List.length_append, Line.total, List.map_cons, List.sum_cons, List.length_cons, List.length_nil] at ih ⊢
    omega
theorem rot_total (l : List (List Int)) (k : Nat) : Line.total (l.drop k ++ l.take k) = Line.total l := by
  have h : Line.total (l.take k ++ l.drop k) = Line.total l := by rw [List.take_append_drop]
  rw [← h]
  simp only [Line.total, List.map_append, List.sum_append]
  omega
def aheadB (l : List (List Int)) (i : Nat) : List Int := (l.take i).flatMap fun z => z ++ [10]
theorem ahead_next {l : List (List Int)} {i K : Nat} {z : List Int} (h : i < l.length) (hK : i < K) (hz : l.getD i [] = z) : aheadB l (min (i + 1) K) = aheadB l (min i K) ++ z ++ [10] := by
  rw [show min (i + 1) K = i + 1 by omega, show min i K = i by omega]
  unfold aheadB
  rw [List.take_succ_eq_append_getElem h, ← hz, getD_at h, List.flatMap_append, List.append_assoc]
  simp only [List.flatMap_cons, List.flatMap_nil, List.append_nil]
theorem ahead_stay {l : List (List Int)} {i K : Nat} (hK : ¬ i < K) : aheadB l (min (i + 1) K) = aheadB l (min i K) := by
  rw [show min (i + 1) K = K by omega, show min i K = K by omega]
theorem ahead_len (l : List (List Int)) (k : Nat) : (aheadB l k).length ≤ Line.total l := by
  have h : Line.total (l.take k ++ l.drop k) = Line.total l := by rw [List.take_append_drop]
  have e : (aheadB l k).length = Line.total (l.take k) := by
    unfold aheadB Line.total
    rw [List.length_flatMap]
    congr 1
    exact List.map_congr_left (fun x _ => by simp)
  rw [e, ← h]
  simp only [Line.total, List.map_append, List.sum_append]
  omega
theorem info_spec8 : (Try.prog.info? 41).map (·.size) = some 2 := by kernel_rfl

/-! ### STEP 1: the walk -/
set_option maxHeartbeats 6400000 in
set_option maxRecDepth 100000 in
theorem walk (a0 : Option Addr) (len0 cap0 : Nat) (z0 : List Int) (a1 : Int) (w : World) (w0 : IsRow .u8 w a0 len0 cap0 z0) (w1 : (Lit.int .u8 a1).wf = true) :
    Calls Try.prog 4 #[.slice a0 len0 cap0, .int .u8 a1] w fun e w' => e = .returned (.bool true) ∧ Below w.heap.size w w' := by
  have hn00 : a0 = none → cap0 = 0 := by
    rcases w0 with ⟨_, _, h, _⟩ | ⟨x, h, _⟩
    · exact fun _ => h
    · intro h'; rw [h] at h'; cases h'
  have HN0 := Lib.hid hn00
  clear hn00
  have hs0 := Sl.of_row w0
  generalize z0.take len0 = xs at hs0
  have hcm0 := hs0.2.2.1
  have hnc0 := hs0.2.1
  unfold maxLen at hcm0
  have HS := Lib.hid hs0
  have HLEN0 := Lib.hid hs0.1
  clear hs0 w0
  have hb1 := bounds_u8 w1
  obtain ⟨f, rfl⟩ : ∃ f : Nat, a1 = (f : Int) := ⟨a1.toNat, by omega⟩
  clear w1
  obtain ⟨x, hx⟩ : ∃ g, File.read xs = g := ⟨_, rfl⟩
  obtain ⟨xc, xat, xe⟩ := x
  have HX := Lib.hid hx
  obtain ⟨ls, hls⟩ : ∃ l, Line.split xs = l := ⟨_, rfl⟩
  have HLS := Lib.hid hls
  have hl0 : xs.length = len0 := HLEN0.out
  obtain ⟨K, hK⟩ : ∃ K : Nat, (xe = 0 ∧ xat = -1 ∧ K = 0) ∨ (xe ≠ 0 ∧ xat = (K : Int) ∧ K < ls.length) := by
    by_cases he : xe = 0
    · have h1 := File.read_all (File.read_ok (b := xs) (by rw [hx]; exact he))
      rw [hx] at h1
      exact ⟨0, .inl ⟨he, congrArg File.Got.at_ h1, rfl⟩⟩
    · obtain ⟨k, h1, h2, _⟩ := File.read_bad hx he
      exact ⟨k, .inr ⟨he, h2, by rw [← hls]; exact h1⟩⟩
  have HKI : Hid (∀ i : Nat, (i < K → (i : Int) < xat) ∧ (¬ i < K → ¬ (i : Int) < xat)) := fun i => by
    rcases hK with ⟨_, h1, h2⟩ | ⟨_, h1, _⟩
    · subst h1 h2; exact ⟨fun h => by omega, fun _ => by omega⟩
    · subst h1; exact ⟨fun h => by omega, fun h => by omega⟩
  have HK := Lib.hid hK
  have HTOT : Hid (Line.total ls ≤ len0 + 1) := by
    show _ ≤ _
    have := Line.split_total xs
    rw [hls] at this; omega
  have HSHORT : Hid (len0 ≤ 3000 → ∀ i, (ls.getD i []).length ≤ 3000) := fun h i => by
    rcases Nat.lt_or_ge i ls.length with hlt | hge
    · rw [getD_at hlt]
      exact split_short (b := xs) (by omega) _ (by rw [hls]; exact List.getElem_mem _)
    · rw [List.getD_eq_getElem?_getD, List.getElem?_eq_none hge]; simp
  clear hx hls hK
  have hib : (3000 < len0 → (3000 : Int) < (len0 : Int)) ∧ (len0 ≤ 3000 → ¬ (3000 : Int) < (len0 : Int)) := ⟨fun h => by omega, fun h => by omega⟩
  rcases (by omega : 3000 < len0 ∨ len0 ≤ 3000) with g0 | g0
  · have hi0 := hib.1 g0
    clear hib
    go_enter Try.func4, Try.ntmps4
    go_wp2_with fail
    refine (awake_any _).mono ?_
    rintro e v1 ⟨rfl, B1⟩
    have HB1 := Lib.hid B1
    clear B1
    go_wp2
    go_ret
    exact ⟨rfl, HB1.out⟩
  have hi0 := hib.2 g0
  clear hib
  go_enter Try.func4, Try.ntmps4
  go_wp2_with fail
  refine (awake_any _).mono ?_
  rintro e v1 ⟨rfl, B1⟩
  have HB1 := Lib.hid B1
  have HS1 := Lib.hid (HS.out.below B1 (Nat.le_refl _))
  clear B1 HS
  go_wp2_with fail
  refine (split_own a0 len0 cap0 xs v1 HS1.out HN0.out (by omega)).mono ?_
  rintro e v2 ⟨la, M, lc, rows, rfl, hrows, hbn, -, hb2, hform⟩
  have HROWS := Lib.hid hrows
  have HBN : Hid (bnums rows = ls) := by show _ = _; rw [hbn, HLS.out]
  have HFORM := Lib.hid hform
  have HLM : Hid (ls.length = M) := by show _ = _; rw [← HBN.out, bnums_length, hrows.1]
  have hM : M ≤ 3001 := by
    have h1 := HTOT.out
    have h2 : ls.length ≤ Line.total ls := by
      have : ∀ l : List (List Int), l.length ≤ Line.total l := fun l => by
        induction l with
        | nil => simp
        | cons x l ih => simp only [Line.total, List.map_cons, List.sum_cons, List.length_cons] at ih ⊢; omega
      exact this ls
    rw [HLM.out] at h2; omega
  have hlcm := hrows.2.2.1
  have hMlc := hrows.2.1
  unfold maxLen at hlcm
  have HB2 : Hid (Below w.heap.size w v2) := HB1.out.trans (hb2.mono HB1.out.size)
  have HS2 := Lib.hid (HS1.out.below hb2 (Nat.le_refl _))
  clear hrows hbn hform hb2 HS1
  go_wp2_with fail
  refine (fread_is a0 len0 cap0 xs ⟨xc, xat, xe⟩ v2 HS2.out HN0.out (by omega) (split_short (by have := HLEN0.out; omega)) HX.out).mono ?_
  rintro e v3 ⟨⟨m1, l1, o1, t1, p1, n1, c1, xs1⟩, rfl, hcc, hgd, hnil, hnl, hst⟩
  have HC1 := Lib.hid hcc
  have HG1 := Lib.hid hgd
  have hn1 : n1 ≤ 200 := hnl
  have hcap1 := hgd.1.2.1
  have hcap1' := hgd.1.2.2.1
  unfold maxLen at hcap1'
  clear hcc hgd hnil hnl
  simp only [Cw.v, Cw.cells]
  have HB3 : Hid (Below w.heap.size w v3) := HB2.out.trans (hst.mono HB2.out.size)
  have HROWS := Lib.hid (HROWS.out.below hst (Nat.le_refl _))
  clear hst HS2
  go_wp2
  obtain ⟨V, hV⟩ : ∃ V, V = v3.alloc (.cells #[Value.int .u64 m1, Value.int .u64 l1, Value.int .u64 o1, Value.int .u64 t1, Value.slice p1 n1 c1] 26 (0, 0)) := ⟨_, rfl⟩
  have hbV : Below v3.heap.size v3 V := by rw [hV]; exact (Below.refl _ v3).alloc (Nat.le_refl _) _
  have HBV : Hid (Below w.heap.size w V) := HB3.out.trans (hbV.mono HB3.out.size)
  have HP9 : Hid (V.heap[v3.heap.size]? = some (.cells #[Value.int .u64 m1, Value.int .u64 l1, Value.int .u64 o1, Value.int .u64 t1, Value.slice p1 n1 c1] 26 (0, 0))) := by rw [hV]; exact heap_alloc_new v3 _
  have HROWS := Lib.hid (HROWS.out.below hbV (Nat.le_refl _))
  have HG1 := Lib.hid (HG1.out.below hbV (Nat.le_refl _))
  rw [← hV]
  clear hV hbV
  go_loopw [7, 8, 12] (fun tv av ix wr => ∃ (i N P : Nat) (a2 : Option Addr) (c2 : Nat) (a3 : Option Addr) (c3 : Nat), i ≤ M ∧ ix = .int .i64 (i : Int) ∧ tv = .slice a2 N c2 ∧ av = .slice a3 P c3 ∧ N ≤ i * 3010 ∧ P ≤ i * 3001 ∧ Hid ((a2 = none → c2 = 0) ∧ (a3 = none → c3 = 0)) ∧ Hid (Two V.heap.size wr tv N (File.spacedBytes (rotL ls f i)) av P (aheadB ls (min i K))) ∧ Hid (Below V.heap.size V wr)) (fun _ _ ix _ => M - (intOf ix).toNat)
  case atStart =>
    refine ⟨0, 0, 0, none, 0, none, 0, Nat.zero_le _, rfl, rfl, rfl, Nat.zero_le _, Nat.zero_le _, ⟨fun _ => rfl, fun _ => rfl⟩, ?_, Below.refl _ _⟩
    have e : aheadB ls (min 0 K) = [] := by simp [aheadB]
    show Two _ _ _ _ _ _ _ _
    rw [e]; exact two_nil V
  case round =>
    obtain ⟨i, N, P, a2, c2, a3, c3, hi, rfl, rfl, rfl, hN, hP, HNL, HT, HB⟩ := hrel
    have HBw : Hid (Below w.heap.size w wr) := HBV.out.trans (HB.out.mono HBV.out.size)
    by_cases hlt : i < M
    · obtain ⟨b0, o0, za, zn, zc, z, rfl, hb0, -, hclz, hslz, hz⟩ := HROWS.out.one i hlt
      obtain ⟨m, hm⟩ : ∃ m, (i + f) % M = m := ⟨_, rfl⟩
      have hml : m < M := by rw [← hm]; exact Nat.mod_lt _ (by omega)
      obtain ⟨b1, o1, ya, yn, yc, y, he, hb1', -, hcly, hsly, hy⟩ := HROWS.out.one m hml
      simp only [Option.some.injEq, Addr.mk.injEq, and_true] at he
      obtain ⟨rfl, rfl⟩ := he
      rw [HBN.out] at hz hy
      have hznl : zn ≤ 3000 := by rw [← hslz.1, ← hz]; exact HSHORT.out g0 i
      have hynl : yn ≤ 3000 := by rw [← hsly.1, ← hy]; exact HSHORT.out g0 m
      have hcy : wr.cell? ⟨b0, o0 + m, none⟩ = some (.slice ya yn yc) := by rw [HB.out.cell (p := ⟨b0, o0 + m, none⟩) hb0]; exact hcly
      have HCZ : Hid (∀ W, Below V.heap.size V W → W.cell? ⟨b0, o0 + i, none⟩ = some (.slice za zn zc)) := fun W hB => by rw [hB.cell (p := ⟨b0, o0 + i, none⟩) hb0]; exact hclz
      have HSZ := Lib.hid hslz
      have HSY := Lib.hid (hsly.below HB.out (Nat.le_refl _))
      have hlti : (i : Int) < (M : Int) := by omega
      have hmli : (m : Int) < (M : Int) := by omega
      have hmi : ((i : Int) + (f : Int)) % (M : Int) = (m : Int) := by rw [← hm]; simp
      have hmt : ((i : Int) + (f : Int)).tmod (M : Int) = (m : Int) := by rw [← hmi]; exact Int.tmod_eq_emod_of_nonneg (by omega)
      have hne : ¬ (M : Int) = 0 := by omega
      have HE1 : Hid (File.spacedBytes (rotL ls f (i + 1)) = File.spacedBytes (rotL ls f i) ++ y ++ [10] ++ [32, 35, 32, 98, 97, 114, 101, 10, 10]) := by
        show _ = _
        rw [rotL_next, HLM.out, hm, hy, spaced_next]
      have HE2 : Hid ((i < K → aheadB ls (min (i + 1) K) = aheadB ls (min i K) ++ z ++ [10]) ∧ (¬ i < K → aheadB ls (min (i + 1) K) = aheadB ls (min i K))) :=
        ⟨fun h => ahead_next (by rw [HLM.out]; exact hlt) h hz, ahead_stay⟩
      obtain ⟨N1, hN1⟩ : ∃ q, N + yn = q := ⟨_, rfl⟩
      obtain ⟨N2, hN2⟩ : ∃ q, N1 + 1 = q := ⟨_, rfl⟩
      obtain ⟨N3, hN3⟩ : ∃ q, N2 + 9 = q := ⟨_, rfl⟩
      obtain ⟨P1, hP1⟩ : ∃ q, P + zn = q := ⟨_, rfl⟩
      obtain ⟨P2, hP2⟩ : ∃ q, P1 + 1 = q := ⟨_, rfl⟩
      clear hm hclz hslz hz hcly hsly hy hb1' hmi
      have kc := fun (w : World) (C : Array Value) (n c : Nat) => Lib.run_convert_bytes_const (P := Try.prog) w 22 5 C n c Try.underlying22 Try.underlying5
      by_cases hik : i < K
      · have hiki := (HKI.out i).1 hik
        go_wp2_with first
          | (at_builtin; refine append_two (by rfl) (.tmp 40) (.tmp 50) (by rfl) V.heap.size _ N _ _ P _ (by rfl) HT.out ya yn yc y (by rfl) HSY.out N1 hN1 (by omega) ?_
             intro a4 c4 w4 ht4 hb4 hn4
             have HT4 := Lib.hid ht4
             have HB4 : Hid (Below V.heap.size V w4) := HB.out.trans hb4
             clear ht4 hb4 hn4)
          | (at_builtin; refine append_two (by rfl) (.tmp 51) (.tmp 52) (by rfl) V.heap.size _ N1 _ _ P _ (by rfl) (HT4.out.alloc _) (some ⟨w4.heap.size, 0, none⟩) 1 1 [10] (by rfl) (Sl.newB [10] (by decide) (by unfold maxLen; simp) rfl rfl rfl) N2 hN2 (by omega) ?_
             intro a5 c5 w5 ht5 hb5 hn5
             have HT5 := Lib.hid ht5
             have HB5 : Hid (Below V.heap.size V w5) := (HB4.out.alloc HB4.out.size _).trans hb5
             clear ht5 hb5 hn5)
          | (at_builtin; refine append_two (by rfl) (.tmp 53) (.tmp 55) (by rfl) V.heap.size _ N2 _ _ P _ (by rfl) (HT5.out.alloc _) (some ⟨w5.heap.size, 0, none⟩) 9 9 [32, 35, 32, 98, 97, 114, 101, 10, 10] (by rfl) (Sl.newB [32, 35, 32, 98, 97, 114, 101, 10, 10] (by decide) (by unfold maxLen; simp) rfl rfl rfl) N3 hN3 (by omega) ?_
             intro a6 c6 w6 ht6 hb6 hn6
             have HT6 := Lib.hid ht6
             have HB6 : Hid (Below V.heap.size V w6) := (HB5.out.alloc HB5.out.size _).trans hb6
             have HN6 := Lib.hid hn6
             have hcz6 := HCZ.out w6 HB6.out
             clear ht6 hb6 hn6)
          | (at_builtin; refine append_two (by rfl) (.tmp 60) (.tmp 64) (by rfl) V.heap.size _ P _ _ N3 _ (by rfl) HT6.out.symm za zn zc z (by rfl) (HSZ.out.below HB6.out (Nat.le_refl _)) P1 hP1 (by omega) ?_
             intro a7 c7 w7 ht7 hb7 hn7
             have HT7 := Lib.hid ht7
             have HB7 : Hid (Below V.heap.size V w7) := HB6.out.trans hb7
             clear ht7 hb7 hn7)
          | (at_builtin; refine append_two (by rfl) (.tmp 65) (.tmp 66) (by rfl) V.heap.size _ P1 _ _ N3 _ (by rfl) (HT7.out.alloc _) (some ⟨w7.heap.size, 0, none⟩) 1 1 [10] (by rfl) (Sl.newB [10] (by decide) (by unfold maxLen; simp) rfl rfl rfl) P2 hP2 (by omega) ?_
             intro a8 c8 w8 ht8 hb8 hn8
             have HT8 := Lib.hid ht8
             have HB8 : Hid (Below V.heap.size V w8) := (HB7.out.alloc HB7.out.size _).trans hb8
             have HN8 := Lib.hid hn8
             clear ht8 hb8 hn8)
        go_roundw
        case rel =>
          refine ⟨i + 1, N3, P2, a6, c6, a8, c8, by omega, by go_num, rfl, rfl, by omega, by omega, ⟨HN6.out, HN8.out⟩, ?_, HB8.out⟩
          show Two _ _ _ _ _ _ _ _
          rw [HE1.out, HE2.out.1 hik]; exact HT8.out.symm
        case measure => simp [intOf]; omega
      · have hiki := (HKI.out i).2 hik
        go_wp2_with first
          | (at_builtin; refine append_two (by rfl) (.tmp 40) (.tmp 50) (by rfl) V.heap.size _ N _ _ P _ (by rfl) HT.out ya yn yc y (by rfl) HSY.out N1 hN1 (by omega) ?_
             intro a4 c4 w4 ht4 hb4 hn4
             have HT4 := Lib.hid ht4
             have HB4 : Hid (Below V.heap.size V w4) := HB.out.trans hb4
             clear ht4 hb4 hn4)
          | (at_builtin; refine append_two (by rfl) (.tmp 51) (.tmp 52) (by rfl) V.heap.size _ N1 _ _ P _ (by rfl) (HT4.out.alloc _) (some ⟨w4.heap.size, 0, none⟩) 1 1 [10] (by rfl) (Sl.newB [10] (by decide) (by unfold maxLen; simp) rfl rfl rfl) N2 hN2 (by omega) ?_
             intro a5 c5 w5 ht5 hb5 hn5
             have HT5 := Lib.hid ht5
             have HB5 : Hid (Below V.heap.size V w5) := (HB4.out.alloc HB4.out.size _).trans hb5
             clear ht5 hb5 hn5)
          | (at_builtin; refine append_two (by rfl) (.tmp 53) (.tmp 55) (by rfl) V.heap.size _ N2 _ _ P _ (by rfl) (HT5.out.alloc _) (some ⟨w5.heap.size, 0, none⟩) 9 9 [32, 35, 32, 98, 97, 114, 101, 10, 10] (by rfl) (Sl.newB [32, 35, 32, 98, 97, 114, 101, 10, 10] (by decide) (by unfold maxLen; simp) rfl rfl rfl) N3 hN3 (by omega) ?_
             intro a6 c6 w6 ht6 hb6 hn6
             have HT6 := Lib.hid ht6
             have HB6 : Hid (Below V.heap.size V w6) := (HB5.out.alloc HB5.out.size _).trans hb6
             have HN6 := Lib.hid hn6
             have hcz6 := HCZ.out w6 HB6.out
             clear ht6 hb6 hn6)
        go_roundw
        case rel =>
          refine ⟨i + 1, N3, P, a6, c6, a3, c3, by omega, by go_num, rfl, rfl, by omega, by omega, ⟨HN6.out, HNL.out.2⟩, ?_, HB6.out⟩
          show Two _ _ _ _ _ _ _ _
          rw [HE1.out, HE2.out.2 hik]; exact HT6.out
        case measure => simp [intOf]; omega
    · obtain rfl : i = M := by omega
      have HSLT := Lib.hid HT.out.sl
      have HSLA := Lib.hid HT.out.symm.sl
      have hNl : N ≤ 30010 := by
        have h1 := HT.out.len
        have h2 := spaced_len (rotL ls f i)
        rw [← HLM.out, rotL_all, rot_total] at h2
        rw [← HLM.out, rotL_all] at h1
        have h3 := HTOT.out
        omega
      have hPl : P ≤ 3001 := by
        have h1 := HT.out.symm.len
        have h2 := ahead_len ls (min i K)
        have h3 := HTOT.out
        omega
      have HP9w := Lib.hid ((HB.out.block _ (Array.getElem?_eq_some_iff.1 HP9.out).1).trans HP9.out)
      have HG1w := Lib.hid (HG1.out.below HB.out (Nat.le_refl _))
      have hnlt : ¬ (i : Int) < (i : Int) := by omega
      rcases HK.out with ⟨rfl, rfl, rfl⟩ | ⟨hxe, rfl, hKM⟩
      · obtain ⟨y, hy⟩ : ∃ g, File.read (File.spacedBytes (rotL ls f i)) = g := ⟨_, rfl⟩
        obtain ⟨hye, hyc⟩ : y.e = 0 ∧ y.c = xc := File.turned (p := ls.take (f % i)) (q := ls.drop (f % i)) (by rw [HLS.out, List.take_append_drop]) HX.out (by rw [← hy, ← HLM.out, rotL_all, HLM.out]) rfl
        have hsh : ∀ l ∈ Line.split (File.spacedBytes (rotL ls f i)), l.length ≤ 5000 := by
          rw [← HLM.out, rotL_all, File.split_spaced (fun l hl => by
            have hm : l ∈ ls := by
              rcases List.mem_append.1 hl with h | h
              · exact List.mem_of_mem_drop h
              · exact List.mem_of_mem_take h
            exact Line.split_no xs l (by rw [HLS.out]; exact hm))]
          intro l hl
          rcases (File.spaced_facts _).2.2 l hl with h | rfl | rfl
          · have hm : l ∈ ls := by
              rcases List.mem_append.1 h with h | h
              · exact List.mem_of_mem_drop h
              · exact List.mem_of_mem_take h
            have := split_short (b := xs) (K := 3000) (by have := HLEN0.out; omega) l (by rw [HLS.out]; exact hm)
            omega
          · simp [File.bareLine]
          · simp
        have HY := Lib.hid hy
        have HYC := Lib.hid hyc
        have HSH := Lib.hid hsh
        have hye1 : (y.e == 0) = true := by simp [hye]
        clear hy hyc hsh
        go_wp2_with fail
        refine (fread_is a2 N c2 (File.spacedBytes (rotL ls f i)) y wr HSLT.out HNL.out.1 (by omega) HSH.out HY.out).mono ?_
        rintro e v5 ⟨⟨m2, l2, o2, t2, p2, n2, c2, xs2⟩, rfl, hcc, hgd, hnil, hnl, hst⟩
        have HC2 := Lib.hid hcc
        have HG2 := Lib.hid hgd
        have hn2 : n2 ≤ 200 := hnl
        have hcap2 := hgd.1.2.1
        have hcap2' := hgd.1.2.2.1
        unfold maxLen at hcap2'
        clear hcc hgd hnil hnl
        simp only [Cw.v, Cw.cells]
        have HP9v := Lib.hid ((hst.block _ (Array.getElem?_eq_some_iff.1 HP9w.out).1).trans HP9w.out)
        have HQ9 : Hid (∀ o, (v5.alloc o).heap[v3.heap.size]? = some (.cells #[Value.int .u64 m1, Value.int .u64 l1, Value.int .u64 o1, Value.int .u64 t1, Value.slice p1 n1 c1] 26 (0, 0))) := fun o => ((World.grownBy_alloc v5 o none).block _ (Array.getElem?_eq_some_iff.1 HP9v.out).1 (by simp)).trans HP9v.out
        have HG1v := Lib.hid (HG1w.out.below hst (Nat.le_refl _))
        have HB5 : Hid (Below w.heap.size w v5) := HBw.out.trans (hst.mono HBw.out.size)
        clear hst
        go_wp2_with first
          | (refine wpList_load_row_w (by rfl) 26 (.tmp 9) (by rfl) v3.heap.size (by rfl) 26 #[Value.int .u64 m1, Value.int .u64 l1, Value.int .u64 o1, Value.int .u64 t1, Value.slice p1 n1 c1] (0, 0) _ (HQ9.out _) Try.underlying26 (by rfl) (show _ = some #[Value.int .u64 m1, Value.int .u64 l1, Value.int .u64 o1, Value.int .u64 t1, Value.slice p1 n1 c1].size from info_cost5) ?_)
          | (refine wpList_load_row_w (by rfl) 26 (.tmp 13) (by rfl) v5.heap.size (by rfl) 26 #[Value.int .u64 m2, Value.int .u64 l2, Value.int .u64 o2, Value.int .u64 t2, Value.slice p2 n2 c2] (0, 0) _ (heap_alloc_new _ _) Try.underlying26 (by rfl) (show _ = some #[Value.int .u64 m2, Value.int .u64 l2, Value.int .u64 o2, Value.int .u64 t2, Value.slice p2 n2 c2].size from info_cost5) ?_)
        refine (rsame8_is (⟨m1, l1, o1, t1, p1, n1, c1, xs1⟩ : Cw) (⟨m2, l2, o2, t2, p2, n2, c2, xs2⟩ : Cw) _ (HG1v.out.alloc _) (HG2.out.alloc _) (by rw [HC1.out, HC2.out, HYC.out])).mono ?_
        rintro e v6 ⟨rfl, hb⟩
        have HB6 : Hid (Below w.heap.size w v6) := (aw8_step HB5.out hb).1
        clear hb
        go_wp2
        go_ret
        exact ⟨rfl, HB6.out⟩
      · obtain ⟨y, hy⟩ : ∃ g, File.read (aheadB ls (min i K)) = g := ⟨_, rfl⟩
        have hKi : K < i := by rw [← HLM.out]; exact hKM
        have hmin : min i K = K := by omega
        obtain ⟨b0, o0, za, zn, zc, z, rfl, hb0, hgd, hclz, hslz, hz⟩ := HROWS.out.one K hKi
        rw [HBN.out] at hz
        have hzl : zn ≤ 3000 := by rw [← hslz.1, ← hz]; exact HSHORT.out g0 K
        obtain ⟨s, hsr⟩ : ∃ s, Spec.read z = s := ⟨_, rfl⟩
        obtain ⟨_, hye, hor⟩ := File.ahead_read (k := K) (y := y) HX.out rfl hxe (by rw [HLS.out]; have h := hy; rw [hmin] at h; exact h)
        rw [HLS.out, hz, hsr] at hor
        have HZN : Hid (za = none → zc = 0) := fun e => by
          have hm : rows.getD K Bd.no ∈ rows := by rw [List.getD_eq_getElem?_getD, List.getElem?_eq_getElem (by rw [HROWS.out.1]; exact hKi), Option.getD_some]; exact List.getElem_mem _
          obtain ⟨b, hb⟩ := HFORM.out _ hm
          rw [hgd] at hb
          simp only at hb
          rw [e] at hb; cases hb
        have HCZ : Hid (∀ W, Below V.heap.size V W → W.cell? ⟨b0, o0 + K, none⟩ = some (.slice za zn zc)) := fun W hB => by rw [hB.cell (p := ⟨b0, o0 + K, none⟩) hb0]; exact hclz
        have HSZ := Lib.hid hslz
        have HSR := Lib.hid hsr
        have HY := Lib.hid hy
        have HOR := Lib.hid hor
        have hxe1 : (xe == 0) = false := by simpa using hxe
        have hye1 : (y.e == 0) = true := by simp [hye]
        have hKn : ¬ (K : Int) < 0 := by omega
        have hKm : ¬ (i : Int) ≤ (K : Int) := by omega
        have hKlt : (K : Int) < (i : Int) := by omega
        clear hy hz hclz hslz hgd hsr hor hmin hb0
        go_wp2_with fail
        refine (fread_is a3 P c3 (aheadB ls (min i K)) y wr HSLA.out HNL.out.2 (by omega) (split_short (by have := HT.out.symm.len; omega)) HY.out).mono ?_
        rintro e v5 ⟨⟨m2, l2, o2, t2, p2, n2, c2, xs2⟩, rfl, hcc, hgd, hnil, hnl, hst⟩
        have HC2 := Lib.hid hcc
        have HG2 := Lib.hid hgd
        have hn2 : n2 ≤ 200 := hnl
        have hcap2 := hgd.1.2.1
        have hcap2' := hgd.1.2.2.1
        unfold maxLen at hcap2'
        clear hcc hgd hnil hnl
        simp only [Cw.v, Cw.cells]
        have HBV5 : Hid (Below V.heap.size V v5) := HB.out.trans (hst.mono HB.out.size)
        have HB5 : Hid (Below w.heap.size w v5) := HBw.out.trans (hst.mono HBw.out.size)
        have hcz5 : ∀ o, (v5.alloc o).cell? ⟨b0, o0 + K, none⟩ = some (.slice za zn zc) := fun o => HCZ.out _ (HBV5.out.alloc HBV5.out.size o)
        clear hst
        go_wp2_with fail
        clear hcz5
        refine (read7_is za zn zc z s _ (HSZ.out.below (HBV5.out.alloc HBV5.out.size _) (Nat.le_refl _)) HZN.out (by omega) HSR.out).mono ?_
        rintro e v6 ⟨ba, bn, bc, ra, rn, rc, zs, rfl, hbs, hbc, hrs, hru, hrc, hb⟩
        have HB6 : Hid (Below w.heap.size w v6) := (aw8_step HB5.out hb).1
        have HBA : Hid (∀ o, Below w.heap.size w (v6.alloc o)) := fun o => HB6.out.alloc HB6.out.size o
        have hbnc := hbs.2.1
        have hbcm := hbs.2.2.1
        have hrnc := hrs.2.1
        have hrcm := hrs.2.2.1
        unfold maxLen at hbcm hrcm
        have HI : Hid ((Try.prog.info? 41).map (·.size) = some 2) := info_spec8
        clear hb hbs hbc hrs hru hrc
        by_cases h1 : s.e = xe
        · have h1b : (s.e == xe) = true := by simp [h1]
          go_wp2
          go_ret
          exact ⟨rfl, HBA.out _⟩
        · have h1b : (s.e == xe) = false := by simpa using h1
          rcases HOR.out with h | ⟨h2, h3⟩
          · exact absurd h h1
          have h2b : (s.e == 0) = true := by simp [h2]
          rcases h3 with h3 | h3
          · have h3b : (xe == 80) = true := by simp [h3]
            go_wp2
            go_ret
            exact ⟨rfl, HBA.out _⟩
          · have h3b : (xe == 80) = false := by simp [h3]
            have h3c : (xe == 81) = true := by simp [h3]
            go_wp2
            go_ret
            exact ⟨rfl, HBA.out _⟩

set_option maxRecDepth 100000 in
theorem lifted (os : Os) (started : os.Started) (H : Type) (enc : TypeId × Value → H) :
    ReturnsInHanded {} Try.checked os 4 .any (Rows.rulesLinesSpec.pre6 enc Try.prog Try.f4 Rows.rulesLinesRow.domain false) (Rows.rulesLinesSpec.post enc Try.prog Try.f4 false true false false) := by
  refine returnsInHanded_of_change (C := Try.checked) own started (by kernel_rfl) Try.func4
    (ChangeSpec.witness6 (enc := enc) (C := Try.checked) false ⟨#[], #[.slice none 0 0, .int .u8 0], []⟩ 8 (by kernel_rfl) (by kernel_rfl) (by kernel_rfl) (by kernel_rfl)) ?_
  intro W base args ds gs before hval0 hW hcnd _
  have hval : ∀ (j : Nat) t v, Try.f4.params[j]? = some t → args[j]? = some v → Value.okWide Try.prog W .any base t v := hval0
  have hW' := hW
  obtain ⟨p, q, hA0, hV, rfl, hfz, hnd⟩ := hW
  have hA : DataW.TrodAll enc Try.prog W 0 (fun _ => true) true Try.f4.params.toList args.toList ds p := hA0
  rw [Try.params4] at hA hval
  obtain ⟨v0, vs0, d0, ds0, p0, q0, hargs, rfl, rfl, h0, r0⟩ := trodAll_cons hA
  obtain ⟨v1, vs1, d1, ds1, p1, q1, rfl, rfl, rfl, h1, r1⟩ := trodAll_cons r0
  obtain ⟨rfl, rfl, rfl⟩ := trodAll_nil r1
  obtain rfl : args = #[v0, v1] := by cases args; simp_all
  obtain ⟨rfl, rfl⟩ := trodVars_none hV
  obtain ⟨a0, len0, cap0, rfl⟩ := okWide_slice Try.underlying22 (hval 0 22 v0 rfl rfl)
  have k0 := h0
  have lt0 : ∀ x ∈ p0, x.block < W.heap.size := by obtain ⟨m, hm⟩ := k0; exact DataW.trod_lt m _ _ _ hm
  obtain ⟨z0, w0⟩ : ∃ zs, IsRow .u8 W a0 len0 cap0 zs := by
    obtain ⟨fuel, hf⟩ := h0
    rcases open_ints Try.underlying22 Try.underlying5 (by kernel_rfl) hf with ⟨hcs, _⟩ | ⟨x, l, c, zs, hcs, _, hl, hm, hz, _, hcell, hwz⟩
    · simp [Value.cells] at hcs
      obtain ⟨rfl, rfl, rfl⟩ := hcs
      exact ⟨[], .inl ⟨rfl, rfl, rfl, rfl⟩⟩
    · simp [Value.cells] at hcs
      obtain ⟨rfl, rfl, rfl⟩ := hcs
      exact ⟨zs, .inr ⟨_, rfl, hl, hm, by simpa using hz, hcell, hwz⟩⟩
  obtain ⟨a1, rfl, rfl, rfl, w1⟩ := open_int Try.underlying5 (hval 1 5 v1 rfl rfl) h1
  clear hA0 hval0
  refine (walk a0 len0 cap0 z0 a1 W w0 w1).mono fun e W' ⟨he, bel⟩ => ?_
  subst he
  exact ⟨_, rfl, _, _, _, [], _, [], hW', trodAll_mk1 (shut_bool Try.underlying4 _), (trodAll_cons_mk (Below.trod laidOut (by kernel_rfl) (of_decide_eq_true (by kernel_rfl)) k0 bel lt0) (trodAll_cons_mk (shut_int Try.underlying5 w1) trodAll_mk0)), rfl, bel.frame _, fun h => by cases h⟩

theorem over : Rows.rulesLinesRow.holds Try.pinned (OpenSpec.ofChange Rows.rulesLinesSpec) :=
  OpenClaim.holds_of_wide 4 Try.f4 rfl rfl rfl rfl rfl rfl rfl ⟨rfl, rfl, rfl, rfl, rfl⟩ rfl rfl rfl rfl rfl (by kernel_rfl) Try.func4 (by kernel_rfl)
    (of_decide_eq_true (by kernel_rfl)) (by unfold Func.isWrapper; first | (rw [if_pos (by decide +kernel)]; kernel_rfl) | (rw [if_neg (by decide +kernel)]; exact ⟨rfl, rfl⟩))
    (fun os started H enc _ => lifted os started H enc)

/-- the statement -/
theorem proved : Rows.RulesLinesSaid := over
#print axioms proved
end Go.Proofs.Ytdondndalpmdgaa.rulesLines
