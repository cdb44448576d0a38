/- Used by the law. -/
import Derived.ScopeJumps
import Derived.Deep.OwnRows
import Derived.Test.YtjmabjeaodojeaaGreatPackT
import Derived.Test.YtjmabjeaodojeaaGreatSpecFits
import Derived.Test.YtjmabjeaodojeaaGreatSpecWriteW
import Derived.Test.YtjmabjeaodojeaaGreatPackE
import Derived.Test.YtjmabjeaodojeaaGreatPackJ
namespace Go.Proofs.YtjmabjeaodojeaaGreat
open Go.RowKit

set_option maxRecDepth 100000 in
theorem map_ne {w : World} {b g n : Nat} {D : DataW Unit} (h : w.ownsMap Tryz.prog 9 kindElem b n D) (hg : ∃ cs t fr, w.heap[g]? = some (Obj.cells cs t fr)) : b ≠ g := by
  rintro rfl
  obtain ⟨es, clock, hb, _⟩ := h
  obtain ⟨cs, t, fr, hc⟩ := hg
  rw [hb] at hc; cases hc
section
variable {o : Oper} {a : Act} {w : World} {x y : Operand}
set_option maxRecDepth 100000 in
theorem run_convz (ho : o.op = .convert 22 9 x) {p : Option Addr} {n c : Nat} {zs : List Int} (hx : a.eval x = .slice p n c) (hs : Sl .u8 w p n c zs) : (execOp a.eval o).run Tryz.prog w = .ok (.value (.string (strOfNums zs))) w := by
  simp [execOp, ho, hx, hs.str, Result.andThen]
set_option maxRecDepth 100000 in
theorem run_lookz (ho : o.op = .lookup 68 x y true) {b : Nat} {z : List Int} {kv : Value × Bool} (hx : a.eval x = .map (some b)) (hy : a.eval y = .string (strOfNums z)) (h : w.ownsMap Tryz.prog 9 kindElem b 4 kindsD) (hz : ∀ c ∈ z, (Lit.int .u8 c).wf = true) (hl : z.length ≤ 1000000) (hk : kindOf z = kv) :
    (execOp a.eval o).run Tryz.prog w = .ok (.value (.tuple #[kv.1, .bool kv.2])) w := by
  subst hk
  simp [execOp, ho, hx, hy, kinds_look h z hz hl, Result.andThen]
set_option maxRecDepth 100000 in
theorem run_extract0 (ho : o.op = .extract x 0) {u v : Value} (hx : a.eval x = .tuple #[u, v]) : (execOp a.eval o).run Tryz.prog w = .ok (.value u) w := by
  simp only [execOp, ho, hx]
  go_simp
set_option maxRecDepth 100000 in
theorem run_extract1 (ho : o.op = .extract x 1) {u v : Value} (hx : a.eval x = .tuple #[u, v]) : (execOp a.eval o).run Tryz.prog w = .ok (.value v) w := by
  simp only [execOp, ho, hx]
  go_simp
set_option maxRecDepth 100000 in
theorem run_kindAddr0 (ho : o.op = .fieldAddr 66 x 0) {p : Nat} (hx : a.eval x = .pointer (some ⟨p, 0, none⟩)) : (execOp a.eval o).run Tryz.prog w = .ok (.value (.pointer (some ⟨p, 0, none⟩))) w := by
  simp only [execOp, ho, hx]
  go_simp
set_option maxRecDepth 100000 in
theorem run_kindAddr1 (ho : o.op = .fieldAddr 66 x 1) {p : Nat} (hx : a.eval x = .pointer (some ⟨p, 0, none⟩)) : (execOp a.eval o).run Tryz.prog w = .ok (.value (.pointer (some ⟨p, 1, none⟩))) w := by
  simp only [execOp, ho, hx]
  go_simp
set_option maxRecDepth 100000 in
theorem run_mkS (ho : o.op = .makeSlice 70 x x) {n : Nat} (hx : a.eval x = .int .i64 (n : Int)) (hn : n ≤ 10) : (execOp a.eval o).run Tryz.prog w = .ok (.value (.slice (some ⟨w.heap.size, 0, none⟩) n n)) (w.alloc (.cells (madeCells #[.slice none 0 0] n) 37)) := by
  have h := run_make_row' (P := Tryz.prog) 70 37 (.slice none 0 0) 24 Tryz.underlying70 info_sl rfl .i64 .i64 n (by omega) (by omega) w
  simp [execOp, ho, hx, h, Result.andThen]
set_option maxRecDepth 100000 in
theorem run_mkK (ho : o.op = .makeSlice 40 x x) {n : Nat} (hx : a.eval x = .int .i64 (n : Int)) (hn : n ≤ 10) : (execOp a.eval o).run Tryz.prog w = .ok (.value (.slice (some ⟨w.heap.size, 0, none⟩) n n)) (w.alloc (.cells (madeCells #[.int .u64 0] n) 23)) := by
  have h := run_make_row' (P := Tryz.prog) 40 23 (.int .u64 0) 8 Tryz.underlying40 info_n64 rfl .i64 .i64 n (by omega) (by omega) w
  simp [execOp, ho, hx, h, Result.andThen]
end

theorem all3 {x y z : Value} (h1 : x.oneCell' = true) (h2 : y.oneCell' = true) (h3 : z.oneCell' = true) : (#[x, y, z]).all (·.oneCell') = true := by simp [h1, h2, h3]
set_option maxRecDepth 100000 in
theorem wpList_tail {w : World} {ops : Array Oper} {rest : List Oper} {o : Oper} {act : Act} {Q : Exit → Act → World → Prop} (hg : o.guard = none) (x : Operand) (ho : o.op = .slice 41 x (some (.const (.int .i64 1))) none none) (b off m M c : Nat) (ys : List Bd)
    (hx : act.eval x = .slice (some ⟨b, off, none⟩) m c) (hs : Bs w (some ⟨b, off, none⟩) m c ys) (hM : M + 1 = m)
    (h : ∀ ra rc, Bs w ra M rc (ys.drop 1) → wpList Tryz.prog ops Q rest (act.put o.dst (.slice ra M rc)) w) : wpList Tryz.prog ops Q (o :: rest) act w := by
  obtain ⟨h1, h2, h3, h4, h5⟩ := hs
  have hc0 : M < c := by omega
  have hcm := h3
  unfold maxLen at hcm
  refine wpList_plain hg fun K' hK => ?_
  by_cases hc : c = 1
  · subst hc
    obtain rfl : M = 0 := by omega
    subst hM
    have hrun : (execOp act.eval o).run Tryz.prog w = .ok (.value (.slice (some ⟨b, off, none⟩) 0 0)) w := by
      simp only [execOp, ho, hx]
      go_simp
    unfold Oper.wp
    rw [hrun]
    exact hK _ _ (h _ _ ⟨by simp [h1], Nat.le_refl _, Nat.zero_le _, fun z hz => h4 z (List.mem_of_mem_drop hz), .inl rfl⟩)
  · have hrun : (execOp act.eval o).run Tryz.prog w = .ok (.value (.slice (some ⟨b, off + 1, none⟩) M (c - 1))) w := by
      have hc1 : ¬ (1 : Int) = (c : Int) := by omega
      have hc2 : ¬ (c : Int) = (1 : Int) := by omega
      have hc3 : ¬ 1 = c := by omega
      have hm1 : (1 : Int) ≤ (m : Int) := by omega
      have hmm : m - 1 = M := by omega
      simp only [execOp, ho, hx]
      go_simp
    unfold Oper.wp
    rw [hrun]
    refine hK _ _ (h _ _ ⟨by simp [h1]; omega, by omega, by unfold maxLen; omega, fun z hz => h4 z (List.mem_of_mem_drop hz), ?_⟩)
    rcases h5 with h5 | ⟨b', off', ha, hcell⟩
    · omega
    · simp only [Option.some.injEq, Addr.mk.injEq, and_true] at ha
      obtain ⟨rfl, rfl⟩ := ha
      refine .inr ⟨b, off + 1, rfl, fun i hi => ?_⟩
      have := hcell (1 + i) (by omega)
      rw [show off + (1 + i) = off + 1 + i from by omega] at this
      rw [this]
      congr 2
      rw [List.getD_eq_getElem?_getD, List.getD_eq_getElem?_getD, List.getElem?_drop]

def Two (a b : World) (p q : Nat) : Prop := b.os = a.os ∧ b.tape = a.tape ∧ b.output = a.output ∧ a.heap.size ≤ b.heap.size ∧ ∀ k, k < a.heap.size → k ≠ p → k ≠ q → b.heap[k]? = a.heap[k]?
theorem Two.refl (a : World) (p q : Nat) : Two a a p q := ⟨rfl, rfl, rfl, Nat.le_refl _, fun _ _ _ _ => rfl⟩
theorem Two.step {a b c : World} {p q : Nat} {k : Option Nat} (h : Two a b p q) (hg : b.grownBy c k) (hk : k = none ∨ k = some p ∨ k = some q) : Two a c p q := by
  obtain ⟨h1, h2, h3, h4, h5⟩ := h
  refine ⟨hg.os.trans h1, hg.tape.trans h2, hg.output.trans h3, Nat.le_trans h4 hg.size, fun j hj hp hq => (hg.block j (Nat.lt_of_lt_of_le hj h4) (fun e => ?_)).trans (h5 j hj hp hq)⟩
  rcases hk with rfl | rfl | rfl
  · cases e
  · exact hp (Option.some.inj e)
  · exact hq (Option.some.inj e)
theorem Two.below {a b : World} {p q B : Nat} (h : Two a b p q) (hp : B ≤ p) (hq : B ≤ q) (hB : B ≤ a.heap.size) : Below B a b :=
  ⟨h.1, h.2.1, h.2.2.1, h.2.2.2.1, fun k hk => h.2.2.2.2 k (by omega) (by omega) (by omega)⟩
def Ownd (p q : Nat) (x : Wd) : Prop := (x.a = none ∧ x.cap = 0) ∨ ∃ g, x.a = some ⟨g, 0, none⟩ ∧ p < g ∧ q < g
theorem Ownd.formed {p q : Nat} {x : Wd} (h : Ownd p q x) : Formed x := by
  rcases h with h | ⟨g, h, _, _⟩
  · exact .inl h
  · exact .inr ⟨g, 0, h⟩
theorem Ownd.grown {p q k : Nat} {x : Wd} {w w' : World} (h : Ownd p q x) (hx : x.Good w) (hg : w.grownBy w' (some k)) (hk : k = p ∨ k = q) : x.Good w' := by
  refine Sl.grown hx hg ?_
  rcases h with ⟨h, h2⟩ | ⟨g, h, h1, h2⟩
  · have hn := hx.2.1
    exact .inl (by omega)
  · refine .inr ⟨g, 0, h, fun e => ?_⟩
    have := Option.some.inj e
    omega
def SpecOwn (w w' : World) (e : Ending) (s : Spec.Sp) : Prop :=
  ∃ ba bn bc ra rn rc xs, e = .returned (.tuple #[.agg #[.slice ba bn bc, .slice ra rn rc], .int .i64 s.e]) ∧ Sl .u64 w' ba bn bc s.base ∧ (ba = none → bc = 0) ∧ Rs w' ra rn rc xs ∧ ruls xs = s.rules ∧ (ra = none → rc = 0) ∧ Below w.heap.size w w' ∧ w'.ownsRow w.heap.size 39 3 (.slice ra rn rc) rn (rcells xs) ∧ (∀ x ∈ xs, x.Far (Value.slice ra rn rc).ownBlock) ∧ ∀ k, k < w.heap.size → ∀ x ∈ xs, x.Far (some k)
theorem SpecOwn.is {w w' : World} {e : Ending} {s : Spec.Sp} (h : SpecOwn w w' e s) : SpecIs w w' e s := by
  obtain ⟨ba, bn, bc, ra, rn, rc, xs, h1, h2, h3, h4, h5, h6, h7, _⟩ := h
  exact ⟨ba, bn, bc, ra, rn, rc, xs, h1, h2, h3, h4, h5, h6, h7⟩
set_option maxRecDepth 100000 in
theorem read_own (a : Option Addr) (n cap : Nat) (zs l : List Int) (p q : Nat) (w : World) (hs : Sl .u8 w a n cap zs) (hn : n ≤ 5000) (hl : Spec.signs zs = some l) (hp : p < w.heap.size) (hq : q < w.heap.size) :
    Calls Tryz.prog 36 #[.slice a n cap] w fun e w' => ∃ x : Wd, e = .returned (.tuple #[.slice x.a x.n x.cap, .int .i64 0]) ∧ x.zs = l ∧ x.Good w' ∧ Ownd p q x ∧ x.zs.length ≤ 5000 ∧ w.grownBy w' none := by
  refine (uread_any a n cap zs w hs (by omega)).mono ?_
  rintro e w' ⟨hb, h⟩
  have hir := Spec.signs_is zs
  rw [hl] at hir
  rcases h with ⟨l', hl', g, c, he, ho⟩ | ⟨h0, _⟩
  · have := hl'.one hir
    simp only [Option.some.injEq] at this
    subst this
    have hlen : l'.length ≤ 5000 := by
      have h1 := Utf.put_length_ge l'
      rw [hir.2, hs.1] at h1
      omega
    refine ⟨⟨g, l'.length, c, l'⟩, he, rfl, Sl.of_owns ho (good_wf hir.1) rfl, ?_, hlen, below_grew7 hb⟩
    rcases ho.2 with ⟨hv, h0⟩ | ⟨b, c', cur, hv, hB, _⟩
    · simp only [Value.slice.injEq] at hv
      exact .inl ⟨hv.1, hv.2.2⟩
    · simp only [Value.slice.injEq] at hv
      exact .inr ⟨b, hv.1, by omega, by omega⟩
  · have := h0.one hir; cases this
theorem made_row {w : World} {g B n : Nat} {z : Value} {t : TypeId} (h : w.heap[g]? = some (.cells (madeCells #[z] n) t (0, 0))) (hB : B ≤ g) (hn : n ≤ 10) : w.ownsRow B t 1 (.slice (some ⟨g, 0, none⟩) n n) n (List.replicate n z) := by
  have e : (madeCells #[z] n).toList = List.replicate n z := by
    apply List.ext_getElem
    · simp [madeCells]
    · intro i h1 h2
      simp [madeCells, Nat.mod_one]
  refine ⟨by simp, .inr ⟨g, n, _, rfl, hB, h, Nat.le_refl _, by unfold maxLen; omega, by simp [madeCells], ?_⟩⟩
  rw [e]; simp
theorem set_next (A : List Value) (z v : Value) (m : Nat) : (A ++ List.replicate (m + 1) z).set A.length v = (A ++ [v]) ++ List.replicate m z := by
  rw [List.set_append_right _ _ (Nat.le_refl _), Nat.sub_self, List.replicate_succ, List.set_cons_zero]
  simp
theorem at_next (A : List Value) (z : Value) (m : Nat) : (A ++ List.replicate (m + 1) z)[A.length]? = some z := by
  rw [List.getElem?_append_right (Nat.le_refl _), Nat.sub_self, List.replicate_succ]; rfl
theorem row_ne {w : World} {p q : Nat} {A B : Array Value} {s t : TypeId} (hp : w.heap[p]? = some (.cells A s (0, 0))) (hq : w.heap[q]? = some (.cells B t (0, 0))) (h : s ≠ t) : p ≠ q := by
  rintro rfl
  rw [hp] at hq
  simp only [Option.some.injEq, Obj.cells.injEq] at hq
  exact h hq.2.1
theorem signs_next {fs : List (List Int)} {i : Nat} (h : i < fs.length) : Spec.signsAll (fs.drop i) = match Spec.signs (fs.getD i []) with
    | none => none
    | some l => (Spec.signsAll (fs.drop (i + 1))).map (l :: ·) := by
  rw [dropD h, Spec.signsAll]
  cases Spec.signs (fs.getD i []) <;> rfl
theorem costs_next' {fs : List (List Int)} {i : Nat} (h : i < fs.length) : Spec.costs (fs.drop i) = match Num.read (fs.getD i []) with
    | none => none
    | some c => (Spec.costs (fs.drop (i + 1))).map ((c : Int) :: ·) := by
  rw [dropD h, Spec.costs_cons]
  cases Num.read (fs.getD i []) <;> rfl

theorem kind_any (f : List (List Int)) (h0 : 0 < f.length) : ∃ (S K : Nat) (fv : Value) (known : Bool), kindOf (f.getD 0 []) = (.agg #[.int .i64 (S : Int), .int .i64 (K : Int), fv], known) ∧ (S ≤ 2 ∧ K ≤ 4) ∧ fv.oneCell' = true ∧
    ((known = false ∧ Spec.byWord f = Spec.Sp.no 70) ∨ (known = true ∧ ∃ fn tell, fv = .func (.func fn) #[] #[] ∧ KindOk S K fn tell ∧ Spec.byWord f = if (f.drop 1).length = S + K then Spec.run S (f.drop 1) tell else Spec.Sp.no 71)) := by
  rcases kind_cases f with ⟨h1, h2⟩ | ⟨S, K, fn, tell, h1, h2, h3⟩
  · exact ⟨0, 0, .nilFunc, false, h1, by omega, rfl, .inl ⟨rfl, h2⟩⟩
  · exact ⟨S, K, _, true, h1, h2.small, rfl, .inr ⟨rfl, fn, tell, rfl, h2, h3 h0⟩⟩

set_option maxHeartbeats 25600000 in
set_option maxRecDepth 100000 in
theorem read7_own (a : Option Addr) (n cap : Nat) (zs : List Int) (s : Spec.Sp) (w : World) (hs : Sl .u8 w a n cap zs) (hnil : a = none → cap = 0) (hn : n ≤ 100000) (hsh : ∀ x ∈ Line.fields zs, x.length ≤ 5000) (hr : Spec.read zs = s) :
    Calls Tryz.prog 14 #[.slice a n cap] w fun e w' => SpecOwn w w' e s := by
  obtain ⟨b, hbr⟩ : ∃ b, Line.bare zs = b := ⟨_, rfl⟩
  unfold Spec.read at hr
  rw [hbr] at hr
  have hzl := hs.1
  have HS := Lib.hid hs
  have HNL := Lib.hid hnil
  have HA := Lib.hid hbr
  have HI : Hid ((Tryz.prog.info? 44).map (·.size) = some 2) := info_spec
  have HB : ∀ o, Hid (Below w.heap.size w (w.alloc o) ∧ w.heap.size + 1 ≤ (w.alloc o).heap.size) := fun o => ⟨(Below.refl _ w).alloc (Nat.le_refl _) o, by simp⟩
  have HNW : Hid (∀ o, (w.alloc o).heap[w.heap.size]? = some o) := fun o => heap_alloc_new w o
  have HSHZ := Lib.hid hsh
  have HNE : Hid (b = false → 0 < (Line.fields zs).length) := fun h => by
    subst h
    unfold Line.bare at hbr
    cases hf : Line.fields zs with
    | nil => rw [hf] at hbr; cases hbr
    | cons f fs => simp
  have hmx : Tryz.prog.follows .mixedOrders = true := by kernel_rfl
  have HMX := Lib.hid hmx
  clear hs hbr hzl hnil hmx hsh
  go_enter Tryz.func14, Tryz.ntmps14
  go_wp2
  refine wp_scope_jumps 0 (fun a' w' => ∃ er, s = Spec.Sp.no er ∧ a'.defers = [] ∧ a'.tmps.size = 107 ∧ a'.tmps.getD 2 undef = .pointer (some ⟨w.heap.size, 0, none⟩) ∧ a'.tmps.getD 12 undef = .int .i64 er ∧
    Hid (w'.heap[w.heap.size]? = some (.cells #[.slice none 0 0, .slice none 0 0] 44 (0, 0))) ∧ Hid (Below w.heap.size w w')) (fun _ _ => 0) rfl ?_ ?_
  · go_wp2_with fail
    refine (bare_any a n cap zs _ (HS.out.alloc _) HNL.out (by omega)).mono ?_
    rw [HA.out]
    rintro e v1 ⟨rfl, hb⟩
    have HBv1 : Hid (Below w.heap.size w v1 ∧ w.heap.size + 1 ≤ v1.heap.size) := ⟨(HB _).out.1.trans (hb.mono (HB _).out.1.size), Nat.le_trans (HB _).out.2 hb.size⟩
    have H0v1 : Hid (v1.heap[w.heap.size]? = some (.cells #[.slice none 0 0, .slice none 0 0] 44 (0, 0))) := (hb.block _ (lt_one' _ _)).trans (HNW.out _)
    clear hb
    cases b
    · have HR0 : Hid (Spec.byWord (Line.fields zs) = s) := by show _ = _; rw [← hr]; rfl
      have HNF := Lib.hid (HNE.out rfl)
      clear hr HNE
      go_wp2_with fail
      refine (fields_any a n cap zs v1 (HS.out.below HBv1.out.1 (Nat.le_refl _)) HNL.out (by omega)).mono ?_
      rintro e W0 ⟨a5, m5, c5, ys, rfl, hys, hyf, hyn, hb⟩
      have HBW0 : Hid (Below w.heap.size w W0 ∧ w.heap.size + 1 ≤ W0.heap.size) := ⟨HBv1.out.1.trans (hb.mono HBv1.out.1.size), Nat.le_trans HBv1.out.2 hb.size⟩
      have H0W0 : Hid (W0.heap[w.heap.size]? = some (.cells #[.slice none 0 0, .slice none 0 0] 44 (0, 0))) := (hb.block _ (by have := HBv1.out.2; omega)).trans H0v1.out
      have HYS := Lib.hid hys
      have HR : Hid (Spec.byWord (bnums ys) = s) := by show _ = _; rw [hyf]; exact HR0.out
      have HLN : Hid ((bnums ys).length = m5) := by show _ = _; rw [bnums_length, hys.1]
      have HSH : Hid (∀ y ∈ ys, y.n ≤ 5000) := fun y hy => by
        have h1 := HSHZ.out y.zs (by rw [← hyf]; exact List.mem_map_of_mem hy)
        rw [(hys.2.2.2.1 y hy).1] at h1
        exact h1
      have hm0 : 0 < m5 := by have := HNF.out; rw [← hyf, HLN.out] at this; exact this
      obtain ⟨b5, o5, a0, n0, c0, z0, rfl, hb1, _, hx0, hs0, hz0⟩ := hys.one 0 hm0
      have HC0 : Hid (W0.drew.cell? ⟨b5, o5, none⟩ = some (.slice a0 n0 c0)) := hx0
      have HZ : Hid (Sl .u8 W0.drew a0 n0 c0 z0) := hs0
      have HZL : Hid (z0.length ≤ 1000000) := by
        have hmem : z0 ∈ Line.fields zs := by
          rw [← hyf, ← hz0, List.getD_eq_getElem?_getD, List.getElem?_eq_getElem (by rw [HLN.out]; exact hm0), Option.getD_some]; exact List.getElem_mem _
        have := HSHZ.out z0 hmem
        show _ ≤ _; omega
      have HM0 := Lib.hid hm0
      obtain ⟨S, K, fv, known, hkv, hsk, hk1, hcase⟩ := kind_any (bnums ys) (by rw [HLN.out]; exact hm0)
      rw [hz0] at hkv
      have HKV : Hid (kindOf z0 = (.agg #[Value.int .i64 (S : Int), Value.int .i64 (K : Int), fv], known)) := hkv
      have HSK : Hid (S ≤ 10 ∧ K ≤ 10) := ⟨by omega, by omega⟩
      have HK1 : Hid ((#[Value.int .i64 (S : Int), Value.int .i64 (K : Int), fv]).all (·.oneCell') = true) := all3 rfl rfl hk1
      have HIK : Hid ((Tryz.prog.info? 66).map (·.size) = some 3) := by show _ = _; kernel_rfl
      have HCASE := Lib.hid hcase
      clear hys hyf hyn hb hb1 hx0 hs0 hz0 hkv hcase hk1
      go_wp2_with fail
      refine wp_region_told2 HMX.out 10 [(21, 21), (22, 22), (23, 23), (24, 24), (25, 25), (26, 26), (20, 20), (27, 27), (28, 28), (5, 5), (5, 5), (6, 6)]
        (fun (j : Nat) (v u : Value) (w0 : World) => match j with
          | 0 => ∃ b, v = .map (some b) ∧ w0.ownsMap Tryz.prog 9 kindElem b 4 kindsD ∧ W0.heap.size ≤ b
          | 1 => v = .slice (some ⟨b5, o5, none⟩) m5 c5
          | 2 => v = .pointer (some ⟨b5, o5, none⟩)
          | 3 => v = .slice a0 n0 c0
          | 4 => v = .string (strOfNums z0)
          | 5 => v = .tuple #[.agg #[Value.int .i64 (S : Int), Value.int .i64 (K : Int), fv], .bool known]
          | 6 => v = .tuple #[.agg #[Value.int .i64 (S : Int), Value.int .i64 (K : Int), fv], .bool known]
          | 7 => v = .agg #[Value.int .i64 (S : Int), Value.int .i64 (K : Int), fv]
          | 8 => v = .bool known
          | 9 => ∃ g cs, v = .pointer (some ⟨g, 0, none⟩) ∧ W0.heap.size ≤ g ∧ w0.heap[g]? = some (.cells cs 66 (0, 0)) ∧ cs.size = 3
          | 10 => ∃ g, v = .pointer (some ⟨g, 0, none⟩) ∧ W0.heap.size ≤ g ∧ w0.heap[g]? = some (.cells #[Value.int .i64 (S : Int), Value.int .i64 (K : Int), fv] 66 (0, 0))
          | 11 => v = .bool known
          | _ => True)
        (fun W => (W0).drew.grownBy W none) (fun a0 w0 w' => ∃ g cs, a0.eval (.tmp 5) = .pointer (some ⟨g, 0, none⟩) ∧ W0.heap.size ≤ g ∧ w0.grownBy w' (some g) ∧ w'.heap[g]? = some (.cells cs 66 (0, 0)) ∧ cs.size = 3 ∧ (∃ cs0 t0 fr0, w0.heap[g]? = some (Obj.cells cs0 t0 fr0)) ∧ True) (by kernel_rfl) (by kernel_rfl) (World.grownBy.refl _ _) (fun _ _ h1 h2 => h1.trans h2) (fun _ _ _ h1 h2 => by obtain ⟨g, cs, _, h3, h4, _⟩ := h2; exact fresh_row h1 ⟨g, h3, h4⟩) ?_ ?_ ?_ ?_
      · intro j v u w0 w' h hg
        match j, h with
        | 0, h => obtain ⟨b, h1, h2, h3⟩ := h; exact ⟨b, h1, h2.kept hg (by simp), h3⟩
        | 1, h => exact h
        | 2, h => exact h
        | 3, h => exact h
        | 4, h => exact h
        | 5, h => exact h
        | 6, h => exact h
        | 7, h => exact h
        | 8, h => exact h
        | 9, h => obtain ⟨g, cs, h1, h2, h3, h4⟩ := h; exact ⟨g, cs, h1, h2, (hg.block g (Array.getElem?_eq_some_iff.1 h3).1 (by simp)).trans h3, h4⟩
        | 10, h => obtain ⟨g, h1, h2, h3⟩ := h; exact ⟨g, h1, h2, (hg.block g (Array.getElem?_eq_some_iff.1 h3).1 (by simp)).trans h3⟩
        | 11, h => exact h
        | j + 12, h => exact h
      · intro j v u a0 w0 w' hne h hr
        match j, hne, h with
        | 0, hne, h => obtain ⟨b, h1, h2, h3⟩ := h; obtain ⟨g, cs, r1, r2, r3, r4, r5, r6, r7⟩ := hr; exact ⟨b, h1, h2.kept r3 (fun e => map_ne h2 r6 (Option.some.inj e)), h3⟩
        | 1, hne, h => exact h
        | 2, hne, h => exact h
        | 3, hne, h => exact h
        | 4, hne, h => exact h
        | 5, hne, h => exact h
        | 6, hne, h => exact h
        | 7, hne, h => exact h
        | 8, hne, h => exact h
        | 9, hne, h => obtain ⟨g, cs, h1, h2, h3, h4⟩ := h; obtain ⟨g1, cs1, r1, r2, r3, r4, r5, r6, r7⟩ := hr; exact rr_kept h2 h3 h4 r2 r3 r4 r5 h1
        | 10, hne, h => exact absurd rfl hne
        | 11, hne, h => exact h
        | j + 12, _, h => exact h
      · intro i1 o ho a1 w1 hJ hw ht
        match i1, ho with
        | 0, ho =>
          obtain rfl := Option.some.inj ho
          refine StepsTo.enter rfl _ _ (run_kinds rfl) (kinds_is w1) (fun e w' h => ?_)
          obtain ⟨b, rfl, h1, h2, h3⟩ := h
          exact ⟨_, rfl, ⟨b, rfl, h1, Nat.le_trans hJ.size h2⟩, fun h => absurd h (by decide), fun _ => h3⟩
        | 1, ho =>
          obtain rfl := Option.some.inj ho
          exact StepsTo.move rfl (.tmp 4) (.inl rfl) ⟨(hw 4 (by kernel_rfl)), fun h => absurd h (by decide), fun _ => World.grownBy.refl _ _⟩
        | 2, ho =>
          obtain rfl := Option.some.inj ho
          exact steps_idx (k := 0) idx_fields rfl (.tmp 22) (.const (.int .i64 0)) rfl (ht 1 (by kernel_rfl)) rfl HM0.out ⟨rfl, fun h => absurd h (by decide), fun _ => World.grownBy.refl _ _⟩
        | 3, ho =>
          obtain rfl := Option.some.inj ho
          exact steps_ldd (ldd_field _ _ _) rfl (.tmp 23) rfl (ht 2 (by kernel_rfl)) (hJ.cell HC0.out (by simp)) ⟨rfl, fun h => absurd h (by decide), fun _ => World.grownBy.refl _ _⟩
        | 4, ho =>
          obtain rfl := Option.some.inj ho
          have e24 : a1.eval (.tmp 24) = .slice a0 n0 c0 := (ht 3 (by kernel_rfl))
          exact StepsTo.of_run rfl (run_convz rfl e24 (HZ.out.grown hJ (Slf.none' HZ.out))) ⟨rfl, fun h => absurd h (by decide), fun _ => World.grownBy.refl _ _⟩
        | 5, ho =>
          obtain rfl := Option.some.inj ho
          obtain ⟨b, h1, h2, h3⟩ := ht 0 (by kernel_rfl)
          have e21 : a1.eval (.tmp 21) = .map (some b) := h1
          have e25 : a1.eval (.tmp 25) = .string (strOfNums z0) := (ht 4 (by kernel_rfl))
          exact StepsTo.of_run rfl (run_lookz rfl e21 e25 h2 HZ.out.2.2.2.1 HZL.out HKV.out) ⟨rfl, fun h => absurd h (by decide), fun _ => World.grownBy.refl _ _⟩
        | 6, ho =>
          obtain rfl := Option.some.inj ho
          exact StepsTo.move rfl (.tmp 26) (.inl rfl) ⟨(ht 5 (by kernel_rfl)), fun h => absurd h (by decide), fun _ => World.grownBy.refl _ _⟩
        | 7, ho =>
          obtain rfl := Option.some.inj ho
          have e20 : a1.eval (.tmp 20) = .tuple #[.agg #[Value.int .i64 (S : Int), Value.int .i64 (K : Int), fv], .bool known] := (ht 6 (by kernel_rfl))
          exact StepsTo.of_run rfl (run_extract0 rfl e20) ⟨rfl, fun h => absurd h (by decide), fun _ => World.grownBy.refl _ _⟩
        | 8, ho =>
          obtain rfl := Option.some.inj ho
          have e20 : a1.eval (.tmp 20) = .tuple #[.agg #[Value.int .i64 (S : Int), Value.int .i64 (K : Int), fv], .bool known] := (ht 6 (by kernel_rfl))
          exact StepsTo.of_run rfl (run_extract1 rfl e20) ⟨rfl, fun h => absurd h (by decide), fun _ => World.grownBy.refl _ _⟩
        | 9, ho =>
          obtain rfl := Option.some.inj ho
          exact StepsTo.of_run (v := .pointer (some ⟨w1.heap.size, 0, none⟩)) (w' := w1.alloc (.cells #[.int .i64 0, .int .i64 0, .nilFunc] 66)) rfl (by simp only [execOp]; go_simp) ⟨⟨_, _, rfl, hJ.size, heap_alloc_new _ _, rfl⟩, fun h => absurd h (by decide), fun _ => World.grownBy_alloc _ _ _⟩
        | 10, ho =>
          obtain rfl := Option.some.inj ho
          obtain ⟨g, cs, h1, h2, h3, h4⟩ := ht 9 (by kernel_rfl)
          have e27 : a1.eval (.tmp 27) = .agg #[Value.int .i64 (S : Int), Value.int .i64 (K : Int), fv] := (ht 7 (by kernel_rfl))
          have h1' : a1.eval (.tmp 5) = .pointer (some ⟨g, 0, none⟩) := h1
          refine steps_store_g rfl 66 (.tmp 5) (.tmp 27) rfl h1' e27 h3 HIK.out h4 HK1.out ?_
          intro w' hw' hg' hsz'
          exact ⟨⟨g, h1', h2, hw'⟩, fun _ => ⟨g, _, h1', h2, hg', hw', rfl, ⟨_, _, _, h3⟩, trivial⟩, fun h => absurd rfl h⟩
        | 11, ho =>
          obtain rfl := Option.some.inj ho
          exact StepsTo.move rfl (.tmp 28) (.inr rfl) ⟨(ht 8 (by kernel_rfl)), fun h => absurd h (by decide), fun _ => World.grownBy.refl _ _⟩
        | j1 + 12, ho => exact absurd (Array.getElem?_eq_some_iff.1 ho).1 (by simp)
      intro tm W4 hsz hJ hfr hto
      rw [act_lit2 tm (show tm.size = 107 from hsz)]
      simp only [List.range, List.range.loop, List.map_cons, List.map_nil]
      rw [hfr 0 (by kernel_rfl), hfr 1 (by kernel_rfl), hfr 2 (by kernel_rfl), hfr 3 (by kernel_rfl), hfr 4 (by kernel_rfl), hfr 7 (by kernel_rfl), hfr 8 (by kernel_rfl), hfr 9 (by kernel_rfl), hfr 10 (by kernel_rfl), hfr 11 (by kernel_rfl), hfr 12 (by kernel_rfl), hfr 13 (by kernel_rfl), hfr 14 (by kernel_rfl), hfr 15 (by kernel_rfl), hfr 16 (by kernel_rfl), hfr 17 (by kernel_rfl), hfr 18 (by kernel_rfl), hfr 19 (by kernel_rfl), hfr 29 (by kernel_rfl), hfr 30 (by kernel_rfl), hfr 31 (by kernel_rfl), hfr 32 (by kernel_rfl), hfr 33 (by kernel_rfl), hfr 34 (by kernel_rfl), hfr 35 (by kernel_rfl), hfr 36 (by kernel_rfl), hfr 37 (by kernel_rfl), hfr 38 (by kernel_rfl), hfr 39 (by kernel_rfl), hfr 40 (by kernel_rfl), hfr 41 (by kernel_rfl), hfr 42 (by kernel_rfl), hfr 43 (by kernel_rfl), hfr 44 (by kernel_rfl), hfr 45 (by kernel_rfl), hfr 46 (by kernel_rfl), hfr 47 (by kernel_rfl), hfr 48 (by kernel_rfl), hfr 49 (by kernel_rfl), hfr 50 (by kernel_rfl), hfr 51 (by kernel_rfl), hfr 52 (by kernel_rfl), hfr 53 (by kernel_rfl), hfr 54 (by kernel_rfl), hfr 55 (by kernel_rfl), hfr 56 (by kernel_rfl), hfr 57 (by kernel_rfl), hfr 58 (by kernel_rfl), hfr 59 (by kernel_rfl), hfr 60 (by kernel_rfl), hfr 61 (by kernel_rfl), hfr 62 (by kernel_rfl), hfr 63 (by kernel_rfl), hfr 64 (by kernel_rfl), hfr 65 (by kernel_rfl), hfr 66 (by kernel_rfl), hfr 67 (by kernel_rfl), hfr 68 (by kernel_rfl), hfr 69 (by kernel_rfl), hfr 70 (by kernel_rfl), hfr 71 (by kernel_rfl), hfr 72 (by kernel_rfl), hfr 73 (by kernel_rfl), hfr 74 (by kernel_rfl), hfr 75 (by kernel_rfl), hfr 76 (by kernel_rfl), hfr 77 (by kernel_rfl), hfr 78 (by kernel_rfl), hfr 79 (by kernel_rfl), hfr 80 (by kernel_rfl), hfr 81 (by kernel_rfl), hfr 82 (by kernel_rfl), hfr 83 (by kernel_rfl), hfr 84 (by kernel_rfl), hfr 85 (by kernel_rfl), hfr 86 (by kernel_rfl), hfr 87 (by kernel_rfl), hfr 88 (by kernel_rfl), hfr 89 (by kernel_rfl), hfr 90 (by kernel_rfl), hfr 91 (by kernel_rfl), hfr 92 (by kernel_rfl), hfr 93 (by kernel_rfl), hfr 94 (by kernel_rfl), hfr 95 (by kernel_rfl), hfr 96 (by kernel_rfl), hfr 97 (by kernel_rfl), hfr 98 (by kernel_rfl), hfr 99 (by kernel_rfl), hfr 100 (by kernel_rfl), hfr 101 (by kernel_rfl), hfr 102 (by kernel_rfl), hfr 103 (by kernel_rfl), hfr 104 (by kernel_rfl), hfr 105 (by kernel_rfl), hfr 106 (by kernel_rfl)]
      simp only [Array.getD_eq_getD_getElem?, List.getElem?_toArray, List.getElem?_cons_succ, List.getElem?_cons_zero, Option.getD_some]
      have t0 : ∃ b, (tm[21]?.getD undef) = .map (some b) ∧ W4.ownsMap Tryz.prog 9 kindElem b 4 kindsD ∧ W0.heap.size ≤ b := by have h := hto 0 (by decide); simp only [Array.getD_eq_getD_getElem?] at h; exact h
      have t1 : (tm[22]?.getD undef) = .slice (some ⟨b5, o5, none⟩) m5 c5 := by have h := hto 1 (by decide); simp only [Array.getD_eq_getD_getElem?] at h; exact h
      have t2 : (tm[23]?.getD undef) = .pointer (some ⟨b5, o5, none⟩) := by have h := hto 2 (by decide); simp only [Array.getD_eq_getD_getElem?] at h; exact h
      have t3 : (tm[24]?.getD undef) = .slice a0 n0 c0 := by have h := hto 3 (by decide); simp only [Array.getD_eq_getD_getElem?] at h; exact h
      have t4 : (tm[25]?.getD undef) = .string (strOfNums z0) := by have h := hto 4 (by decide); simp only [Array.getD_eq_getD_getElem?] at h; exact h
      have t5 : (tm[26]?.getD undef) = .tuple #[.agg #[Value.int .i64 (S : Int), Value.int .i64 (K : Int), fv], .bool known] := by have h := hto 5 (by decide); simp only [Array.getD_eq_getD_getElem?] at h; exact h
      have t6 : (tm[20]?.getD undef) = .tuple #[.agg #[Value.int .i64 (S : Int), Value.int .i64 (K : Int), fv], .bool known] := by have h := hto 6 (by decide); simp only [Array.getD_eq_getD_getElem?] at h; exact h
      have t7 : (tm[27]?.getD undef) = .agg #[Value.int .i64 (S : Int), Value.int .i64 (K : Int), fv] := by have h := hto 7 (by decide); simp only [Array.getD_eq_getD_getElem?] at h; exact h
      have t8 : (tm[28]?.getD undef) = .bool known := by have h := hto 8 (by decide); simp only [Array.getD_eq_getD_getElem?] at h; exact h
      have t9 : ∃ g cs, (tm[5]?.getD undef) = .pointer (some ⟨g, 0, none⟩) ∧ W0.heap.size ≤ g ∧ W4.heap[g]? = some (.cells cs 66 (0, 0)) ∧ cs.size = 3 := by have h := hto 9 (by decide); simp only [Array.getD_eq_getD_getElem?] at h; exact h
      have t10 : ∃ g, (tm[5]?.getD undef) = .pointer (some ⟨g, 0, none⟩) ∧ W0.heap.size ≤ g ∧ W4.heap[g]? = some (.cells #[Value.int .i64 (S : Int), Value.int .i64 (K : Int), fv] 66 (0, 0)) := by have h := hto 10 (by decide); simp only [Array.getD_eq_getD_getElem?] at h; exact h
      have t11 : (tm[6]?.getD undef) = .bool known := by have h := hto 11 (by decide); simp only [Array.getD_eq_getD_getElem?] at h; exact h
      clear hto
      generalize tm[5]?.getD undef = y5 at *
      generalize tm[6]?.getD undef = y6 at *
      generalize tm[20]?.getD undef = y20 at *
      generalize tm[21]?.getD undef = y21 at *
      generalize tm[22]?.getD undef = y22 at *
      generalize tm[23]?.getD undef = y23 at *
      generalize tm[24]?.getD undef = y24 at *
      generalize tm[25]?.getD undef = y25 at *
      generalize tm[26]?.getD undef = y26 at *
      generalize tm[27]?.getD undef = y27 at *
      generalize tm[28]?.getD undef = y28 at *
      clear hfr hsz tm
      clear t0 t1 t2 t3 t4 t5 t6 t7 t8 t9
      obtain ⟨kb, rfl, hkb0, hkb⟩ := t10
      obtain rfl := t11
      obtain ⟨M, hM⟩ : ∃ M, M + 1 = m5 := ⟨m5 - 1, by omega⟩
      have HKB := Lib.hid hkb
      have HKC0 : Hid (W4.drew.cell? ⟨kb, 0, none⟩ = some (.int .i64 (S : Int))) := by show W4.cell? _ = _; simp [World.cell?, hkb]
      have HKC1 : Hid (W4.drew.cell? ⟨kb, 1, none⟩ = some (.int .i64 (K : Int))) := by show W4.cell? _ = _; simp [World.cell?, hkb]
      have HB04 : Hid (Below W0.heap.size W0 W4) := grown_below7 hJ
      have HBW4 : Hid (Below w.heap.size w W4) := HBW0.out.1.trans (HB04.out.mono HBW0.out.1.size)
      have H0W4 : Hid (W4.heap[w.heap.size]? = some (.cells #[.slice none 0 0, .slice none 0 0] 44 (0, 0))) := (HB04.out.block _ (by have := HBW0.out.2; omega)).trans H0W0.out
      have HLT4 : Hid (w.heap.size < W4.heap.size ∧ kb < W4.heap.size) := ⟨by have h1 := HBW0.out.2; have h2 := HB04.out.size; omega, (Array.getElem?_eq_some_iff.1 hkb).1⟩
      have HYS4 : Hid (Bs W4 (some ⟨b5, o5, none⟩) m5 c5 ys) := HYS.out.below HB04.out (Nat.le_refl _)
      clear hkb hkb0 hJ
      go_wp2_with (refine wpList_tail (by rfl) (.tmp 29) (by rfl) b5 o5 m5 M c5 ys (by rfl) HYS4.out hM ?_
                   intro ra rc hrest
                   have HREST := Lib.hid hrest
                   clear hrest)
      refine wp_region_told2 HMX.out 8 [(31, 31), (32, 32), (33, 33), (34, 34), (35, 35), (36, 36), (8, 8), (9, 9)]
        (fun (j : Nat) (v u : Value) (w0 : World) => match j with
          | 0 => v = .pointer (some ⟨kb, 0, none⟩)
          | 1 => v = .int .i64 (S : Int)
          | 2 => ∃ p, v = .slice (some ⟨p, 0, none⟩) S S ∧ W4.heap.size ≤ p ∧ w0.heap[p]? = some (.cells (madeCells #[.slice none 0 0] S) 37 (0, 0))
          | 3 => v = .pointer (some ⟨kb, 1, none⟩)
          | 4 => v = .int .i64 (K : Int)
          | 5 => ∃ p, v = .slice (some ⟨p, 0, none⟩) K K ∧ W4.heap.size ≤ p ∧ w0.heap[p]? = some (.cells (madeCells #[.int .u64 0] K) 23 (0, 0))
          | 6 => ∃ p, v = .slice (some ⟨p, 0, none⟩) S S ∧ W4.heap.size ≤ p ∧ w0.heap[p]? = some (.cells (madeCells #[.slice none 0 0] S) 37 (0, 0))
          | 7 => ∃ p, v = .slice (some ⟨p, 0, none⟩) K K ∧ W4.heap.size ≤ p ∧ w0.heap[p]? = some (.cells (madeCells #[.int .u64 0] K) 23 (0, 0))
          | _ => True)
        (fun W => (W4).drew.grownBy W none) (fun _ _ _ => False) (by kernel_rfl) (by kernel_rfl) (World.grownBy.refl _ _) (fun _ _ h1 h2 => h1.trans h2) (fun _ _ _ _ h => h.elim) ?_ ?_ ?_ ?_
      · intro j v u w0 w' h hg
        match j, h with
        | 0, h => exact h
        | 1, h => exact h
        | 2, h => obtain ⟨p, h1, h2, h3⟩ := h; exact ⟨p, h1, h2, (hg.block p (Array.getElem?_eq_some_iff.1 h3).1 (by simp)).trans h3⟩
        | 3, h => exact h
        | 4, h => exact h
        | 5, h => obtain ⟨p, h1, h2, h3⟩ := h; exact ⟨p, h1, h2, (hg.block p (Array.getElem?_eq_some_iff.1 h3).1 (by simp)).trans h3⟩
        | 6, h => obtain ⟨p, h1, h2, h3⟩ := h; exact ⟨p, h1, h2, (hg.block p (Array.getElem?_eq_some_iff.1 h3).1 (by simp)).trans h3⟩
        | 7, h => obtain ⟨p, h1, h2, h3⟩ := h; exact ⟨p, h1, h2, (hg.block p (Array.getElem?_eq_some_iff.1 h3).1 (by simp)).trans h3⟩
        | j + 8, h => exact h
      · intro j v u a0 w0 w' hne h hr
        match j, hne, h with
        | 0, hne, h => exact h
        | 1, hne, h => exact h
        | 2, hne, h => exact absurd hr (by simp)
        | 3, hne, h => exact h
        | 4, hne, h => exact h
        | 5, hne, h => exact absurd hr (by simp)
        | 6, hne, h => exact absurd hr (by simp)
        | 7, hne, h => exact absurd hr (by simp)
        | j + 8, _, h => exact h
      · intro i1 o ho a1 w1 hJ hw ht
        match i1, ho with
        | 0, ho =>
          obtain rfl := Option.some.inj ho
          have e1 : a1.eval (.tmp 5) = .pointer (some ⟨kb, 0, none⟩) := (hw 5 (by kernel_rfl))
          exact StepsTo.of_run rfl (run_kindAddr0 rfl e1) ⟨rfl, fun h => absurd h (by decide), fun _ => World.grownBy.refl _ _⟩
        | 1, ho =>
          obtain rfl := Option.some.inj ho
          exact steps_ldd (ldd_int _) rfl (.tmp 31) rfl (ht 0 (by kernel_rfl)) (hJ.cell HKC0.out (by simp)) ⟨rfl, fun h => absurd h (by decide), fun _ => World.grownBy.refl _ _⟩
        | 2, ho =>
          obtain rfl := Option.some.inj ho
          have e1 : a1.eval (.tmp 32) = .int .i64 (S : Int) := (ht 1 (by kernel_rfl))
          exact StepsTo.of_run rfl (run_mkS rfl e1 HSK.out.1) ⟨⟨w1.heap.size, rfl, hJ.size, heap_alloc_new _ _⟩, fun h => absurd h (by decide), fun _ => World.grownBy_alloc _ _ _⟩
        | 3, ho =>
          obtain rfl := Option.some.inj ho
          have e1 : a1.eval (.tmp 5) = .pointer (some ⟨kb, 0, none⟩) := (hw 5 (by kernel_rfl))
          exact StepsTo.of_run rfl (run_kindAddr1 rfl e1) ⟨rfl, fun h => absurd h (by decide), fun _ => World.grownBy.refl _ _⟩
        | 4, ho =>
          obtain rfl := Option.some.inj ho
          exact steps_ldd (ldd_int _) rfl (.tmp 34) rfl (ht 3 (by kernel_rfl)) (hJ.cell HKC1.out (by simp)) ⟨rfl, fun h => absurd h (by decide), fun _ => World.grownBy.refl _ _⟩
        | 5, ho =>
          obtain rfl := Option.some.inj ho
          have e1 : a1.eval (.tmp 35) = .int .i64 (K : Int) := (ht 4 (by kernel_rfl))
          exact StepsTo.of_run rfl (run_mkK rfl e1 HSK.out.2) ⟨⟨w1.heap.size, rfl, hJ.size, heap_alloc_new _ _⟩, fun h => absurd h (by decide), fun _ => World.grownBy_alloc _ _ _⟩
        | 6, ho =>
          obtain rfl := Option.some.inj ho
          exact StepsTo.move rfl (.tmp 33) (.inr rfl) ⟨(ht 2 (by kernel_rfl)), fun h => absurd h (by decide), fun _ => World.grownBy.refl _ _⟩
        | 7, ho =>
          obtain rfl := Option.some.inj ho
          exact StepsTo.move rfl (.tmp 36) (.inr rfl) ⟨(ht 5 (by kernel_rfl)), fun h => absurd h (by decide), fun _ => World.grownBy.refl _ _⟩
        | j1 + 8, ho => exact absurd (Array.getElem?_eq_some_iff.1 ho).1 (by simp)
      intro tm W6 hsz hJ hfr hto
      rw [act_lit2 tm (show tm.size = 107 from hsz)]
      simp only [List.range, List.range.loop, List.map_cons, List.map_nil]
      rw [hfr 0 (by kernel_rfl), hfr 1 (by kernel_rfl), hfr 2 (by kernel_rfl), hfr 3 (by kernel_rfl), hfr 4 (by kernel_rfl), hfr 5 (by kernel_rfl), hfr 6 (by kernel_rfl), hfr 7 (by kernel_rfl), hfr 10 (by kernel_rfl), hfr 11 (by kernel_rfl), hfr 12 (by kernel_rfl), hfr 13 (by kernel_rfl), hfr 14 (by kernel_rfl), hfr 15 (by kernel_rfl), hfr 16 (by kernel_rfl), hfr 17 (by kernel_rfl), hfr 18 (by kernel_rfl), hfr 19 (by kernel_rfl), hfr 20 (by kernel_rfl), hfr 21 (by kernel_rfl), hfr 22 (by kernel_rfl), hfr 23 (by kernel_rfl), hfr 24 (by kernel_rfl), hfr 25 (by kernel_rfl), hfr 26 (by kernel_rfl), hfr 27 (by kernel_rfl), hfr 28 (by kernel_rfl), hfr 29 (by kernel_rfl), hfr 30 (by kernel_rfl), hfr 37 (by kernel_rfl), hfr 38 (by kernel_rfl), hfr 39 (by kernel_rfl), hfr 40 (by kernel_rfl), hfr 41 (by kernel_rfl), hfr 42 (by kernel_rfl), hfr 43 (by kernel_rfl), hfr 44 (by kernel_rfl), hfr 45 (by kernel_rfl), hfr 46 (by kernel_rfl), hfr 47 (by kernel_rfl), hfr 48 (by kernel_rfl), hfr 49 (by kernel_rfl), hfr 50 (by kernel_rfl), hfr 51 (by kernel_rfl), hfr 52 (by kernel_rfl), hfr 53 (by kernel_rfl), hfr 54 (by kernel_rfl), hfr 55 (by kernel_rfl), hfr 56 (by kernel_rfl), hfr 57 (by kernel_rfl), hfr 58 (by kernel_rfl), hfr 59 (by kernel_rfl), hfr 60 (by kernel_rfl), hfr 61 (by kernel_rfl), hfr 62 (by kernel_rfl), hfr 63 (by kernel_rfl), hfr 64 (by kernel_rfl), hfr 65 (by kernel_rfl), hfr 66 (by kernel_rfl), hfr 67 (by kernel_rfl), hfr 68 (by kernel_rfl), hfr 69 (by kernel_rfl), hfr 70 (by kernel_rfl), hfr 71 (by kernel_rfl), hfr 72 (by kernel_rfl), hfr 73 (by kernel_rfl), hfr 74 (by kernel_rfl), hfr 75 (by kernel_rfl), hfr 76 (by kernel_rfl), hfr 77 (by kernel_rfl), hfr 78 (by kernel_rfl), hfr 79 (by kernel_rfl), hfr 80 (by kernel_rfl), hfr 81 (by kernel_rfl), hfr 82 (by kernel_rfl), hfr 83 (by kernel_rfl), hfr 84 (by kernel_rfl), hfr 85 (by kernel_rfl), hfr 86 (by kernel_rfl), hfr 87 (by kernel_rfl), hfr 88 (by kernel_rfl), hfr 89 (by kernel_rfl), hfr 90 (by kernel_rfl), hfr 91 (by kernel_rfl), hfr 92 (by kernel_rfl), hfr 93 (by kernel_rfl), hfr 94 (by kernel_rfl), hfr 95 (by kernel_rfl), hfr 96 (by kernel_rfl), hfr 97 (by kernel_rfl), hfr 98 (by kernel_rfl), hfr 99 (by kernel_rfl), hfr 100 (by kernel_rfl), hfr 101 (by kernel_rfl), hfr 102 (by kernel_rfl), hfr 103 (by kernel_rfl), hfr 104 (by kernel_rfl), hfr 105 (by kernel_rfl), hfr 106 (by kernel_rfl)]
      simp only [Array.getD_eq_getD_getElem?, List.getElem?_toArray, List.getElem?_cons_succ, List.getElem?_cons_zero, Option.getD_some]
      have t0 : (tm[31]?.getD undef) = .pointer (some ⟨kb, 0, none⟩) := by have h := hto 0 (by decide); simp only [Array.getD_eq_getD_getElem?] at h; exact h
      have t1 : (tm[32]?.getD undef) = .int .i64 (S : Int) := by have h := hto 1 (by decide); simp only [Array.getD_eq_getD_getElem?] at h; exact h
      have t2 : ∃ p, (tm[33]?.getD undef) = .slice (some ⟨p, 0, none⟩) S S ∧ W4.heap.size ≤ p ∧ W6.heap[p]? = some (.cells (madeCells #[.slice none 0 0] S) 37 (0, 0)) := by have h := hto 2 (by decide); simp only [Array.getD_eq_getD_getElem?] at h; exact h
      have t3 : (tm[34]?.getD undef) = .pointer (some ⟨kb, 1, none⟩) := by have h := hto 3 (by decide); simp only [Array.getD_eq_getD_getElem?] at h; exact h
      have t4 : (tm[35]?.getD undef) = .int .i64 (K : Int) := by have h := hto 4 (by decide); simp only [Array.getD_eq_getD_getElem?] at h; exact h
      have t5 : ∃ p, (tm[36]?.getD undef) = .slice (some ⟨p, 0, none⟩) K K ∧ W4.heap.size ≤ p ∧ W6.heap[p]? = some (.cells (madeCells #[.int .u64 0] K) 23 (0, 0)) := by have h := hto 5 (by decide); simp only [Array.getD_eq_getD_getElem?] at h; exact h
      have t6 : ∃ p, (tm[8]?.getD undef) = .slice (some ⟨p, 0, none⟩) S S ∧ W4.heap.size ≤ p ∧ W6.heap[p]? = some (.cells (madeCells #[.slice none 0 0] S) 37 (0, 0)) := by have h := hto 6 (by decide); simp only [Array.getD_eq_getD_getElem?] at h; exact h
      have t7 : ∃ p, (tm[9]?.getD undef) = .slice (some ⟨p, 0, none⟩) K K ∧ W4.heap.size ≤ p ∧ W6.heap[p]? = some (.cells (madeCells #[.int .u64 0] K) 23 (0, 0)) := by have h := hto 7 (by decide); simp only [Array.getD_eq_getD_getElem?] at h; exact h
      clear hto
      generalize tm[8]?.getD undef = y8 at *
      generalize tm[9]?.getD undef = y9 at *
      generalize tm[31]?.getD undef = y31 at *
      generalize tm[32]?.getD undef = y32 at *
      generalize tm[33]?.getD undef = y33 at *
      generalize tm[34]?.getD undef = y34 at *
      generalize tm[35]?.getD undef = y35 at *
      generalize tm[36]?.getD undef = y36 at *
      clear hfr hsz tm
      clear t0 t1 t2 t3 t4 t5
      obtain ⟨sb, rfl, hsb0, hsb⟩ := t6
      obtain ⟨cb, rfl, hcb0, hcb⟩ := t7
      have hne : sb ≠ cb := row_ne hsb hcb (by decide)
      have HNEB := Lib.hid hne
      have HB46 : Hid (Below W4.heap.size W4 W6) := grown_below7 hJ
      have HLT6 : Hid (sb < W6.heap.size ∧ cb < W6.heap.size ∧ W4.heap.size ≤ sb ∧ W4.heap.size ≤ cb) := ⟨(Array.getElem?_eq_some_iff.1 hsb).1, (Array.getElem?_eq_some_iff.1 hcb).1, hsb0, hcb0⟩
      obtain ⟨W7, hW7⟩ : ∃ W7, W6.alloc (.cells #[.slice none 0 0, .slice none 0 0] 44) = W7 := ⟨_, rfl⟩
      have hg67 : W6.grownBy W7 none := by rw [← hW7]; exact World.grownBy_alloc _ _ _
      have htb : W7.heap[W6.heap.size]? = some (.cells #[.slice none 0 0, .slice none 0 0] 44 (0, 0)) := by rw [← hW7]; exact heap_alloc_new _ _
      obtain ⟨tb, htbe⟩ : ∃ tb, W6.heap.size = tb := ⟨_, rfl⟩
      have HTBE := Lib.hid htbe
      have HFS : Hid (∀ W, Two W7 W sb cb → W.heap[w.heap.size]? = some (.cells #[.slice none 0 0, .slice none 0 0] 44 (0, 0)) ∧ Below w.heap.size w W ∧ Below W4.heap.size W4 W ∧ W.heap[kb]? = some (.cells #[Value.int .i64 (S : Int), Value.int .i64 (K : Int), fv] 66 (0, 0)) ∧ W.heap[tb]? = some (.cells #[.slice none 0 0, .slice none 0 0] 44 (0, 0)) ∧ tb < W.heap.size ∧ sb < W.heap.size ∧ cb < W.heap.size) := fun W h2 => by
        obtain ⟨l1, l2, l3, l4⟩ := HLT6.out
        obtain ⟨l5, l6⟩ := HLT4.out
        have hs7 := hg67.size
        have hs46 := HB46.out.size
        have hlt7 : W6.heap.size < W7.heap.size := (Array.getElem?_eq_some_iff.1 htb).1
        have b47 : Below W4.heap.size W4 W7 := HB46.out.trans ((Below.refl _ W6).grown hg67 (by omega) (fun k hk => by cases hk))
        have b4W : Below W4.heap.size W4 W := b47.trans (h2.below l3 l4 (by omega))
        have hle := h2.2.2.2.1
        refine ⟨(b4W.block _ l5).trans H0W4.out, HBW4.out.trans (b4W.mono (by omega)), b4W, (b4W.block _ l6).trans HKB.out, ?_, by omega, by omega, by omega⟩
        rw [← htbe]
        exact (h2.2.2.2.2 _ hlt7 (by omega) (by omega)).trans htb
      have HRS7 : Hid (W7.ownsRow W4.heap.size 37 1 (.slice (some ⟨sb, 0, none⟩) S S) S (List.replicate S (.slice none 0 0))) := made_row ((hg67.block sb HLT6.out.1 (by simp)).trans hsb) hsb0 HSK.out.1
      have HRC7 : Hid (W7.ownsRow W4.heap.size 23 1 (.slice (some ⟨cb, 0, none⟩) K K) K (List.replicate K (.int .u64 0))) := made_row ((hg67.block cb HLT6.out.2.1 (by simp)).trans hcb) hcb0 HSK.out.2
      have HRB : Hid (∀ W, Two W7 W sb cb → Bs W ra M rc (ys.drop 1)) := fun W h2 => HREST.out.below (HFS.out W h2).2.2.1 (Nat.le_refl _)
      have HW7 := Lib.hid hW7
      have HF7 := Lib.hid (HFS.out W7 (Two.refl _ _ _))
      obtain ⟨fs, hfs⟩ : ∃ fs, bnums (ys.drop 1) = fs := ⟨_, rfl⟩
      have hfs2 : (bnums ys).drop 1 = fs := by rw [← hfs]; simp [bnums]
      have HFSE := Lib.hid hfs
      have HFL : Hid (fs.length = M) := by show _ = _; rw [← hfs, bnums_length, List.length_drop, HYS.out.1]; omega
      have HSH1 : Hid (∀ y ∈ ys.drop 1, y.n ≤ 5000) := fun y hy => HSH.out y (List.mem_of_mem_drop hy)
      have hs2 := hsk.1
      have hk4 := hsk.2
      rw [hfs2, HFL.out] at HCASE
      clear hsb hcb hsb0 hcb0 hne hJ hg67 htb hfs hfs2
      rcases HCASE.out with ⟨rfl, hw⟩ | ⟨rfl, fn, tell, rfl, hok, hw⟩
      · obtain rfl : s = Spec.Sp.no 70 := by rw [← HR.out]; exact hw
        clear hw HCASE
        go_wp2
        go_step3
        exact ⟨rfl, 70, rfl, rfl, rfl, rfl, rfl, HF7.out.1, HF7.out.2.1⟩
      by_cases hMK : M = S + K
      · have hneq : ((M : Int) != (S : Int) + (K : Int)) = false := by simp; omega
        have hwr : IntKind.i64.wrap ((S : Int) + (K : Int)) = (S : Int) + (K : Int) := by rw [IntKind.wrap_i64]; omega
        have HRUN : Hid (Spec.run S fs tell = s) := by show _ = _; rw [← HR.out, hw, if_pos hMK]
        have HTK : Hid ((fs.take S).length = S) := by show _ = _; rw [List.length_take, HFL.out]; omega
        have HTD : Hid ((fs.drop S).length = K) := by show _ = _; rw [List.length_drop, HFL.out]; omega
        have HOKK := Lib.hid hok
        have HKC7a : W7.cell? ⟨kb, 0, none⟩ = some (.int .i64 (S : Int)) := by simp [World.cell?, HF7.out.2.2.2.1]
        have HKC7b : W7.cell? ⟨kb, 1, none⟩ = some (.int .i64 (K : Int)) := by simp [World.cell?, HF7.out.2.2.2.1]
        have HMK := Lib.hid hMK
        clear hw HCASE hok hMK
        go_wp2
        go_loopw [49] (fun ix wr => ∃ (i : Nat) (outs : List Wd), i ≤ S ∧ ix = .int .i64 (i : Int) ∧ Hid (outs.length = i) ∧ Hid (wr.ownsRow W4.heap.size 37 1 (.slice (some ⟨sb, 0, none⟩) S S) S (vals outs ++ List.replicate (S - i) (.slice none 0 0))) ∧ Hid (∀ x ∈ outs, x.Good wr ∧ Ownd sb cb x ∧ x.zs.length ≤ 5000) ∧
          Hid (Spec.signsAll (fs.take S) = (Spec.signsAll ((fs.take S).drop i)).map (nums outs ++ ·)) ∧ Hid (Two W7 wr sb cb) ∧ Hid (W7.grownBy wr (some sb))) (fun ix _ => S - (intOf ix).toNat)
        case atStart =>
          refine ⟨0, [], Nat.zero_le _, rfl, (by first | trivial | rfl), HRS7.out, (by first | trivial | (intro x hx; simp at hx)), ?_, Two.refl _ _ _, World.grownBy.refl _ _⟩
          show _ = _
          rw [List.drop_zero]
          cases Spec.signsAll (fs.take S) <;> simp [nums]
        case round =>
          obtain ⟨i, outs, hi, rfl, HOL, HOW, HOG, HMT, HTW, HGS⟩ := hrel
          have HFR := Lib.hid (HFS.out wr HTW.out)
          by_cases hlt : i < S
          · have hlti : (i : Int) < (S : Int) := by omega
            have hiM : i < M := by have := HMK.out; omega
            have hiMi : (i : Int) < (M : Int) := by omega
            obtain ⟨gb, go, a1, n1, c1, z1, rfl, _, hyi, hcell, hsl, hz1⟩ := (HRB.out wr HTW.out).one i hiM
            have HSL := Lib.hid hsl
            have hn1 : n1 ≤ 5000 := by
              have := HSH1.out ((ys.drop 1).getD i Bd.no) (by rw [List.getD_eq_getElem?_getD, List.getElem?_eq_getElem (by rw [(HRB.out wr HTW.out).1]; exact hiM), Option.getD_some]; exact List.getElem_mem _)
              rw [hyi] at this; exact this
            have HN1 := Lib.hid hn1
            obtain ⟨m, hm⟩ : ∃ m, S - i = m + 1 := ⟨S - i - 1, by omega⟩
            have hzi : (fs.take S).getD i [] = z1 := by
              rw [← hz1, HFSE.out, List.getD_eq_getElem?_getD, List.getD_eq_getElem?_getD, List.getElem?_take, if_pos hlt]
            have hnx := signs_next (fs := fs.take S) (i := i) (by rw [HTK.out]; exact hlt)
            rw [hzi] at hnx
            have hvl : (vals outs).length = i := by rw [vals_length, HOL.out]
            have hsbw : sb < wr.heap.size := HFR.out.2.2.2.2.2.2.1
            have hcbw : cb < wr.heap.size := HFR.out.2.2.2.2.2.2.2
            have HOWM : Hid (wr.ownsRow W4.heap.size 37 1 (.slice (some ⟨sb, 0, none⟩) S S) S (vals outs ++ List.replicate (m + 1) (.slice none 0 0))) := by have := HOW.out; rw [hm] at this; exact this
            cases hsg : Spec.signs z1 with
            | none =>
              have hbad : Utf.IsRead z1 none := by have := Spec.signs_is z1; rw [hsg] at this; exact this
              rw [hsg] at hnx
              obtain rfl : s = Spec.Sp.no 10 := by
                rw [← HRUN.out]; unfold Spec.run; rw [HMT.out, hnx]; rfl
              have HBAD := Lib.hid hbad
              have HM := Lib.hid hm
              have HVL := Lib.hid hvl
              clear hyi hsl hz1 hzi hnx hsg hbad hn1 hm hvl hsbw hcbw
              go_wp2_with fail
              refine (read_bad a1 n1 c1 z1 wr HSL.out (by have := HN1.out; omega) HBAD.out).mono ?_
              rintro e v5 ⟨rfl, hb5⟩
              have HOW5 : Hid (v5.ownsRow W4.heap.size 37 1 (.slice (some ⟨sb, 0, none⟩) S S) S (vals outs ++ List.replicate (m + 1) (.slice none 0 0))) := HOWM.out.kept (below_grew7 hb5) (.inr (by simp [Value.ownBlock]))
              have hc5 : v5.cell? ⟨sb, i, none⟩ = some (.slice none 0 0) := by
                rw [HOW5.out.cellAt i (by omega), ← HVL.out]; exact at_next _ _ _
              have hf5 : v5.frozen? ⟨sb, i, none⟩ = false := HOW5.out.frozenAt i
              have HT5 : Hid (Two W7 v5 sb cb) := HTW.out.step (below_grew7 hb5) (.inl rfl)
              have HE5 : Hid (∀ v, (v5.setCell ⟨sb, i, none⟩ v).heap[w.heap.size]? = some (.cells #[.slice none 0 0, .slice none 0 0] 44 (0, 0)) ∧ Below w.heap.size w (v5.setCell ⟨sb, i, none⟩ v)) := fun v =>
                have h := HFS.out _ (HT5.out.step (HOW5.out.stored i v).2 (.inr (.inl rfl)))
                ⟨h.1, h.2.1⟩
              clear hb5
              go_wp2
              go_step3
              exact ⟨rfl, 10, rfl, rfl, rfl, rfl, rfl, (HE5.out _).1, (HE5.out _).2⟩
            | some l =>
              rw [hsg] at hnx
              have HSG := Lib.hid hsg
              have HNX := Lib.hid hnx
              have HM := Lib.hid hm
              have HVL := Lib.hid hvl
              have HSB := Lib.hid hsbw
              have HCB := Lib.hid hcbw
              clear hyi hsl hz1 hzi hnx hsg hn1 hm hvl hsbw hcbw
              go_wp2_with fail
              refine (read_own a1 n1 c1 z1 l sb cb wr HSL.out HN1.out HSG.out HSB.out HCB.out).mono ?_
              rintro e v5 ⟨⟨xa, xn, xc, xz⟩, rfl, hxz, hxg, hxo, hxl, hg5⟩
              have HOW5 : Hid (v5.ownsRow W4.heap.size 37 1 (.slice (some ⟨sb, 0, none⟩) S S) S (vals outs ++ List.replicate (m + 1) (.slice none 0 0))) := HOWM.out.kept hg5 (.inr (by simp [Value.ownBlock]))
              have hc5 : v5.cell? ⟨sb, i, none⟩ = some (.slice none 0 0) := by
                rw [HOW5.out.cellAt i (by omega), ← HVL.out]; exact at_next _ _ _
              have hf5 : v5.frozen? ⟨sb, i, none⟩ = false := HOW5.out.frozenAt i
              have HT5 : Hid (Two W7 v5 sb cb) := HTW.out.step hg5 (.inl rfl)
              have HG5 := Lib.hid hg5
              have HXZ := Lib.hid hxz
              have HXG := Lib.hid hxg
              have HXO := Lib.hid hxo
              have HXL := Lib.hid hxl
              clear hxz hxg hxo hxl hg5
              go_wp2
              go_roundw
              case rel =>
                have hst := HOW5.out.stored i (.slice xa xn xc)
                have hset : (vals outs ++ List.replicate (m + 1) (Value.slice none 0 0)).set i (Value.slice xa xn xc) = vals (outs ++ [⟨xa, xn, xc, xz⟩]) ++ List.replicate (S - (i + 1)) (Value.slice none 0 0) := by
                  rw [show S - (i + 1) = m from by have := HM.out; omega, vals_app, ← HVL.out]; exact set_next _ _ _ _
                rw [hset] at hst
                refine ⟨i + 1, outs ++ ([⟨xa, xn, xc, xz⟩] : List Wd), by omega, by go_num, ?_, hst.1, ?_, ?_, HT5.out.step hst.2 (.inr (.inl rfl)), (HGS.out.trans (HG5.out.but _)).trans hst.2⟩
                · show _ = _; rw [List.length_append, HOL.out]; rfl
                · intro x hx
                  rcases List.mem_append.1 hx with hx | hx
                  · obtain ⟨h1, h2, h3⟩ := HOG.out x hx
                    exact ⟨h2.grown (Wd.Good.below (B := wr.heap.size) h1 (grown_below' HG5.out) (Nat.le_refl _)) hst.2 (.inl rfl), h2, h3⟩
                  · rw [List.mem_singleton.1 hx]
                    exact ⟨HXO.out.grown HXG.out hst.2 (.inl rfl), HXO.out, HXL.out⟩
                · show _ = _
                  rw [HMT.out, HNX.out]
                  show ((Spec.signsAll ((fs.take S).drop (i + 1))).map (l :: ·)).map _ = _
                  rw [Option.map_map]
                  congr 1
                  funext q
                  have : xz = l := HXZ.out
                  simp [nums, this]
              case measure => simp [intOf]; omega
          · obtain rfl : i = S := by omega
            obtain ⟨ls, hls⟩ : ∃ ls, nums outs = ls := ⟨_, rfl⟩
            have hall : Spec.signsAll (fs.take i) = some ls := by
              rw [HMT.out, List.drop_eq_nil_of_le (by rw [HTK.out]; exact Nat.le_refl _)]
              show some (nums outs ++ []) = _
              rw [List.append_nil, hls]
            have HRUN2 : Hid ((match Spec.costs (fs.drop i) with
                | none => Spec.Sp.no 50
                | some cs => if (tell ls cs).2.2 = true ∧ (tell ls cs).2.1.all Spec.fit = true then ⟨0, (tell ls cs).1, (tell ls cs).2.1⟩ else Spec.Sp.no 60) = s) := by
              show _ = _
              rw [← HRUN.out]; unfold Spec.run; rw [hall]
              cases Spec.costs (fs.drop i) <;> rfl
            have HLS := Lib.hid hls
            have HOWS : Hid (wr.ownsRow W4.heap.size 37 1 (.slice (some ⟨sb, 0, none⟩) i i) i (vals outs)) := by
              have h := HOW.out
              rw [Nat.sub_self, List.replicate_zero, List.append_nil] at h; exact h
            have HRC8 : Hid (wr.ownsRow W4.heap.size 23 1 (.slice (some ⟨cb, 0, none⟩) K K) K (List.replicate K (.int .u64 0))) := HRC7.out.kept HGS.out (.inr (fun e => HNEB.out (Option.some.inj e).symm))
            obtain ⟨W8, hW8⟩ : ∃ W8, wr = W8 := ⟨_, rfl⟩
            have HTW8 : Hid (Two W7 W8 sb cb) := by rw [← hW8]; exact HTW.out
            have HOG8 : Hid (∀ x ∈ outs, x.Good W8 ∧ Ownd sb cb x ∧ x.zs.length ≤ 5000) := by rw [← hW8]; exact HOG.out
            have HOWS8 : Hid (W8.ownsRow W4.heap.size 37 1 (.slice (some ⟨sb, 0, none⟩) i i) i (vals outs)) := by rw [← hW8]; exact HOWS.out
            have HRC8' : Hid (W8.ownsRow W4.heap.size 23 1 (.slice (some ⟨cb, 0, none⟩) K K) K (List.replicate K (.int .u64 0))) := by rw [← hW8]; exact HRC8.out
            have HCB8 : Hid (cb < W8.heap.size) := (HFS.out W8 HTW8.out).2.2.2.2.2.2.2
            subst hW8
            clear hls hall HRUN HOW HRC8 HTW HOG HOWS HMT
            go_wp2
            go_loopw [68] (fun jx wr' => ∃ (j : Nat) (cs : List Int), j ≤ K ∧ jx = .int .i64 (j : Int) ∧ Hid (cs.length = j) ∧ Hid (wr'.ownsRow W4.heap.size 23 1 (.slice (some ⟨cb, 0, none⟩) K K) K (n64s cs ++ List.replicate (K - j) (.int .u64 0))) ∧ Hid (∀ z ∈ cs, (Lit.int .u64 z).wf = true) ∧
              Hid (Spec.costs (fs.drop i) = (Spec.costs ((fs.drop i).drop j)).map (cs ++ ·)) ∧ Hid (Two W7 wr' sb cb) ∧ Hid (wr.grownBy wr' (some cb))) (fun jx _ => K - (intOf jx).toNat)
            case atStart =>
              refine ⟨0, [], Nat.zero_le _, rfl, (by first | trivial | rfl), HRC8'.out, (by first | trivial | (intro z hz; simp at hz)), ?_, HTW8.out, World.grownBy.refl _ _⟩
              show _ = _
              rw [List.drop_zero]
              cases Spec.costs (fs.drop i) <;> simp
            case round =>
              obtain ⟨j, cs, hj, rfl, HCL, HCW, HCF, HMC, HTW', HG8⟩ := hrel
              have HFR' := Lib.hid (HFS.out wr HTW'.out)
              by_cases hlj : j < K
              · have hlji : (j : Int) < (K : Int) := by omega
                have hjM : i + j < M := by have := HMK.out; omega
                have hjMi : (i : Int) + (j : Int) < (M : Int) := by omega
                have hj0 : (0 : Int) ≤ (i : Int) + (j : Int) := by omega
                have hjw : IntKind.i64.wrap ((i : Int) + (j : Int)) = (i : Int) + (j : Int) := by rw [IntKind.wrap_i64]; omega
                have hjn : ((i : Int) + (j : Int)).toNat = i + j := by omega
                obtain ⟨gb, go, a1, n1, c1, z1, rfl, _, hyi, hcell, hsl, hz1⟩ := (HRB.out wr HTW'.out).one (i + j) hjM
                have HSL := Lib.hid hsl
                have hkc : wr.cell? ⟨kb, 0, none⟩ = some (.int .i64 (i : Int)) := by simp [World.cell?, HFR'.out.2.2.2.1]
                obtain ⟨m, hm⟩ : ∃ m, K - j = m + 1 := ⟨K - j - 1, by omega⟩
                have hzi : (fs.drop i).getD j [] = z1 := by
                  rw [← hz1, HFSE.out, List.getD_eq_getElem?_getD, List.getD_eq_getElem?_getD, List.getElem?_drop]
                have hnx := costs_next' (fs := fs.drop i) (i := j) (by rw [HTD.out]; exact hlj)
                rw [hzi] at hnx
                have HVL : Hid ((n64s cs).length = j) := by show _ = _; simp [n64s]; exact HCL.out
                have HM := Lib.hid hm
                have HCWM : Hid (wr.ownsRow W4.heap.size 23 1 (.slice (some ⟨cb, 0, none⟩) K K) K (n64s cs ++ List.replicate (m + 1) (.int .u64 0))) := by have := HCW.out; rw [hm] at this; exact this
                have HNX := Lib.hid hnx
                clear hyi hsl hz1 hzi hnx hm
                go_wp2_with fail
                refine (read_any a1 n1 c1 z1 wr HSL.out).mono ?_
                rintro e v5 ⟨ht5, hb5⟩
                have HOW5 : Hid (v5.ownsRow W4.heap.size 23 1 (.slice (some ⟨cb, 0, none⟩) K K) K (n64s cs ++ List.replicate (m + 1) (.int .u64 0))) := HCWM.out.kept (below_grew7 hb5) (.inr (by simp [Value.ownBlock]))
                have hc5 : v5.cell? ⟨cb, j, none⟩ = some (.int .u64 0) := by
                  rw [HOW5.out.cellAt j (by omega), ← HVL.out]; exact at_next _ _ _
                have hf5 : v5.frozen? ⟨cb, j, none⟩ = false := HOW5.out.frozenAt j
                have HT5 : Hid (Two W7 v5 sb cb) := HTW'.out.step (below_grew7 hb5) (.inl rfl)
                have HG5 : Hid (wr.grownBy v5 none) := below_grew7 hb5
                clear hb5
                rcases ht5 with ⟨d, hd, rfl⟩ | ⟨hd, rfl⟩
                · have hdw : (Lit.int .u64 (d : Int)).wf = true := WalkArith.wf_u64 (by have := (Num.read_some hd).2; omega)
                  have HDW := Lib.hid hdw
                  have HD := Lib.hid hd
                  clear hdw hd
                  go_wp2
                  go_roundw
                  case rel =>
                    have hst := HOW5.out.stored j (.int .u64 (d : Int))
                    have hset : (n64s cs ++ List.replicate (m + 1) (Value.int .u64 0)).set j (Value.int .u64 (d : Int)) = n64s (cs ++ [(d : Int)]) ++ List.replicate (K - (j + 1)) (Value.int .u64 0) := by
                      rw [show K - (j + 1) = m from by have := HM.out; omega, show n64s (cs ++ [(d : Int)]) = n64s cs ++ [Value.int .u64 (d : Int)] from by simp [n64s], ← HVL.out]; exact set_next _ _ _ _
                    rw [hset] at hst
                    refine ⟨j + 1, cs ++ [(d : Int)], by omega, by go_num, ?_, hst.1, ?_, ?_, HT5.out.step hst.2 (.inr (.inr rfl)), (HG8.out.trans (HG5.out.but _)).trans hst.2⟩
                    · show _ = _; rw [List.length_append, HCL.out]; rfl
                    · intro z hz
                      rcases List.mem_append.1 hz with hz | hz
                      · exact HCF.out z hz
                      · rw [List.mem_singleton.1 hz]; exact HDW.out
                    · show _ = _
                      rw [HMC.out, HNX.out, HD.out]
                      show ((Spec.costs ((fs.drop i).drop (j + 1))).map ((d : Int) :: ·)).map _ = _
                      rw [Option.map_map]
                      congr 1
                      funext q
                      simp
                  case measure => simp [intOf]; omega
                · obtain rfl : s = Spec.Sp.no 50 := by
                    rw [← HRUN2.out, HMC.out, HNX.out, hd]; rfl
                  have HE5 : Hid (∀ v, (v5.setCell ⟨cb, j, none⟩ v).heap[w.heap.size]? = some (.cells #[.slice none 0 0, .slice none 0 0] 44 (0, 0)) ∧ Below w.heap.size w (v5.setCell ⟨cb, j, none⟩ v)) := fun v =>
                    have h := HFS.out _ (HT5.out.step (HOW5.out.stored j v).2 (.inr (.inr rfl)))
                    ⟨h.1, h.2.1⟩
                  clear hd
                  go_wp2
                  go_step3
                  exact ⟨rfl, 50, rfl, rfl, rfl, rfl, rfl, (HE5.out _).1, (HE5.out _).2⟩
              · obtain rfl : j = K := by omega
                have hcs : Spec.costs (fs.drop i) = some cs := by
                  rw [HMC.out, List.drop_eq_nil_of_le (by rw [HTD.out]; exact Nat.le_refl _)]
                  show some (cs ++ []) = _
                  rw [List.append_nil]
                have hrun3 : (if (tell ls cs).2.2 = true ∧ (tell ls cs).2.1.all Spec.fit = true then (⟨0, (tell ls cs).1, (tell ls cs).2.1⟩ : Spec.Sp) else Spec.Sp.no 60) = s := by
                  have h := HRUN2.out
                  rw [hcs] at h; exact h
                obtain ⟨B1, R1, OK1, htl⟩ : ∃ B R O, tell ls cs = (B, R, O) := ⟨_, _, _, rfl⟩
                rw [htl] at hrun3
                have HRUN3 : Hid ((if OK1 = true ∧ R1.all Spec.fit = true then (⟨0, B1, R1⟩ : Spec.Sp) else Spec.Sp.no 60) = s) := hrun3
                have HWS : Hid (Ws wr (some ⟨sb, 0, none⟩) i i outs) := by
                  refine Ws.of_owns (HOWS8.out.kept HG8.out (.inr (fun e => HNEB.out (Option.some.inj e)))) (fun x hx => ?_) HOL.out
                  obtain ⟨h1, h2, _⟩ := HOG8.out x hx
                  exact h2.grown h1 HG8.out (.inr rfl)
                have hcw := HCW.out
                rw [Nat.sub_self, List.replicate_zero, List.append_nil] at hcw
                have HCSL : Hid (Sl .u64 wr (some ⟨cb, 0, none⟩) j j cs) := Sl.of_owns (k := .u64) hcw HCF.out HCL.out
                have hcall := HOKK.out.is (some ⟨sb, 0, none⟩) i outs (some ⟨cb, 0, none⟩) j cs wr HWS.out HCSL.out (fun h => by cases h) (fun x hx => (HOG8.out x hx).2.1.formed) (fun x hx => (HOG8.out x hx).2.2)
                rw [HLS.out, htl] at hcall
                have HCALL := Lib.hid hcall
                have hcf := HOKK.out.call
                have hkf : wr.cell? ⟨kb, 2, none⟩ = some (.func (.func fn) #[] #[]) := by simp [World.cell?, HFR'.out.2.2.2.1]
                have HBWR : Hid (Below w.heap.size w wr) := HFR'.out.2.1
                clear hcs hrun3 htl hcw hcall HRUN2 HMC
                go_wp2_with fail
                refine (HCALL.out).mono ?_
                rintro e v5 ⟨ba, bn, bc, qa, rn, qc, xs, rfl, hbs, hbc, hrs, hru, hrc, hb, hown, hfar, hhigh⟩
                have HTB5 : Hid (v5.heap[tb]? = some (.cells #[.slice none 0 0, .slice none 0 0] 44 (0, 0))) := (hb.block _ HFR'.out.2.2.2.2.2.1).trans HFR'.out.2.2.2.2.1
                have HR05 : Hid (v5.heap[w.heap.size]? = some (.cells #[.slice none 0 0, .slice none 0 0] 44 (0, 0))) := (hb.block _ (by have h1 := HLT4.out.1; have h2 := HFR'.out.2.2.1.size; omega)).trans HFR'.out.1
                have HB5 : Hid (Below w.heap.size w v5) := HBWR.out.trans (hb.mono HBWR.out.size)
                have HTR : Hid (tb ≠ w.heap.size) := by
                  have h1 := HTBE.out; have h2 := HLT4.out.1; have h3 := HB46.out.size
                  show _ ≠ _; omega
                have HTW9 : Hid (w.heap.size ≤ tb) := by
                  have h1 := HTBE.out; have h2 := HLT4.out.1; have h3 := HB46.out.size
                  show _ ≤ _; omega
                have HBS := Lib.hid hbs
                have HRS := Lib.hid hrs
                have HBC := Lib.hid hbc
                have HRC := Lib.hid hrc
                have HRU := Lib.hid hru
                have HFARS := Lib.hid hfar
                have HHIGH : Hid (∀ k, k < w.heap.size → ∀ x ∈ xs, x.Far (some k)) := fun k hk => hhigh k (Nat.lt_of_lt_of_le hk HBWR.out.size) (fun z hz => by
                  obtain ⟨h1, h2, _⟩ := HOG8.out z hz
                  rcases h2 with ⟨h3, h4⟩ | ⟨g, h3, h4, h5⟩
                  · exact .inl (by have := h1.2.1; omega)
                  · refine .inr ⟨g, 0, h3, fun e => ?_⟩
                    have e' := Option.some.inj e
                    have h6 := HLT4.out.1
                    have h7 := HLT6.out.2.2.1
                    omega)
                have HOWN : Hid (v5.ownsRow w.heap.size 39 3 (.slice qa rn qc) rn (rcells xs)) := own_mono hown HBWR.out.size
                clear hbs hrs hbc hrc hru hb hown hfar hhigh
                cases OK1
                · obtain rfl : s = Spec.Sp.no 60 := by rw [← HRUN3.out]; rfl
                  go_wp2_with (refine wpList_store_g (by rfl) 44 (.tmp 10) (.tmp 94) (by rfl) tb #[.slice ba bn bc, .slice qa rn qc] (by rfl) (by rfl) 44 #[.slice none 0 0, .slice none 0 0] HTB5.out HI.out rfl (spec_cells _ _ _ _ _ _) ?_
                               intro w6 hw6 hg6 hsz6
                               have HR06 : Hid (w6.heap[w.heap.size]? = some (.cells #[.slice none 0 0, .slice none 0 0] 44 (0, 0))) := (hg6.block _ (Array.getElem?_eq_some_iff.1 HR05.out).1 (fun e => HTR.out (Option.some.inj e).symm)).trans HR05.out
                               have HB6 : Hid (Below w.heap.size w w6) := HB5.out.grown hg6 HB5.out.size (fun k hk => by cases hk; exact HTW9.out)
                               clear hw6 hg6 hsz6)
                  go_step3
                  exact ⟨rfl, 60, rfl, rfl, rfl, rfl, rfl, HR06.out, HB6.out⟩
                · obtain ⟨q, hq⟩ : ∃ q, R1.all Spec.fit = q := ⟨_, rfl⟩
                  have HQ : Hid ((ruls xs).all Spec.fit = q) := by show _ = _; rw [HRU.out]; exact hq
                  have HRUN4 : Hid ((if q = true then (⟨0, B1, R1⟩ : Spec.Sp) else Spec.Sp.no 60) = s) := by
                    show _ = _
                    rw [← HRUN3.out, hq]; simp
                  clear hq HRUN3
                  go_wp2_with (refine wpList_store_g (by rfl) 44 (.tmp 10) (.tmp 94) (by rfl) tb #[.slice ba bn bc, .slice qa rn qc] (by rfl) (by rfl) 44 #[.slice none 0 0, .slice none 0 0] HTB5.out HI.out rfl (spec_cells _ _ _ _ _ _) ?_
                               intro w6 hw6 hg6 hsz6
                               have HR06 : Hid (w6.heap[w.heap.size]? = some (.cells #[.slice none 0 0, .slice none 0 0] 44 (0, 0))) := (hg6.block _ (Array.getElem?_eq_some_iff.1 HR05.out).1 (fun e => HTR.out (Option.some.inj e).symm)).trans HR05.out
                               have HB6 : Hid (Below w.heap.size w w6) := HB5.out.grown hg6 HB5.out.size (fun k hk => by cases hk; exact HTW9.out)
                               have HRS6 : Hid (Rs w6 qa rn qc xs) := rs_kept HRS.out hg6 HTB5.out
                               have HOWN6 : Hid (w6.ownsRow w.heap.size 39 3 (.slice qa rn qc) rn (rcells xs)) := own_kept HOWN.out hg6 HTB5.out
                               have HBS6 : Hid (Sl .u64 w6 ba bn bc B1) := HBS.out.grown hg6 (slf_spec HTB5.out HBS.out)
                               have HW6 := Lib.hid hw6
                               have hc6 : w6.cell? ⟨tb, 1, none⟩ = some (.slice qa rn qc) := by simp [World.cell?, hw6]
                               clear hw6 hg6 hsz6)
                  refine (allFit_is qa rn qc xs q w6 HRS6.out HQ.out).mono ?_
                  rintro e w7 ⟨rfl, hb7⟩
                  have HW7x : Hid (w7.heap[tb]? = some (.cells #[.slice ba bn bc, .slice qa rn qc] 44 (0, 0))) := (hb7.block _ (Array.getElem?_eq_some_iff.1 HW6.out).1).trans HW6.out
                  have HR07 : Hid (w7.heap[w.heap.size]? = some (.cells #[.slice none 0 0, .slice none 0 0] 44 (0, 0))) := (hb7.block _ (Array.getElem?_eq_some_iff.1 HR06.out).1).trans HR06.out
                  have HB7 : Hid (Below w.heap.size w w7) := HB6.out.trans (hb7.mono HB6.out.size)
                  have HRS7x : Hid (Rs w7 qa rn qc xs) := HRS6.out.below hb7 (Nat.le_refl _)
                  have HOWN7 : Hid (w7.ownsRow w.heap.size 39 3 (.slice qa rn qc) rn (rcells xs)) := ownsRow_below HOWN6.out hb7 (Nat.le_refl _)
                  have HBS7 : Hid (Sl .u64 w7 ba bn bc B1) := HBS6.out.below hb7 (Nat.le_refl _)
                  clear hb7 hc6
                  cases q
                  · obtain rfl : s = Spec.Sp.no 60 := by rw [← HRUN4.out]; rfl
                    go_wp2
                    go_step3
                    exact ⟨rfl, 60, rfl, rfl, rfl, rfl, rfl, HR07.out, HB7.out⟩
                  · obtain rfl : s = ⟨0, B1, R1⟩ := by rw [← HRUN4.out]; rfl
                    have HI2 : Hid ((Tryz.prog.info? 44).map (·.size) = some (#[Value.slice ba bn bc, Value.slice qa rn qc]).size) := HI.out
                    go_wp2_with (first
                      | (refine wpList_load_row_w (by rfl) 44 (.tmp 10) (by rfl) tb (by rfl) 44 #[.slice ba bn bc, .slice qa rn qc] (0, 0) _ HW7x.out Tryz.underlying44 (by rfl) HI2.out ?_)
                      | (refine wpList_store_g (by rfl) 44 (.tmp 2) (.tmp 104) (by rfl) w.heap.size #[.slice ba bn bc, .slice qa rn qc] (by rfl) (by rfl) 44 #[.slice none 0 0, .slice none 0 0] HR07.out HI.out rfl (spec_cells _ _ _ _ _ _) ?_
                         intro w8 hw8 hg8 hsz8
                         have HW8 := Lib.hid hw8
                         have HG8x := Lib.hid hg8
                         clear hw8 hg8 hsz8))
                    simp only [Exit.jump]
                    refine bodyPost_ret (results_cell_row_tmp rfl _ _ w.heap.size 44 #[.slice ba bn bc, .slice qa rn qc] (0, 0) _ (by rfl) HW8.out Tryz.underlying44 (by rfl) HI.out) rfl ?_
                    exact ⟨ba, bn, bc, qa, rn, qc, xs, rfl, HBS7.out.grown HG8x.out (slf_spec HR07.out HBS7.out), HBC.out, rs_kept HRS7x.out HG8x.out HR07.out, HRU.out, HRC.out, HB7.out.grown HG8x.out HB7.out.size (fun k hk => by cases hk; exact Nat.le_refl _), own_kept HOWN7.out HG8x.out HR07.out, HFARS.out, HHIGH.out⟩
      · have hneq : ((M : Int) != (S : Int) + (K : Int)) = true := by simp; omega
        have hwr : IntKind.i64.wrap ((S : Int) + (K : Int)) = (S : Int) + (K : Int) := by rw [IntKind.wrap_i64]; omega
        obtain rfl : s = Spec.Sp.no 71 := by rw [← HR.out, hw, if_neg hMK]
        have HKC7a : W7.cell? ⟨kb, 0, none⟩ = some (.int .i64 (S : Int)) := by simp [World.cell?, HF7.out.2.2.2.1]
        have HKC7b : W7.cell? ⟨kb, 1, none⟩ = some (.int .i64 (K : Int)) := by simp [World.cell?, HF7.out.2.2.2.1]
        clear hw HCASE
        go_wp2
        go_step3
        exact ⟨rfl, 71, rfl, rfl, rfl, rfl, rfl, HF7.out.1, HF7.out.2.1⟩
    · obtain rfl : s = Spec.Sp.no 0 := by rw [← hr]; rfl
      go_wp2_with (refine wpList_store_g (by rfl) 44 (.tmp 2) (.tmp 17) (by rfl) w.heap.size #[.slice none 0 0, .slice none 0 0] (by rfl) (by rfl) 44 #[.slice none 0 0, .slice none 0 0] H0v1.out HI.out rfl (spec_cells _ _ _ _ _ _) ?_
                   intro w5 hw5 hgr5 hsz5
                   have HW5 := Lib.hid hw5
                   have HG5 := Lib.hid hgr5
                   have HB5 : Hid (Below w.heap.size w w5) := (HBv1.out.1).grown hgr5 (HBv1.out.1).size (fun k hk => by cases hk; exact Nat.le_refl _)
                   clear hw5 hgr5 hsz5)
      simp only [Exit.jump]
      refine bodyPost_ret (results_cell_row_tmp rfl _ _ w.heap.size 44 #[.slice none 0 0, .slice none 0 0] (0, 0) _ (by rfl) HW5.out Tryz.underlying44 (by rfl) HI.out) rfl ?_
      exact ⟨none, 0, 0, none, 0, 0, [], rfl, Sl.nil, fun _ => rfl, Rs.nil, rfl, fun _ => rfl, HB5.out, owns_nil_rules _ _, (fun x hx => absurd hx List.not_mem_nil), fun _ _ x hx => absurd hx List.not_mem_nil⟩
  · rintro ⟨tm, df⟩ wj ⟨er, rfl, hdf, hsz, h2, h12, HJ0, HBJ⟩
    obtain rfl : df = [] := hdf
    change tm.size = 107 at hsz
    change tm.getD 2 undef = _ at h2
    change tm.getD 12 undef = _ at h12
    rw [act_lit2 tm hsz]
    simp only [List.range, List.range.loop, List.map_cons, List.map_nil]
    rw [h2, h12]
    generalize tm.getD 0 undef = u0 at *
    generalize tm.getD 1 undef = u1 at *
    generalize tm.getD 3 undef = u3 at *
    generalize tm.getD 4 undef = u4 at *
    generalize tm.getD 5 undef = u5 at *
    generalize tm.getD 6 undef = u6 at *
    generalize tm.getD 7 undef = u7 at *
    generalize tm.getD 8 undef = u8 at *
    generalize tm.getD 9 undef = u9 at *
    generalize tm.getD 10 undef = u10 at *
    generalize tm.getD 11 undef = u11 at *
    generalize tm.getD 13 undef = u13 at *
    generalize tm.getD 14 undef = u14 at *
    generalize tm.getD 15 undef = u15 at *
    generalize tm.getD 16 undef = u16 at *
    generalize tm.getD 17 undef = u17 at *
    generalize tm.getD 18 undef = u18 at *
    generalize tm.getD 19 undef = u19 at *
    generalize tm.getD 20 undef = u20 at *
    generalize tm.getD 21 undef = u21 at *
    generalize tm.getD 22 undef = u22 at *
    generalize tm.getD 23 undef = u23 at *
    generalize tm.getD 24 undef = u24 at *
    generalize tm.getD 25 undef = u25 at *
    generalize tm.getD 26 undef = u26 at *
    generalize tm.getD 27 undef = u27 at *
    generalize tm.getD 28 undef = u28 at *
    generalize tm.getD 29 undef = u29 at *
    generalize tm.getD 30 undef = u30 at *
    generalize tm.getD 31 undef = u31 at *
    generalize tm.getD 32 undef = u32 at *
    generalize tm.getD 33 undef = u33 at *
    generalize tm.getD 34 undef = u34 at *
    generalize tm.getD 35 undef = u35 at *
    generalize tm.getD 36 undef = u36 at *
    generalize tm.getD 37 undef = u37 at *
    generalize tm.getD 38 undef = u38 at *
    generalize tm.getD 39 undef = u39 at *
    generalize tm.getD 40 undef = u40 at *
    generalize tm.getD 41 undef = u41 at *
    generalize tm.getD 42 undef = u42 at *
    generalize tm.getD 43 undef = u43 at *
    generalize tm.getD 44 undef = u44 at *
    generalize tm.getD 45 undef = u45 at *
    generalize tm.getD 46 undef = u46 at *
    generalize tm.getD 47 undef = u47 at *
    generalize tm.getD 48 undef = u48 at *
    generalize tm.getD 49 undef = u49 at *
    generalize tm.getD 50 undef = u50 at *
    generalize tm.getD 51 undef = u51 at *
    generalize tm.getD 52 undef = u52 at *
    generalize tm.getD 53 undef = u53 at *
    generalize tm.getD 54 undef = u54 at *
    generalize tm.getD 55 undef = u55 at *
    generalize tm.getD 56 undef = u56 at *
    generalize tm.getD 57 undef = u57 at *
    generalize tm.getD 58 undef = u58 at *
    generalize tm.getD 59 undef = u59 at *
    generalize tm.getD 60 undef = u60 at *
    generalize tm.getD 61 undef = u61 at *
    generalize tm.getD 62 undef = u62 at *
    generalize tm.getD 63 undef = u63 at *
    generalize tm.getD 64 undef = u64 at *
    generalize tm.getD 65 undef = u65 at *
    generalize tm.getD 66 undef = u66 at *
    generalize tm.getD 67 undef = u67 at *
    generalize tm.getD 68 undef = u68 at *
    generalize tm.getD 69 undef = u69 at *
    generalize tm.getD 70 undef = u70 at *
    generalize tm.getD 71 undef = u71 at *
    generalize tm.getD 72 undef = u72 at *
    generalize tm.getD 73 undef = u73 at *
    generalize tm.getD 74 undef = u74 at *
    generalize tm.getD 75 undef = u75 at *
    generalize tm.getD 76 undef = u76 at *
    generalize tm.getD 77 undef = u77 at *
    generalize tm.getD 78 undef = u78 at *
    generalize tm.getD 79 undef = u79 at *
    generalize tm.getD 80 undef = u80 at *
    generalize tm.getD 81 undef = u81 at *
    generalize tm.getD 82 undef = u82 at *
    generalize tm.getD 83 undef = u83 at *
    generalize tm.getD 84 undef = u84 at *
    generalize tm.getD 85 undef = u85 at *
    generalize tm.getD 86 undef = u86 at *
    generalize tm.getD 87 undef = u87 at *
    generalize tm.getD 88 undef = u88 at *
    generalize tm.getD 89 undef = u89 at *
    generalize tm.getD 90 undef = u90 at *
    generalize tm.getD 91 undef = u91 at *
    generalize tm.getD 92 undef = u92 at *
    generalize tm.getD 93 undef = u93 at *
    generalize tm.getD 94 undef = u94 at *
    generalize tm.getD 95 undef = u95 at *
    generalize tm.getD 96 undef = u96 at *
    generalize tm.getD 97 undef = u97 at *
    generalize tm.getD 98 undef = u98 at *
    generalize tm.getD 99 undef = u99 at *
    generalize tm.getD 100 undef = u100 at *
    generalize tm.getD 101 undef = u101 at *
    generalize tm.getD 102 undef = u102 at *
    generalize tm.getD 103 undef = u103 at *
    generalize tm.getD 104 undef = u104 at *
    generalize tm.getD 105 undef = u105 at *
    generalize tm.getD 106 undef = u106 at *
    clear hsz h2 h12 tm
    go_wp2_with (refine wpList_store_g (by rfl) 44 (.tmp 2) (.tmp 105) (by rfl) w.heap.size #[.slice none 0 0, .slice none 0 0] (by rfl) (by rfl) 44 #[.slice none 0 0, .slice none 0 0] HJ0.out HI.out rfl (spec_cells _ _ _ _ _ _) ?_
                 intro w5 hw5 hgr5 hsz5
                 have HW5 := Lib.hid hw5
                 have HG5 := Lib.hid hgr5
                 have HB5 : Hid (Below w.heap.size w w5) := (HBJ.out).grown hgr5 (HBJ.out).size (fun k hk => by cases hk; exact Nat.le_refl _)
                 clear hw5 hgr5 hsz5)
    simp only [Exit.jump]
    refine bodyPost_ret (results_cell_row_tmp rfl _ _ w.heap.size 44 #[.slice none 0 0, .slice none 0 0] (0, 0) _ (by rfl) HW5.out Tryz.underlying44 (by rfl) HI.out) rfl ?_
    exact ⟨none, 0, 0, none, 0, 0, [], rfl, Sl.nil, fun _ => rfl, Rs.nil, rfl, fun _ => rfl, HB5.out, owns_nil_rules _ _, (fun x hx => absurd hx List.not_mem_nil), fun _ _ x hx => absurd hx List.not_mem_nil⟩

end Go.Proofs.YtjmabjeaodojeaaGreat
