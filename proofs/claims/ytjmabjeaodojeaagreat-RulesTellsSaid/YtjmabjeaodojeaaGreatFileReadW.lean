/- Used by the law. -/
import Derived.Test.YtjmabjeaodojeaaGreatFileJoin
import Derived.Test.YtjmabjeaodojeaaGreatSpecReadW
namespace Go.Proofs.YtjmabjeaodojeaaGreat
open Go Go.RowKit

def GotIs (w w' : World) (e : Ending) (g : File.Got) : Prop :=
  ∃ c : Cw, e = .returned (.tuple #[c.v, .int .i64 g.at_, .int .i64 g.e]) ∧ c.c = g.c ∧ c.Good w' ∧ (c.a = none → c.cap = 0) ∧ c.n ≤ 200 ∧ Below w.heap.size w w'

theorem results_cell_row_tmp2 {P : Program} {fn : Func} {p u v : Tmp} {ty : TypeId} (h : fn.results = #[.cell p ty, .tmp u, .tmp v]) (tmps : Array Value) (w : World) (g : Nat) (t : TypeId) (cs : Array Value) (fr : Nat × Nat) (d : TypeDesc)
    (hp : tmps.getD p undef = .pointer (some ⟨g, 0, none⟩)) (hg : w.heap[g]? = some (.cells cs t fr))
    (hu : P.underlying ty = some d) (hd : (match d with | .struct _ | .array _ _ => true | _ => false) = true) (hi : (P.info? ty).map (·.size) = some cs.size) :
    (results fn tmps).run P w = .ok (.tuple #[.agg cs, tmps.getD u undef, tmps.getD v undef]) w := by
  have hp' : tmps[p]?.getD undef = .pointer (some ⟨g, 0, none⟩) := by simpa using hp
  simp [results, h, hp', asAddr, run_loadVar_row w g t ty cs fr d hg hu hd hi]
section
variable {o : Oper} {a : Act} {w : World} {x0 x1 x2 x3 x4 : Operand}
set_option maxRecDepth 100000 in
theorem run_idxU {b n c : Nat} (k : Nat) (hk : k < n ∧ k < 4) (ho : o.op = .indexAddr 40 x0 (.const (.int .i64 (k : Int)))) (hx : a.eval x0 = .slice (some ⟨b, 0, none⟩) n c) : (execOp a.eval o).run Tryz.prog w = .ok (.value (.pointer (some ⟨b, k, none⟩))) w := by
  have hk' : (k : Int) < (n : Int) := by omega
  simp only [execOp, ho, hx]
  go_simp
set_option maxRecDepth 100000 in
theorem run_costs5 {m l q t : Int} {p : Option Addr} {n c : Nat} (ho : o.op = .build 26 #[(0, x0), (1, x1), (2, x2), (3, x3), (4, x4)]) (h0 : a.eval x0 = .int .u64 m) (h1 : a.eval x1 = .int .u64 l) (h2 : a.eval x2 = .int .u64 q) (h3 : a.eval x3 = .int .u64 t) (h4 : a.eval x4 = .slice p n c) :
    (execOp a.eval o).run Tryz.prog w = .ok (.value (.agg #[.int .u64 m, .int .u64 l, .int .u64 q, .int .u64 t, .slice p n c])) w := by
  have h : (Instr.build 26 #[(0, .int .u64 m), (1, .int .u64 l), (2, .int .u64 q), (3, .int .u64 t), (4, .slice p n c)]).run Tryz.prog w = .ok (.agg #[.int .u64 m, .int .u64 l, .int .u64 q, .int .u64 t, .slice p n c]) w := by go_simp
  simp [execOp, ho, h0, h1, h2, h3, h4, h, Result.andThen]
end
set_option maxRecDepth 100000 in
theorem size_u64 : (Tryz.prog.info? 23).map (·.size) = some 1 := by kernel_rfl
set_option maxRecDepth 100000 in
theorem wpList_copy_base {ops : Array Oper} {rest : List Oper} {o : Oper} {act : Act} {w : World} {Q : Exit → Act → World → Prop} (hgd : o.guard = none) (d s : Operand)
    (ho : o.op = .call { callee := .builtin .copy, args := #[d, s], argTypes := #[40, 40] }) (g : Nat) (bs cs : List Int) (sp : Option Addr) (sCap : Nat) (hd : act.eval d = .slice (some ⟨g, 0, none⟩) 4 4) (hs : act.eval s = .slice sp 4 sCap)
    (hg : w.heap[g]? = some (.cells (n64s bs).toArray 23 (0, 0))) (hb : bs.length = 4) (hc : Sl .u64 w sp 4 sCap cs)
    (h : ∀ w', w'.heap[g]? = some (.cells (n64s cs).toArray 23 (0, 0)) → w.grownBy w' (some g) → wpList Tryz.prog ops Q rest (act.put o.dst (goInt 4)) w') : wpList Tryz.prog ops Q (o :: rest) act w := by
  have hcl := hc.1
  obtain ⟨b, off, rfl, _, hcc⟩ := hc.at (by omega)
  have hrun := run_copy_row (P := Tryz.prog) w 40 40 o.type 23 g 0 4 4 ⟨b, off, none⟩ 4 sCap (n64s bs).toArray 23 (n64s cs) Tryz.underlying40 size_u64 hg (by simp [n64s, hcl])
    (fun j v hj => by
      have hjl : j < cs.length := by
        rcases Nat.lt_or_ge j cs.length with hlt | hge
        · exact hlt
        · simp [n64s, List.getElem?_eq_none hge] at hj
      have := hcc j (by omega)
      rw [show (⟨b, off, none⟩ : Addr).add j = ⟨b, off + j, none⟩ from by simp [Addr.add], this]
      simp [n64s, hjl] at hj
      rw [← hj]; simp [hjl]) (by simp [n64s, hcl, hb]) (by intro v hv; unfold n64s at hv; obtain ⟨z, _, rfl⟩ := List.mem_map.1 hv; rfl)
  have e9 : (n64s bs).toArray.toList.take 0 ++ n64s cs ++ (n64s bs).toArray.toList.drop (0 + (n64s cs).length) = n64s cs := by
    rw [List.drop_eq_nil_of_le (by simp [n64s, hcl, hb])]; simp
  rw [e9, show (n64s cs).length = 4 by simp [n64s, hcl]] at hrun
  refine wpList_step fun K hK => ?_
  rw [if_pos (by simp [Region.wanted, hgd])]
  unfold Oper.wp
  simp [execOp, ho, resolve, invoke, builtin, hd, hs, hrun, Result.andThen]
  exact hK _ _ (h _ (setRow_heap w g _ _ _ _ hg) ⟨rfl, rfl, rfl, by simp, fun k _ hk => setRow_other _ _ _ _ (fun e => hk (by rw [e]))⟩)

/-! ### how many rules a line tells -/
theorem keysG_len (c : Int) : ∀ (l : List Int) (row : Nat) (p : Int), (Spec.keysG c row p l).length ≤ 2 * l.length
  | [], _, _ => by simp [Spec.keysG]
  | x :: l, row, p => by
    unfold Spec.keysG
    split
    · have := keysG_len c l 0 x; simp; omega
    · have := keysG_len c l (row + 1) x
      rw [List.length_append]
      split
      · simp [Spec.both]; omega
      · simp; omega
theorem told_len (ok : Bool) (rs : List Rul) : (Spec.told ok rs).rules.length ≤ rs.length := by
  unfold Spec.told; split
  · exact Nat.le_refl _
  · simp [Spec.Sp.no]
theorem mapsA_len (c a : Int) : ∀ l : List Int, (Spec.mapsA c a l).length ≤ l.length
  | [] => by simp [Spec.mapsA]
  | x :: l => by
    have := mapsA_len c a l
    have e : Spec.mapsA c a (x :: l) = (if a ≠ x then [⟨[a], [x], c⟩] else []) ++ Spec.mapsA c a l := by unfold Spec.mapsA; rw [List.flatMap_cons]
    rw [e, List.length_append]
    split
    · simp; omega
    · simp; omega
theorem mapsG_len (c : Int) (m l : List Int) : (m.flatMap fun a => Spec.mapsA c a l).length ≤ m.length * l.length := by
  induction m with
  | nil => simp
  | cons x m ih =>
    rw [List.flatMap_cons, List.length_append, List.length_cons, Nat.succ_mul]
    have := mapsA_len c x l
    omega
theorem signs_len {zs l : List Int} (h : Spec.signs zs = some l) : l.length ≤ zs.length := by
  obtain ⟨h1, h2⟩ := Spec.signs_some h
  rw [← h2]; exact Utf.put_length_ge l
theorem nth_len {f : List (List Int)} {K k : Nat} (h : ∀ x ∈ f, x.length ≤ K) : (f.getD k []).length ≤ K := by
  rw [List.getD_eq_getElem?_getD]
  cases hk : f[k]? with
  | none => simp
  | some x => exact h x (List.mem_of_getElem? hk)
set_option maxRecDepth 100000 in
theorem read_len (l : List Int) : (Spec.read l).rules.length ≤ 2 * l.length + 144 := by
  have hf : ∀ x ∈ Line.fields l, x.length ≤ l.length := fun x hx => fields_short x hx
  unfold Spec.read
  split
  · simp [Spec.Sp.no]
  · unfold Spec.byWord
    split
    · split
      · unfold Spec.base; split <;> simp [Spec.Sp.no]
      · simp [Spec.Sp.no]
    · split
      · split
        · unfold Spec.rep
          split
          · refine Spec.last_rules (P := fun s => s.rules.length ≤ 2 * l.length + 144) (by simp [Spec.Sp.no]) fun c _ => Nat.le_trans (told_len _ _) (by simp)
          · simp [Spec.Sp.no]
        · simp [Spec.Sp.no]
      · split
        · split
          · unfold Spec.key
            split
            · rename_i a ha
              refine Spec.last_rules (P := fun s => s.rules.length ≤ 2 * l.length + 144) (by simp [Spec.Sp.no]) fun c _ => Nat.le_trans (told_len _ _) ?_
              have h1 := keysG_len (c : Int) a 0 0
              have h2 := signs_len ha
              have h3 := nth_len (k := 1) hf
              omega
            · simp [Spec.Sp.no]
          · simp [Spec.Sp.no]
        · split
          · split
            · unfold Spec.map
              split
              · rename_i a ha
                refine Spec.last_rules (P := fun s => s.rules.length ≤ 2 * l.length + 144) (by simp [Spec.Sp.no]) fun c _ => ?_
                unfold Spec.told
                split
                · rename_i hok
                  have h1 : a.length ≤ 12 := by
                    have := hok.1
                    unfold Spec.mapsOk at this
                    simp only [Bool.and_eq_true, decide_eq_true_eq] at this
                    exact this.1
                  have h2 := mapsG_len (c : Int) a a
                  have h3 : a.length * a.length ≤ 12 * 12 := Nat.mul_le_mul h1 h1
                  show (Spec.mapsG (c : Int) a).length ≤ _
                  unfold Spec.mapsG
                  omega
                · simp [Spec.Sp.no]
              · simp [Spec.Sp.no]
            · simp [Spec.Sp.no]
          · simp [Spec.Sp.no]

/-! ### Read -/
def RInv (w W4 wr : World) (a : Option Addr) (n cap : Nat) (xs : List Rw) (bs : List Int) : Prop :=
  wr.ownsRow W4.heap.size 39 3 (.slice a n cap) n (rcells xs) ∧ xs.length = n ∧ (∀ x ∈ xs, x.Good wr) ∧ (∀ x ∈ xs, x.Far (Value.slice a n cap).ownBlock) ∧ nrm (ruls xs) = ruls xs ∧ (a = none → cap = 0) ∧
    wr.heap[w.heap.size + 1]? = some (.cells (n64s bs).toArray 23 (0, 0)) ∧ bs.length = 4 ∧ (∀ z ∈ bs, 0 ≤ z ∧ z < 18446744073709551616) ∧ W4.grownBy wr (some (w.heap.size + 1))
set_option maxRecDepth 100000 in
theorem info_cost5 : (Tryz.prog.info? 26).map (·.size) = some 5 := by kernel_rfl
theorem slf_no {k : IntKind} {wr : World} {g : Nat} {cs : Array Value} {t : TypeId} {fr : Nat × Nat} {a : Option Addr} {n c : Nat} {zs : List Int} (h : Sl k wr a n c zs) (hs : wr.heap[g]? = some (.cells cs t fr)) (hno : ∀ (i : Nat) (z : Int), cs[i]? ≠ some (Value.int k z)) : Slf (some g) a n := by
  rcases Nat.eq_zero_or_pos n with h0 | hp
  · exact .inl h0
  · obtain ⟨b, off, ha, _, hc⟩ := h.at hp
    refine .inr ⟨b, off, ha, fun e => ?_⟩
    obtain rfl := Option.some.inj e
    have := hc 0 hp
    simp [World.cell?, hs] at this
    exact hno _ _ this
theorem n64_no {k : IntKind} (hk : k ≠ .u64) (bs : List Int) : ∀ (i : Nat) (z : Int), (n64s bs).toArray[i]? ≠ some (Value.int k z) := by
  intro i z h
  rw [List.getElem?_toArray] at h
  unfold n64s at h
  rw [List.getElem?_map] at h
  cases hq : bs[i]? with
  | none => rw [hq] at h; cases h
  | some y => rw [hq] at h; simp at h; exact hk h.1.symm
theorem costs_no (a b c d : Int) (p : Option Addr) (n q : Nat) : ∀ (i : Nat) (z : Int), (#[Value.int .u64 a, Value.int .u64 b, Value.int .u64 c, Value.int .u64 d, Value.slice p n q] : Array Value)[i]? ≠ some (Value.int .i64 z) := by
  intro i z h
  match i, h with
  | 0, h => simp at h
  | 1, h => simp at h
  | 2, h => simp at h
  | 3, h => simp at h
  | 4, h => simp at h
  | i + 5, h => simp at h
theorem Rw.Good.apart {wr wr' : World} {x : Rw} {g : Nat} {cs : Array Value} {t : TypeId} {fr : Nat × Nat} (h : x.Good wr) (hg : wr.grownBy wr' (some g)) (hs : wr.heap[g]? = some (.cells cs t fr)) (hno : ∀ (i : Nat) (z : Int), cs[i]? ≠ some (Value.int .i64 z)) : x.Good wr' :=
  h.grown hg ⟨slf_no h.1 hs hno, slf_no h.2.1 hs hno⟩

theorem RInv.below {w W4 wr wr' : World} {a : Option Addr} {n cap : Nat} {xs : List Rw} {bs : List Int} (h : RInv w W4 wr a n cap xs bs) (hb : Below wr.heap.size wr wr') : RInv w W4 wr' a n cap xs bs := by
  obtain ⟨h1, h2, h3, h4, h5, h6, h7, h8, h9, h10⟩ := h
  exact ⟨ownsRow_below h1 hb (Nat.le_refl _), h2, fun x hx => (h3 x hx).below hb (Nat.le_refl _), h4, h5, h6, (hb.block _ (Array.getElem?_eq_some_iff.1 h7).1).trans h7, h8, h9, h10.trans ((below_grew7 hb).but _)⟩
set_option maxRecDepth 100000 in
theorem RInv.copied {w W4 wr wr' : World} {a : Option Addr} {n cap : Nat} {xs : List Rw} {bs cs : List Int} (h : RInv w W4 wr a n cap xs bs) (h4 : w.heap.size + 2 ≤ W4.heap.size) (hg : wr.grownBy wr' (some (w.heap.size + 1))) (hs : wr'.heap[w.heap.size + 1]? = some (.cells (n64s cs).toArray 23 (0, 0)))
    (hc : cs.length = 4) (hcs : ∀ z ∈ cs, 0 ≤ z ∧ z < 18446744073709551616) : RInv w W4 wr' a n cap xs cs := by
  obtain ⟨h1, h2, h3, h4', h5, h6, h7, h8, h9, h10⟩ := h
  refine ⟨h1.kept hg ?_, h2, fun x hx => (h3 x hx).apart hg h7 (n64_no (by decide) bs), h4', h5, h6, hs, hc, hcs, h10.trans hg⟩
  cases hob : (Value.slice a n cap).ownBlock with
  | none => exact .inl rfl
  | some b => exact .inr (fun e => by have := (h1.lt b hob).1; have := Option.some.inj e; omega)

set_option maxRecDepth 100000 in
theorem join_line {w W4 wr X : World} {a1 : Option Addr} {n1 c1 : Nat} {xs : List Rw} {bs bs' : List Int} {ra : Option Addr} {rn rc : Nat} {ys : List Rw} (hI : RInv w W4 wr a1 n1 c1 xs bs) (hn1 : n1 ≤ 200) (hIX : RInv w W4 X a1 n1 c1 xs bs') (h4 : w.heap.size + 2 ≤ W4.heap.size)
    (hown : X.ownsRow wr.heap.size 39 3 (.slice ra rn rc) rn (rcells ys)) (hg : ∀ y ∈ ys, y.Good X) (hl : ys.length = rn) (hfar : ∀ y ∈ ys, y.Far (Value.slice ra rn rc).ownBlock) (hhigh : ∀ k, k < wr.heap.size → ∀ y ∈ ys, y.Far (some k)) (hrn : rn ≤ 15000) :
    Calls Tryz.prog 15 #[.slice a1 n1 c1, .slice ra rn rc] X fun e X' => ∃ n3 a3 c3 zs, e = .returned (.slice a3 n3 c3) ∧ ruls zs = nrm (ruls xs ++ ruls ys) ∧ n3 ≤ c3 ∧ c3 ≤ maxLen ∧ RInv w W4 X' a3 n3 c3 zs bs' := by
  have hsz : W4.heap.size ≤ wr.heap.size := hI.2.2.2.2.2.2.2.2.2.size
  obtain ⟨h1, h2, h3, h4', h5, h6, h7, h8, h9, h10⟩ := hIX
  refine (join_is W4.heap.size a1 n1 c1 xs ra rn rc ys X h1 h2 h3 h4' (fun b hb e => ?_) (fun b hb x hx => ?_) hn1 h5 h6 (own_mono hown hsz) hl hg hfar (fun b hb y hy => hhigh b (hI.1.lt b hb).2 y hy) hrn h10.size).mono ?_
  · have e1 := (hown.lt b hb).1
    have e2 := (hI.1.lt b e).2
    omega
  · have hx' := hI.2.2.1 x hx
    exact ⟨Slf.fresh hx'.1 (hown.lt b hb).1, Slf.fresh hx'.2.1 (hown.lt b hb).1⟩
  · rintro e X' ⟨n3, a3, c3, zs, rfl, hrs, hown3, hru, hnil, hb3, hfo⟩
    have hb3' : X.grownBy X' (some (w.heap.size + 1)) → True := fun _ => trivial
    refine ⟨n3, a3, c3, zs, rfl, hru, hrs.2.1, hrs.2.2.1, hown3, hrs.1, hrs.2.2.2.1, hfo, by rw [hru, nrm_nrm], hnil, (hb3.block _ (by omega)).trans h7, h8, h9, ?_⟩
    have h11 := h10.size
    exact ⟨hb3.os.trans h10.os, hb3.tape.trans h10.tape, hb3.output.trans h10.output, Nat.le_trans h11 hb3.size, fun k hk hne => (hb3.block k hk).trans (h10.block k hk hne)⟩

set_option maxRecDepth 100000 in
theorem readA_step {i : Nat} {had : Bool} {bs : List Int} {rs : List Rul} {ls : List (List Int)} {z : List Int} {s : Spec.Sp} {g : File.Got} (h : File.readA i had bs rs (ls.drop i) = g) (hi : i < ls.length) (hz : ls.getD i [] = z) (hs : Spec.read z = s) :
    (if s.e ≠ 0 then (⟨File.Cst.zero, (i : Int), s.e⟩ : File.Got) else if s.base ≠ [] ∧ had = true then ⟨File.Cst.zero, (i : Int), 80⟩ else if 200 < (nrm (rs ++ s.rules)).length then ⟨File.Cst.zero, (i : Int), 81⟩
      else File.readA (i + 1) (had || !decide (s.base = [])) (if s.base = [] then bs else s.base) (nrm (rs ++ s.rules)) (ls.drop (i + 1))) = g := by
  rw [dropD hi, hz] at h
  unfold File.readA at h
  rw [hs] at h
  exact h
theorem got_zero {w w' : World} {i : Nat} {e' : Int} {e : Ending} {g : File.Got} (hg : (⟨File.Cst.zero, (i : Int), e'⟩ : File.Got) = g) (he : e = .returned (.tuple #[.agg #[Value.int .u64 0, Value.int .u64 0, Value.int .u64 0, Value.int .u64 0, Value.slice none 0 0], .int .i64 (i : Int), .int .i64 e'])) (hb : Below w.heap.size w w') : GotIs w w' e g := by
  subst hg
  exact ⟨⟨0, 0, 0, 0, none, 0, 0, []⟩, he, rfl, ⟨Rs.nil, by simp [Cw.base]⟩, fun _ => rfl, by simp, hb⟩

set_option maxHeartbeats 12800000 in
set_option maxRecDepth 100000 in
theorem fread_is (a0 : Option Addr) (n0 cap0 : Nat) (zs : List Int) (g : File.Got) (w : World) (hs : Sl .u8 w a0 n0 cap0 zs) (hnil : a0 = none → cap0 = 0) (hn : n0 ≤ 1000000) (hsh : ∀ x ∈ Line.split zs, x.length ≤ 5000) (hr : File.read zs = g) :
    Calls Tryz.prog 6 #[.slice a0 n0 cap0] w fun e w' => GotIs w w' e g := by
  have HS := Lib.hid hs
  have HNIL := Lib.hid hnil
  have HSH := Lib.hid hsh
  obtain ⟨ls, hls⟩ : ∃ ls, Line.split zs = ls := ⟨_, rfl⟩
  unfold File.read at hr
  rw [hls] at hr
  have HR := Lib.hid hr
  have HLS := Lib.hid hls
  have HI5z : Hid ((Tryz.prog.info? 26).map (·.size) = some (#[Value.int .u64 0, Value.int .u64 0, Value.int .u64 0, Value.int .u64 0, Value.slice none 0 0]).size) := info_cost5
  have hmx : Tryz.prog.follows .mixedOrders = true := by kernel_rfl
  have HMX := Lib.hid hmx
  have HW0 : ∀ o1 o2 W, Below ((w.alloc o1).alloc o2).heap.size ((w.alloc o1).alloc o2) W → Hid (W.heap[w.heap.size]? = some o1 ∧ W.heap[w.heap.size + 1]? = some o2 ∧ Below w.heap.size w W ∧ w.heap.size + 2 ≤ W.heap.size) := fun o1 o2 W h => by
    have e1 : (w.alloc o1).heap.size = w.heap.size + 1 := World.size_alloc w o1
    have e2 : ((w.alloc o1).alloc o2).heap.size = w.heap.size + 2 := by rw [World.size_alloc, e1]
    have f1 : ((w.alloc o1).alloc o2).heap[w.heap.size]? = some o1 := ((World.grownBy_alloc (w.alloc o1) o2 none).block _ (by omega) (by simp)).trans (heap_alloc_new w o1)
    have f2 : ((w.alloc o1).alloc o2).heap[w.heap.size + 1]? = some o2 := by rw [← e1]; exact heap_alloc_new _ _
    refine ⟨(h.block _ (by omega)).trans f1, (h.block _ (by omega)).trans f2, (((Below.refl w.heap.size w).alloc (Nat.le_refl _) o1).alloc (by omega) o2).trans (h.mono (by omega)), ?_⟩
    have := h.size; omega
  clear hs hnil hsh hr hls hmx
  go_enter Tryz.func6, Tryz.ntmps6
  go_wp2_with fail
  refine (split_own a0 n0 cap0 zs _ ((HS.out.alloc _).alloc _) HNIL.out hn).mono ?_
  rintro e W4 ⟨la, M, lc, rows, rfl, hrows, hbn, -, hb4, hform⟩
  obtain ⟨hz4, hs4, hbw4, hsz4⟩ := (HW0 _ _ W4 hb4).out
  have HZ4 : Hid (W4.heap[w.heap.size]? = some (.cells #[Value.int .u64 0, Value.int .u64 0, Value.int .u64 0, Value.int .u64 0, Value.slice none 0 0] 26 (0, 0))) := hz4
  have HS4 : Hid (W4.heap[w.heap.size + 1]? = some (.cells (n64s [1, 1, 1, 1]).toArray 23 (0, 0))) := hs4
  have HBW4 := Lib.hid hbw4
  have HSZ4 := Lib.hid hsz4
  have HROWS := Lib.hid hrows
  have HBN : Hid (bnums rows = ls) := by show _ = _; rw [hbn, HLS.out]
  have HFORM := Lib.hid hform
  have HLM : Hid (ls.length = M) := by show _ = _; rw [← HBN.out, bnums_length, hrows.1]
  have hlcm := hrows.2.2.1
  have hMlc := hrows.2.1
  unfold maxLen at hlcm
  clear hz4 hs4 hbw4 hsz4 hrows hbn hform hb4 HW0
  go_wp2
  go_loopw [5, 7, 16] (fun rv sv ix wr => ∃ (i : Nat) (a1 : Option Addr) (n1 c1 : Nat) (xs : List Rw) (had : Bool) (bs : List Int), i ≤ M ∧ rv = .slice a1 n1 c1 ∧ sv = .bool had ∧ ix = .int .i64 (i : Int) ∧ n1 ≤ 200 ∧ Hid (RInv w W4 wr a1 n1 c1 xs bs) ∧ Hid (File.readA i had bs (ruls xs) (ls.drop i) = g)) (fun _ _ ix _ => M - (intOf ix).toNat)
  case atStart =>
    refine ⟨0, none, 0, 0, [], false, [1, 1, 1, 1], Nat.zero_le _, rfl, rfl, rfl, by omega, ⟨owns_nil_rules _ _, rfl, by simp, by simp, rfl, fun _ => rfl, HS4.out, rfl, by simp, World.grownBy.refl _ _⟩, ?_⟩
    show File.readA 0 false [1, 1, 1, 1] (ruls []) (ls.drop 0) = g
    rw [List.drop_zero]; exact HR.out
  case round =>
    obtain ⟨i, a1, n1, c1, xs, had, bs, hi, rfl, rfl, rfl, hn1, HINV, HREAD⟩ := hrel
    have HW4R : Hid (W4.grownBy wr (some (w.heap.size + 1))) := HINV.out.2.2.2.2.2.2.2.2.2
    have HZR : Hid (wr.heap[w.heap.size]? = some (.cells #[Value.int .u64 0, Value.int .u64 0, Value.int .u64 0, Value.int .u64 0, Value.slice none 0 0] 26 (0, 0))) := (HW4R.out.block _ (Array.getElem?_eq_some_iff.1 HZ4.out).1 (by simp)).trans HZ4.out
    have HBWR : Hid (Below w.heap.size w wr) := HBW4.out.grown HW4R.out HBW4.out.size (fun k hk => by cases hk; exact Nat.le_succ _)
    by_cases hlt : i < M
    · obtain ⟨b1, o1, za, zn, zc, z, rfl, hb1, hgd, hcl, hsl, hz⟩ := HROWS.out.one i hlt
      have hzl : ls.getD i [] = z := by rw [← HBN.out]; exact hz
      have hzin : z ∈ ls := by rw [← hzl, List.getD_eq_getElem?_getD, List.getElem?_eq_getElem (by rw [HLM.out]; exact hlt), Option.getD_some]; exact List.getElem_mem _
      have hzlen : z.length ≤ 5000 := HSH.out z (by rw [HLS.out]; exact hzin)
      have hb1s : b1 ≠ w.heap.size + 1 := fun e => by
        subst e
        simp only [World.cell?, HS4.out] at hcl
        rw [List.getElem?_toArray] at hcl
        unfold n64s at hcl
        rw [List.getElem?_map] at hcl
        cases hq : ([1, 1, 1, 1] : List Int)[o1 + i]? with
        | none => rw [hq] at hcl; cases hcl
        | some y => rw [hq] at hcl; simp at hcl
      have hcl' : wr.cell? ⟨b1, o1 + i, none⟩ = some (.slice za zn zc) := HW4R.out.cell hcl (fun e => hb1s (Option.some.inj e))
      have HSL : Hid (Sl .u8 wr za zn zc z) := hsl.grown HW4R.out (slf_no hsl HS4.out (n64_no (by decide) _))
      have HZN : Hid (za = none → zc = 0) := fun e => by
        have hm : rows.getD i Bd.no ∈ rows := by rw [List.getD_eq_getElem?_getD, List.getElem?_eq_getElem (by rw [HROWS.out.1]; exact hlt), Option.getD_some]; exact List.getElem_mem _
        obtain ⟨b, hb⟩ := HFORM.out _ hm
        rw [hgd] at hb
        simp only at hb
        rw [e] at hb; cases hb
      obtain ⟨s, hsr⟩ : ∃ s, Spec.read z = s := ⟨_, rfl⟩
      have HSR := Lib.hid hsr
      have HSTEP := Lib.hid (readA_step HREAD.out (by rw [HLM.out]; exact hlt) hzl hsr)
      have hznl : zn ≤ 100000 := by have : z.length = zn := hsl.1; omega
      have HFLD : Hid (∀ x ∈ Line.fields z, x.length ≤ 5000) := fun x hx => Nat.le_trans (fields_short x hx) hzlen
      have HRL : Hid (s.rules.length ≤ 15000) := by
        have := read_len z
        rw [hsr] at this
        show _ ≤ _; omega
      have HBSF : Hid ((s.base = [] ∨ s.base.length = 4) ∧ ∀ x ∈ s.base, 0 ≤ x ∧ x < 18446744073709551616) := by
        rw [← hsr]
        exact ⟨File.base_four z, fun x hx => ⟨(File.base_lt z x hx).1, by have := (File.base_lt z x hx).2; omega⟩⟩
      have hlti : (i : Int) < (M : Int) := by omega
      clear hcl hsl hz hzl hzin hzlen hb1s hsr hgd hb1
      go_wp2_with fail
      refine (read7_own za zn zc z s wr HSL.out HZN.out hznl HFLD.out HSR.out).mono ?_
      rintro e V ⟨ba, bn, bc, ra, rn, rc, ys, rfl, hbs, hbc, hrs, hru, hrc, hb, hown, hfar, hhigh⟩
      have HVA : ∀ ob, Hid (Below wr.heap.size wr (V.alloc ob) ∧ (V.alloc ob).heap[V.heap.size]? = some ob ∧ Below V.heap.size V (V.alloc ob) ∧ w.heap.size < V.heap.size ∧ w.heap.size + 1 < V.heap.size) := fun ob => ⟨hb.alloc hb.size ob, heap_alloc_new V ob, (Below.refl _ V).alloc (Nat.le_refl _) ob, by have h1 := hb.size; have h2 := HW4R.out.size; have h3 := HSZ4.out; omega, by have h1 := hb.size; have h2 := HW4R.out.size; have h3 := HSZ4.out; omega⟩
      have HZV : ∀ ob, Hid ((V.alloc ob).heap[w.heap.size]? = some (.cells #[Value.int .u64 0, Value.int .u64 0, Value.int .u64 0, Value.int .u64 0, Value.slice none 0 0] 26 (0, 0))) := fun ob => ((HVA ob).out.1.block _ (Array.getElem?_eq_some_iff.1 HZR.out).1).trans HZR.out
      have HBV : ∀ ob, Hid (Below w.heap.size w (V.alloc ob)) := fun ob => HBWR.out.trans ((HVA ob).out.1.mono HBWR.out.size)
      have HIV : ∀ ob, Hid (RInv w W4 (V.alloc ob) a1 n1 c1 xs bs) := fun ob => HINV.out.below (HVA ob).out.1
      have HBS : ∀ ob, Hid (Sl .u64 (V.alloc ob) ba bn bc s.base) := fun ob => hbs.alloc ob
      have HYS : ∀ ob, Hid ((V.alloc ob).ownsRow wr.heap.size 39 3 (.slice ra rn rc) rn (rcells ys) ∧ ∀ y ∈ ys, y.Good (V.alloc ob)) := fun ob => ⟨ownsRow_below hown (HVA ob).out.2.2.1 (Nat.le_refl _), fun y hy => (hrs.2.2.2.1 y hy).alloc ob⟩
      have HYL : Hid (ys.length = rn) := hrs.1
      have HRU := Lib.hid hru
      have HFAR := Lib.hid hfar
      have HHIGH := Lib.hid hhigh
      have hbn : s.base.length = bn := hbs.1
      have hrn : rn ≤ 15000 := by have h1 := HRL.out; rw [← hru, ruls_length, hrs.1] at h1; exact h1
      have hbnc := hbs.2.1
      have hbcm := hbs.2.2.1
      have hrnc := hrs.2.1
      have hrcm := hrs.2.2.1
      unfold maxLen at hbcm hrcm
      clear hbs hbc hrs hru hrc hb hown hfar hhigh
      by_cases he : s.e = 0
      · have hne : (s.e != 0) = false := by simp [he]
        have HST2 := Lib.hid HSTEP.out
        rw [if_neg (by simp [he])] at HST2
        by_cases hbe : s.base = []
        · obtain rfl : bn = 0 := by rw [← hbn, hbe]; rfl
          rw [if_neg (by simp [hbe]), hbe] at HST2
          have HST3 : Hid ((if 200 < (nrm (ruls xs ++ s.rules)).length then (⟨File.Cst.zero, (i : Int), 81⟩ : File.Got) else File.readA (i + 1) had bs (nrm (ruls xs ++ s.rules)) (ls.drop (i + 1))) = g) := by
            have h := HST2.out
            simp only [decide_true, Bool.not_true, Bool.or_false, if_true] at h
            exact h
          clear HST2 hbe hbn HSTEP
          go_wp2_with fail
          refine (join_line HINV.out hn1 (HIV _).out HSZ4.out (HYS _).out.1 (HYS _).out.2 HYL.out HFAR.out HHIGH.out hrn).mono ?_
          rintro e V3 ⟨n3, a3, c3, xs3, rfl, hru3, hnc3, hcm3, hinv3⟩
          have HINV3 := Lib.hid hinv3
          have HRU3 : Hid (ruls xs3 = nrm (ruls xs ++ s.rules)) := by show _ = _; rw [hru3, HRU.out]
          have HN3 : Hid ((nrm (ruls xs ++ s.rules)).length = n3) := by show _ = _; rw [← HRU3.out, ruls_length]; exact hinv3.2.1
          unfold maxLen at hcm3
          clear hru3 hinv3
          by_cases h200 : 200 < n3
          · have h200i : (200 : Int) < (n3 : Int) := by omega
            have HEND : Hid ((⟨File.Cst.zero, (i : Int), 81⟩ : File.Got) = g) := by
              have h := HST3.out
              rw [if_pos (by rw [HN3.out]; exact h200)] at h; exact h
            have HW43 : Hid (W4.grownBy V3 (some (w.heap.size + 1))) := HINV3.out.2.2.2.2.2.2.2.2.2
            have HZ3 : Hid (V3.heap[w.heap.size]? = some (.cells #[Value.int .u64 0, Value.int .u64 0, Value.int .u64 0, Value.int .u64 0, Value.slice none 0 0] 26 (0, 0))) := (HW43.out.block _ (Array.getElem?_eq_some_iff.1 HZ4.out).1 (by simp)).trans HZ4.out
            have HB3 : Hid (Below w.heap.size w V3) := HBW4.out.grown HW43.out HBW4.out.size (fun k hk => by cases hk; exact Nat.le_succ _)
            go_wp2_with (refine wpList_store_g (by rfl) 26 (.tmp 2) (.tmp 49) (by rfl) w.heap.size #[Value.int .u64 0, Value.int .u64 0, Value.int .u64 0, Value.int .u64 0, Value.slice none 0 0] (by rfl) (by rfl) 26 #[Value.int .u64 0, Value.int .u64 0, Value.int .u64 0, Value.int .u64 0, Value.slice none 0 0] HZ3.out HI5z.out rfl (by simp [Value.oneCell']) ?_
                         intro we hwe hge hsze
                         have HWE := Lib.hid hwe
                         have HGE := Lib.hid hge
                         clear hwe hge hsze)
            refine bodyPost_ret (results_cell_row_tmp2 rfl _ _ w.heap.size 26 #[Value.int .u64 0, Value.int .u64 0, Value.int .u64 0, Value.int .u64 0, Value.slice none 0 0] (0, 0) _ (by rfl) HWE.out Tryz.underlying26 (by rfl) HI5z.out) rfl ?_
            exact got_zero HEND.out rfl (HB3.out.grown HGE.out HB3.out.size (fun k hk => by cases hk; exact Nat.le_refl _))
          · have h200i : ¬ (200 : Int) < (n3 : Int) := by omega
            have HEND : Hid (File.readA (i + 1) had bs (ruls xs3) (ls.drop (i + 1)) = g) := by
              have h := HST3.out
              rw [if_neg (by rw [HN3.out]; exact h200), ← HRU3.out] at h; exact h
            go_wp2
            go_roundw
            case rel => exact ⟨i + 1, a3, n3, c3, xs3, had, bs, by omega, rfl, rfl, by go_num, by omega, HINV3.out, HEND.out⟩
            case measure => simp [intOf]; omega
        · have hb4l : s.base.length = 4 := HBSF.out.1.resolve_left hbe
          obtain rfl : bn = 4 := by rw [← hbn, hb4l]
          cases had
          · have HST3 : Hid ((if 200 < (nrm (ruls xs ++ s.rules)).length then (⟨File.Cst.zero, (i : Int), 81⟩ : File.Got) else File.readA (i + 1) true s.base (nrm (ruls xs ++ s.rules)) (ls.drop (i + 1))) = g) := by
              have h := HST2.out
              rw [if_neg (by simp), if_neg hbe] at h
              simp only [hbe, decide_false, Bool.not_false, Bool.or_true, if_false] at h
              exact h
            have HB4L := Lib.hid hb4l
            have HSTP : ∀ ob, (V.alloc ob).heap[w.heap.size + 1]? = some (.cells (n64s bs).toArray 23 (0, 0)) := fun ob => (HIV ob).out.2.2.2.2.2.2.1
            have HSTL : bs.length = 4 := (HIV (.cells #[] 0)).out.2.2.2.2.2.2.2.1
            have HBSV : ∀ ob, Sl .u64 (V.alloc ob) ba 4 bc s.base := fun ob => (HBS ob).out
            clear HST2 hbe hbn HSTEP hb4l
            go_wp2_with (refine wpList_copy_base (o := ⟨some 41, _, _, _, _, _⟩) rfl (.tmp 38) (.tmp 40) (by rfl) (w.heap.size + 1) bs s.base ba bc (by rfl) (by rfl) (HSTP _) HSTL (HBSV _) ?_
                         intro X hXs hXg
                         have HIX : Hid (RInv w W4 X a1 n1 c1 xs s.base) := (HIV _).out.copied HSZ4.out hXg hXs HB4L.out HBSF.out.2
                         have HYX : Hid (X.ownsRow wr.heap.size 39 3 (.slice ra rn rc) rn (rcells ys) ∧ ∀ y ∈ ys, y.Good X) := ⟨(HYS _).out.1.kept hXg (by
                             cases hob : (Value.slice ra rn rc).ownBlock with
                             | none => exact .inl rfl
                             | some b => exact .inr (fun e => by have h1 := ((HYS (.cells #[] 0)).out.1.lt b hob).1; have h2 := HW4R.out.size; have h3 := HSZ4.out; have := Option.some.inj e; omega)), fun y hy => ((HYS _).out.2 y hy).apart hXg (HSTP _) (n64_no (by decide) bs)⟩
                         have hbox : X.heap[V.heap.size]? = some (.cells #[.slice ba 4 bc, .slice ra rn rc] 44 (0, 0)) := (hXg.block _ (Array.getElem?_eq_some_iff.1 (HVA _).out.2.1).1 (fun e => by have h1 := (HVA (.cells #[] 0)).out.2.2.2.2; have := Option.some.inj e; omega)).trans (HVA _).out.2.1
                         have hbx1 : X.cell? ⟨V.heap.size, 1, none⟩ = some (.slice ra rn rc) := by simp [World.cell?, hbox]
                         clear hXs hXg hbox)
            refine (join_line HINV.out hn1 HIX.out HSZ4.out HYX.out.1 HYX.out.2 HYL.out HFAR.out HHIGH.out hrn).mono ?_
            rintro e V3 ⟨n3, a3, c3, xs3, rfl, hru3, hnc3, hcm3, hinv3⟩
            have HINV3 := Lib.hid hinv3
            have HRU3 : Hid (ruls xs3 = nrm (ruls xs ++ s.rules)) := by show _ = _; rw [hru3, HRU.out]
            have HN3 : Hid ((nrm (ruls xs ++ s.rules)).length = n3) := by show _ = _; rw [← HRU3.out, ruls_length]; exact hinv3.2.1
            unfold maxLen at hcm3
            clear hru3 hinv3 hbx1
            by_cases h200 : 200 < n3
            · have h200i : (200 : Int) < (n3 : Int) := by omega
              have HEND : Hid ((⟨File.Cst.zero, (i : Int), 81⟩ : File.Got) = g) := by
                have h := HST3.out
                rw [if_pos (by rw [HN3.out]; exact h200)] at h; exact h
              have HW43 : Hid (W4.grownBy V3 (some (w.heap.size + 1))) := HINV3.out.2.2.2.2.2.2.2.2.2
              have HZ3 : Hid (V3.heap[w.heap.size]? = some (.cells #[Value.int .u64 0, Value.int .u64 0, Value.int .u64 0, Value.int .u64 0, Value.slice none 0 0] 26 (0, 0))) := (HW43.out.block _ (Array.getElem?_eq_some_iff.1 HZ4.out).1 (by simp)).trans HZ4.out
              have HB3 : Hid (Below w.heap.size w V3) := HBW4.out.grown HW43.out HBW4.out.size (fun k hk => by cases hk; exact Nat.le_succ _)
              go_wp2_with (refine wpList_store_g (by rfl) 26 (.tmp 2) (.tmp 49) (by rfl) w.heap.size #[Value.int .u64 0, Value.int .u64 0, Value.int .u64 0, Value.int .u64 0, Value.slice none 0 0] (by rfl) (by rfl) 26 #[Value.int .u64 0, Value.int .u64 0, Value.int .u64 0, Value.int .u64 0, Value.slice none 0 0] HZ3.out HI5z.out rfl (by simp [Value.oneCell']) ?_
                           intro we hwe hge hsze
                           have HWE := Lib.hid hwe
                           have HGE := Lib.hid hge
                           clear hwe hge hsze)
              refine bodyPost_ret (results_cell_row_tmp2 rfl _ _ w.heap.size 26 #[Value.int .u64 0, Value.int .u64 0, Value.int .u64 0, Value.int .u64 0, Value.slice none 0 0] (0, 0) _ (by rfl) HWE.out Tryz.underlying26 (by rfl) HI5z.out) rfl ?_
              exact got_zero HEND.out rfl (HB3.out.grown HGE.out HB3.out.size (fun k hk => by cases hk; exact Nat.le_refl _))
            · have h200i : ¬ (200 : Int) < (n3 : Int) := by omega
              have HEND : Hid (File.readA (i + 1) true s.base (ruls xs3) (ls.drop (i + 1)) = g) := by
                have h := HST3.out
                rw [if_neg (by rw [HN3.out]; exact h200), ← HRU3.out] at h; exact h
              go_wp2
              go_roundw
              case rel => exact ⟨i + 1, a3, n3, c3, xs3, true, s.base, by omega, rfl, rfl, by go_num, by omega, HINV3.out, HEND.out⟩
              case measure => simp [intOf]; omega
          · have HEND : Hid ((⟨File.Cst.zero, (i : Int), 80⟩ : File.Got) = g) := by
              have h := HST2.out
              rw [if_pos ⟨hbe, rfl⟩] at h; exact h
            clear HST2 hbe hbn HSTEP hb4l
            go_wp2_with (refine wpList_store_g (by rfl) 26 (.tmp 2) (.tmp 36) (by rfl) w.heap.size #[Value.int .u64 0, Value.int .u64 0, Value.int .u64 0, Value.int .u64 0, Value.slice none 0 0] (by rfl) (by rfl) 26 #[Value.int .u64 0, Value.int .u64 0, Value.int .u64 0, Value.int .u64 0, Value.slice none 0 0] (HZV _).out HI5z.out rfl (by simp [Value.oneCell']) ?_
                         intro we hwe hge hsze
                         have HWE := Lib.hid hwe
                         have HGE := Lib.hid hge
                         clear hwe hge hsze)
            refine bodyPost_ret (results_cell_row_tmp2 rfl _ _ w.heap.size 26 #[Value.int .u64 0, Value.int .u64 0, Value.int .u64 0, Value.int .u64 0, Value.slice none 0 0] (0, 0) _ (by rfl) HWE.out Tryz.underlying26 (by rfl) HI5z.out) rfl ?_
            exact got_zero HEND.out rfl ((HBV _).out.grown HGE.out (HBV _).out.size (fun k hk => by cases hk; exact Nat.le_refl _))
      · have hne : (s.e != 0) = true := by simpa using he
        have HEND : Hid ((⟨File.Cst.zero, (i : Int), s.e⟩ : File.Got) = g) := by
          have h := HSTEP.out
          rw [if_pos he] at h; exact h
        clear he hbn
        go_wp2_with (refine wpList_store_g (by rfl) 26 (.tmp 2) (.tmp 28) (by rfl) w.heap.size #[Value.int .u64 0, Value.int .u64 0, Value.int .u64 0, Value.int .u64 0, Value.slice none 0 0] (by rfl) (by rfl) 26 #[Value.int .u64 0, Value.int .u64 0, Value.int .u64 0, Value.int .u64 0, Value.slice none 0 0] (HZV _).out HI5z.out rfl (by simp [Value.oneCell']) ?_
                     intro we hwe hge hsze
                     have HWE := Lib.hid hwe
                     have HGE := Lib.hid hge
                     clear hwe hge hsze)
        refine bodyPost_ret (results_cell_row_tmp2 rfl _ _ w.heap.size 26 #[Value.int .u64 0, Value.int .u64 0, Value.int .u64 0, Value.int .u64 0, Value.slice none 0 0] (0, 0) _ (by rfl) HWE.out Tryz.underlying26 (by rfl) HI5z.out) rfl ?_
        exact got_zero HEND.out rfl ((HBV _).out.grown HGE.out (HBV _).out.size (fun k hk => by cases hk; exact Nat.le_refl _))
    · obtain rfl : i = M := by omega
      have HEND : Hid ((⟨⟨bs, ruls xs⟩, -1, 0⟩ : File.Got) = g) := by
        have h := HREAD.out
        rw [List.drop_eq_nil_of_le (by rw [HLM.out]; exact Nat.le_refl _)] at h; exact h
      obtain ⟨i1, i2, i3, i4, i5, i6, i7, i8, i9, i10⟩ := HINV.out
      obtain ⟨b0, b1, b2, b3, rfl⟩ : ∃ b0 b1 b2 b3, bs = [b0, b1, b2, b3] := by
        match bs, i8 with
        | [x, y, z, t], _ => exact ⟨x, y, z, t, rfl⟩
      have HS0 : Hid (wr.drew.cell? ⟨w.heap.size + 1, 0, none⟩ = some (.int .u64 b0)) := by show wr.cell? _ = _; simp [World.cell?, i7, n64s]
      have HS1 : Hid (wr.drew.cell? ⟨w.heap.size + 1, 1, none⟩ = some (.int .u64 b1)) := by show wr.cell? _ = _; simp [World.cell?, i7, n64s]
      have HS2 : Hid (wr.drew.cell? ⟨w.heap.size + 1, 2, none⟩ = some (.int .u64 b2)) := by show wr.cell? _ = _; simp [World.cell?, i7, n64s]
      have HS3 : Hid (wr.drew.cell? ⟨w.heap.size + 1, 3, none⟩ = some (.int .u64 b3)) := by show wr.cell? _ = _; simp [World.cell?, i7, n64s]
      have HC0 : Hid (wr.drew.heap[w.heap.size]? = some (.cells #[Value.int .u64 0, Value.int .u64 0, Value.int .u64 0, Value.int .u64 0, Value.slice none 0 0] 26 (0, 0))) := HZR.out
      have HI5 : Hid ((Tryz.prog.info? 26).map (·.size) = some (#[Value.int .u64 b0, Value.int .u64 b1, Value.int .u64 b2, Value.int .u64 b3, Value.slice a1 n1 c1]).size) := info_cost5
      have HB9 := Lib.hid i9
      clear i1 i2 i3 i4 i5 i6 i7 i8 i9 i10
      go_wp2_with fail
      refine wp_region_told2 HMX.out 14 [(52, 52), (53, 53), (54, 54), (55, 55), (56, 56), (57, 57), (58, 58), (59, 59), (60, 60), (61, 61), (62, 62), (63, 63), (64, 64), (65, 65), (65, 65), (3, 3), (4, 4)]
        (fun (j : Nat) (v u : Value) (w0 : World) => match j with
          | 0 => v = .slice (some ⟨w.heap.size + 1, 0, none⟩) 4 4
          | 1 => v = .pointer (some ⟨w.heap.size + 1, 0, none⟩)
          | 2 => v = .int .u64 b0
          | 3 => v = .slice (some ⟨w.heap.size + 1, 0, none⟩) 4 4
          | 4 => v = .pointer (some ⟨w.heap.size + 1, 1, none⟩)
          | 5 => v = .int .u64 b1
          | 6 => v = .slice (some ⟨w.heap.size + 1, 0, none⟩) 4 4
          | 7 => v = .pointer (some ⟨w.heap.size + 1, 2, none⟩)
          | 8 => v = .int .u64 b2
          | 9 => v = .slice (some ⟨w.heap.size + 1, 0, none⟩) 4 4
          | 10 => v = .pointer (some ⟨w.heap.size + 1, 3, none⟩)
          | 11 => v = .int .u64 b3
          | 12 => v = .slice a1 n1 c1
          | 13 => v = .agg #[Value.int .u64 b0, Value.int .u64 b1, Value.int .u64 b2, Value.int .u64 b3, Value.slice a1 n1 c1]
          | 14 => w0.heap[w.heap.size]? = some (.cells #[Value.int .u64 b0, Value.int .u64 b1, Value.int .u64 b2, Value.int .u64 b3, Value.slice a1 n1 c1] 26 (0, 0))
          | 15 => v = .int .i64 (-1)
          | 16 => v = .int .i64 0
          | _ => True)
        (fun W => (wr).drew.grownBy W (some w.heap.size) ∧ ∃ cs, W.heap[w.heap.size]? = some (.cells cs 26 (0, 0)) ∧ cs.size = 5) (fun _ w0 w' => w0.grownBy w' (some w.heap.size) ∧ w'.heap[w.heap.size]? = some (.cells #[Value.int .u64 b0, Value.int .u64 b1, Value.int .u64 b2, Value.int .u64 b3, Value.slice a1 n1 c1] 26 (0, 0))) (by kernel_rfl) (by kernel_rfl) ⟨World.grownBy.refl _ _, _, HC0.out, rfl⟩ (fun _ _ h1 h2 => ⟨h1.1.trans (h2.but _), by obtain ⟨cs, hc, hs⟩ := h1.2; exact ⟨cs, (h2.block _ (Array.getElem?_eq_some_iff.1 hc).1 (by simp)).trans hc, hs⟩⟩) (fun _ _ _ h1 h2 => ⟨h1.1.trans h2.1, _, h2.2, rfl⟩) ?_ ?_ ?_ ?_
      · intro j v u w0 w' h hg
        match j, h with
        | 0, h => exact h
        | 1, h => exact h
        | 2, h => exact h
        | 3, h => exact h
        | 4, h => exact h
        | 5, h => exact h
        | 6, h => exact h
        | 7, h => exact h
        | 8, h => exact h
        | 9, h => exact h
        | 10, h => exact h
        | 11, h => exact h
        | 12, h => exact h
        | 13, h => exact h
        | 14, h => exact (hg.block w.heap.size (Array.getElem?_eq_some_iff.1 h).1 (by simp)).trans h
        | 15, h => exact h
        | 16, h => exact h
        | j + 17, h => exact h
      · intro j v u a0 w0 w' hne h hr
        match j, hne, h with
        | 0, hne, h => exact h
        | 1, hne, h => exact h
        | 2, hne, h => exact h
        | 3, hne, h => exact h
        | 4, hne, h => exact h
        | 5, hne, h => exact h
        | 6, hne, h => exact h
        | 7, hne, h => exact h
        | 8, hne, h => exact h
        | 9, hne, h => exact h
        | 10, hne, h => exact h
        | 11, hne, h => exact h
        | 12, hne, h => exact h
        | 13, hne, h => exact h
        | 14, hne, h => exact absurd rfl hne
        | 15, hne, h => exact h
        | 16, hne, h => exact h
        | j + 17, _, h => exact h
      · intro i1 o ho a1' w1 hJ hw ht
        match i1, ho with
        | 0, ho =>
          obtain rfl := Option.some.inj ho
          exact StepsTo.move rfl (.tmp 6) (.inl rfl) ⟨(hw 6 (by kernel_rfl)), fun h => absurd h (by decide), fun _ => World.grownBy.refl _ _⟩
        | 1, ho =>
          obtain rfl := Option.some.inj ho
          exact StepsTo.of_run rfl (run_idxU 0 (by omega) rfl (show a1'.eval (.tmp 52) = .slice (some ⟨w.heap.size + 1, 0, none⟩) 4 4 from (ht 0 (by kernel_rfl)))) ⟨rfl, fun h => absurd h (by decide), fun _ => World.grownBy.refl _ _⟩
        | 2, ho =>
          obtain rfl := Option.some.inj ho
          exact steps_ldd (ldd_cost _) rfl (.tmp 53) rfl (ht 1 (by kernel_rfl)) (hJ.1.cell HS0.out (by intro e; have := Option.some.inj e; simp at this)) ⟨rfl, fun h => absurd h (by decide), fun _ => World.grownBy.refl _ _⟩
        | 3, ho =>
          obtain rfl := Option.some.inj ho
          exact StepsTo.move rfl (.tmp 6) (.inl rfl) ⟨(hw 6 (by kernel_rfl)), fun h => absurd h (by decide), fun _ => World.grownBy.refl _ _⟩
        | 4, ho =>
          obtain rfl := Option.some.inj ho
          exact StepsTo.of_run rfl (run_idxU 1 (by omega) rfl (show a1'.eval (.tmp 55) = .slice (some ⟨w.heap.size + 1, 0, none⟩) 4 4 from (ht 3 (by kernel_rfl)))) ⟨rfl, fun h => absurd h (by decide), fun _ => World.grownBy.refl _ _⟩
        | 5, ho =>
          obtain rfl := Option.some.inj ho
          exact steps_ldd (ldd_cost _) rfl (.tmp 56) rfl (ht 4 (by kernel_rfl)) (hJ.1.cell HS1.out (by intro e; have := Option.some.inj e; simp at this)) ⟨rfl, fun h => absurd h (by decide), fun _ => World.grownBy.refl _ _⟩
        | 6, ho =>
          obtain rfl := Option.some.inj ho
          exact StepsTo.move rfl (.tmp 6) (.inl rfl) ⟨(hw 6 (by kernel_rfl)), fun h => absurd h (by decide), fun _ => World.grownBy.refl _ _⟩
        | 7, ho =>
          obtain rfl := Option.some.inj ho
          exact StepsTo.of_run rfl (run_idxU 2 (by omega) rfl (show a1'.eval (.tmp 58) = .slice (some ⟨w.heap.size + 1, 0, none⟩) 4 4 from (ht 6 (by kernel_rfl)))) ⟨rfl, fun h => absurd h (by decide), fun _ => World.grownBy.refl _ _⟩
        | 8, ho =>
          obtain rfl := Option.some.inj ho
          exact steps_ldd (ldd_cost _) rfl (.tmp 59) rfl (ht 7 (by kernel_rfl)) (hJ.1.cell HS2.out (by intro e; have := Option.some.inj e; simp at this)) ⟨rfl, fun h => absurd h (by decide), fun _ => World.grownBy.refl _ _⟩
        | 9, ho =>
          obtain rfl := Option.some.inj ho
          exact StepsTo.move rfl (.tmp 6) (.inl rfl) ⟨(hw 6 (by kernel_rfl)), fun h => absurd h (by decide), fun _ => World.grownBy.refl _ _⟩
        | 10, ho =>
          obtain rfl := Option.some.inj ho
          exact StepsTo.of_run rfl (run_idxU 3 (by omega) rfl (show a1'.eval (.tmp 61) = .slice (some ⟨w.heap.size + 1, 0, none⟩) 4 4 from (ht 9 (by kernel_rfl)))) ⟨rfl, fun h => absurd h (by decide), fun _ => World.grownBy.refl _ _⟩
        | 11, ho =>
          obtain rfl := Option.some.inj ho
          exact steps_ldd (ldd_cost _) rfl (.tmp 62) rfl (ht 10 (by kernel_rfl)) (hJ.1.cell HS3.out (by intro e; have := Option.some.inj e; simp at this)) ⟨rfl, fun h => absurd h (by decide), fun _ => World.grownBy.refl _ _⟩
        | 12, ho =>
          obtain rfl := Option.some.inj ho
          exact StepsTo.move rfl (.tmp 5) (.inl rfl) ⟨(hw 5 (by kernel_rfl)), fun h => absurd h (by decide), fun _ => World.grownBy.refl _ _⟩
        | 13, ho =>
          obtain rfl := Option.some.inj ho
          exact StepsTo.of_run rfl (run_costs5 rfl (show a1'.eval (.tmp 54) = .int .u64 b0 from (ht 2 (by kernel_rfl))) (show a1'.eval (.tmp 57) = .int .u64 b1 from (ht 5 (by kernel_rfl))) (show a1'.eval (.tmp 60) = .int .u64 b2 from (ht 8 (by kernel_rfl))) (show a1'.eval (.tmp 63) = .int .u64 b3 from (ht 11 (by kernel_rfl))) (show a1'.eval (.tmp 64) = .slice a1 n1 c1 from (ht 12 (by kernel_rfl)))) ⟨rfl, fun h => absurd h (by decide), fun _ => World.grownBy.refl _ _⟩
        | 14, ho =>
          obtain rfl := Option.some.inj ho
          have e1 : a1'.eval (.tmp 2) = .pointer (some ⟨w.heap.size, 0, none⟩) := (hw 2 (by kernel_rfl))
          have e2 : a1'.eval (.tmp 65) = .agg #[Value.int .u64 b0, Value.int .u64 b1, Value.int .u64 b2, Value.int .u64 b3, Value.slice a1 n1 c1] := (ht 13 (by kernel_rfl))
          obtain ⟨cs0, hcs0, hcs5⟩ := hJ.2
          refine steps_store_g rfl 26 (.tmp 2) (.tmp 65) rfl e1 e2 hcs0 HI5.out hcs5 (by simp [Value.oneCell']) ?_
          intro w' hw' hg' hsz'
          exact ⟨hw', fun _ => ⟨hg', hw'⟩, fun h => absurd rfl h⟩
        | 15, ho =>
          obtain rfl := Option.some.inj ho
          exact StepsTo.of_run rfl (by simp only [execOp]; go_simp) ⟨rfl, fun h => absurd h (by decide), fun _ => World.grownBy.refl _ _⟩
        | 16, ho =>
          obtain rfl := Option.some.inj ho
          exact StepsTo.of_run rfl (by simp only [execOp]; go_simp) ⟨rfl, fun h => absurd h (by decide), fun _ => World.grownBy.refl _ _⟩
        | j1 + 17, ho => exact absurd (Array.getElem?_eq_some_iff.1 ho).1 (by simp)
      intro tm w9 hsz hJ hfr hto
      rw [act_lit2 tm (show tm.size = 66 from hsz)]
      simp only [List.range, List.range.loop, List.map_cons, List.map_nil]
      rw [hfr 0 (by kernel_rfl), hfr 1 (by kernel_rfl), hfr 2 (by kernel_rfl), hfr 5 (by kernel_rfl), hfr 6 (by kernel_rfl), hfr 7 (by kernel_rfl), hfr 8 (by kernel_rfl), hfr 9 (by kernel_rfl), hfr 10 (by kernel_rfl), hfr 11 (by kernel_rfl), hfr 12 (by kernel_rfl), hfr 13 (by kernel_rfl), hfr 14 (by kernel_rfl), hfr 15 (by kernel_rfl), hfr 16 (by kernel_rfl), hfr 17 (by kernel_rfl), hfr 18 (by kernel_rfl), hfr 19 (by kernel_rfl), hfr 20 (by kernel_rfl), hfr 21 (by kernel_rfl), hfr 22 (by kernel_rfl), hfr 23 (by kernel_rfl), hfr 24 (by kernel_rfl), hfr 25 (by kernel_rfl), hfr 26 (by kernel_rfl), hfr 27 (by kernel_rfl), hfr 28 (by kernel_rfl), hfr 29 (by kernel_rfl), hfr 30 (by kernel_rfl), hfr 31 (by kernel_rfl), hfr 32 (by kernel_rfl), hfr 33 (by kernel_rfl), hfr 34 (by kernel_rfl), hfr 35 (by kernel_rfl), hfr 36 (by kernel_rfl), hfr 37 (by kernel_rfl), hfr 38 (by kernel_rfl), hfr 39 (by kernel_rfl), hfr 40 (by kernel_rfl), hfr 41 (by kernel_rfl), hfr 42 (by kernel_rfl), hfr 43 (by kernel_rfl), hfr 44 (by kernel_rfl), hfr 45 (by kernel_rfl), hfr 46 (by kernel_rfl), hfr 47 (by kernel_rfl), hfr 48 (by kernel_rfl), hfr 49 (by kernel_rfl), hfr 50 (by kernel_rfl), hfr 51 (by kernel_rfl)]
      simp only [Array.getD_eq_getD_getElem?, List.getElem?_toArray, List.getElem?_cons_succ, List.getElem?_cons_zero, Option.getD_some]
      have t0 : (tm[52]?.getD undef) = .slice (some ⟨w.heap.size + 1, 0, none⟩) 4 4 := by have h := hto 0 (by decide); simp only [Array.getD_eq_getD_getElem?] at h; exact h
      have t1 : (tm[53]?.getD undef) = .pointer (some ⟨w.heap.size + 1, 0, none⟩) := by have h := hto 1 (by decide); simp only [Array.getD_eq_getD_getElem?] at h; exact h
      have t2 : (tm[54]?.getD undef) = .int .u64 b0 := by have h := hto 2 (by decide); simp only [Array.getD_eq_getD_getElem?] at h; exact h
      have t3 : (tm[55]?.getD undef) = .slice (some ⟨w.heap.size + 1, 0, none⟩) 4 4 := by have h := hto 3 (by decide); simp only [Array.getD_eq_getD_getElem?] at h; exact h
      have t4 : (tm[56]?.getD undef) = .pointer (some ⟨w.heap.size + 1, 1, none⟩) := by have h := hto 4 (by decide); simp only [Array.getD_eq_getD_getElem?] at h; exact h
      have t5 : (tm[57]?.getD undef) = .int .u64 b1 := by have h := hto 5 (by decide); simp only [Array.getD_eq_getD_getElem?] at h; exact h
      have t6 : (tm[58]?.getD undef) = .slice (some ⟨w.heap.size + 1, 0, none⟩) 4 4 := by have h := hto 6 (by decide); simp only [Array.getD_eq_getD_getElem?] at h; exact h
      have t7 : (tm[59]?.getD undef) = .pointer (some ⟨w.heap.size + 1, 2, none⟩) := by have h := hto 7 (by decide); simp only [Array.getD_eq_getD_getElem?] at h; exact h
      have t8 : (tm[60]?.getD undef) = .int .u64 b2 := by have h := hto 8 (by decide); simp only [Array.getD_eq_getD_getElem?] at h; exact h
      have t9 : (tm[61]?.getD undef) = .slice (some ⟨w.heap.size + 1, 0, none⟩) 4 4 := by have h := hto 9 (by decide); simp only [Array.getD_eq_getD_getElem?] at h; exact h
      have t10 : (tm[62]?.getD undef) = .pointer (some ⟨w.heap.size + 1, 3, none⟩) := by have h := hto 10 (by decide); simp only [Array.getD_eq_getD_getElem?] at h; exact h
      have t11 : (tm[63]?.getD undef) = .int .u64 b3 := by have h := hto 11 (by decide); simp only [Array.getD_eq_getD_getElem?] at h; exact h
      have t12 : (tm[64]?.getD undef) = .slice a1 n1 c1 := by have h := hto 12 (by decide); simp only [Array.getD_eq_getD_getElem?] at h; exact h
      have t13 : (tm[65]?.getD undef) = .agg #[Value.int .u64 b0, Value.int .u64 b1, Value.int .u64 b2, Value.int .u64 b3, Value.slice a1 n1 c1] := by have h := hto 13 (by decide); simp only [Array.getD_eq_getD_getElem?] at h; exact h
      have t14 : w9.heap[w.heap.size]? = some (.cells #[Value.int .u64 b0, Value.int .u64 b1, Value.int .u64 b2, Value.int .u64 b3, Value.slice a1 n1 c1] 26 (0, 0)) := by have h := hto 14 (by decide); simp only [Array.getD_eq_getD_getElem?] at h; exact h
      have t15 : (tm[3]?.getD undef) = .int .i64 (-1) := by have h := hto 15 (by decide); simp only [Array.getD_eq_getD_getElem?] at h; exact h
      have t16 : (tm[4]?.getD undef) = .int .i64 0 := by have h := hto 16 (by decide); simp only [Array.getD_eq_getD_getElem?] at h; exact h
      clear hto
      generalize tm[3]?.getD undef = y3 at *
      generalize tm[4]?.getD undef = y4 at *
      generalize tm[52]?.getD undef = y52 at *
      generalize tm[53]?.getD undef = y53 at *
      generalize tm[54]?.getD undef = y54 at *
      generalize tm[55]?.getD undef = y55 at *
      generalize tm[56]?.getD undef = y56 at *
      generalize tm[57]?.getD undef = y57 at *
      generalize tm[58]?.getD undef = y58 at *
      generalize tm[59]?.getD undef = y59 at *
      generalize tm[60]?.getD undef = y60 at *
      generalize tm[61]?.getD undef = y61 at *
      generalize tm[62]?.getD undef = y62 at *
      generalize tm[63]?.getD undef = y63 at *
      generalize tm[64]?.getD undef = y64 at *
      generalize tm[65]?.getD undef = y65 at *
      clear hfr hsz tm
      obtain rfl := t15
      obtain rfl := t16
      have HG9 : Hid (wr.grownBy w9 (some w.heap.size)) := by have h := hJ.1; exact ⟨h.os, h.tape, h.output, h.size, h.block⟩
      have HT14 := Lib.hid t14
      clear t0 t1 t2 t3 t4 t5 t6 t7 t8 t9 t10 t11 t12 t13 t14 hJ
      go_wp2
      refine bodyPost_ret (results_cell_row_tmp2 rfl _ _ w.heap.size 26 #[Value.int .u64 b0, Value.int .u64 b1, Value.int .u64 b2, Value.int .u64 b3, Value.slice a1 n1 c1] (0, 0) _ (by rfl) HT14.out Tryz.underlying26 (by rfl) HI5.out) rfl ?_
      rw [← HEND.out]
      obtain ⟨i1, i2, i3, i4, i5, i6, i7, i8, i9, i10⟩ := HINV.out
      have hrs : Rs w9 a1 n1 c1 xs := Rs.of_owns (i1.kept HG9.out (by
          cases hob : (Value.slice a1 n1 c1).ownBlock with
          | none => exact .inl rfl
          | some b => exact .inr (fun e => by have h1 := (i1.lt b hob).1; have h3 := HSZ4.out; have := Option.some.inj e; omega))) (fun x hx => (i3 x hx).apart HG9.out HZR.out (costs_no _ _ _ _ _ _ _)) i2
      exact ⟨⟨b0, b1, b2, b3, a1, n1, c1, xs⟩, rfl, rfl, ⟨hrs, HB9.out⟩, i6, hn1, HBWR.out.grown HG9.out HBWR.out.size (fun k hk => by cases hk; exact Nat.le_refl _)⟩

end Go.Proofs.YtjmabjeaodojeaaGreat
