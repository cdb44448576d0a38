/- Used by the law. -/
import Derived.Test.YtimjdlbhbiklgaaPackX
import Derived.Test.YtimjdlbhbiklgaaPackU
import Derived.Test.YtimjdlbhbiklgaaPackY
import Derived.Test.YtimjdlbhbiklgaaPackK
import Derived.Laws.OwnMore
namespace Go.Proofs.Ytimjdlbhbiklgaa
open Go.RowKit Tri Daw

structure Mk3 (B mb ob mp : Nat) (w w' : World) : Prop where
  os : w'.os = w.os
  tape : w'.tape = w.tape
  output : w'.output = w.output
  size : w.heap.size ≤ w'.heap.size
  block : ∀ k, k < B → k ≠ mb → k ≠ ob → k ≠ mp → w'.heap[k]? = w.heap[k]?
theorem Mk3.refl (B mb ob mp : Nat) (w : World) : Mk3 B mb ob mp w w := ⟨rfl, rfl, rfl, Nat.le_refl _, fun _ _ _ _ _ => rfl⟩
theorem Mk3.trans {B mb ob mp : Nat} {a b c : World} (h : Mk3 B mb ob mp a b) (k : Mk3 B mb ob mp b c) : Mk3 B mb ob mp a c := ⟨k.os.trans h.os, k.tape.trans h.tape, k.output.trans h.output, Nat.le_trans h.size k.size, fun j h1 h2 h3 h4 => (k.block j h1 h2 h3 h4).trans (h.block j h1 h2 h3 h4)⟩
theorem Mk3.grown {B mb ob mp : Nat} {w w' : World} {row : Option Nat} (hg : w.grownBy w' row) (hB : B ≤ w.heap.size) (hr : ∀ r, row = some r → r = mb ∨ r = ob ∨ r = mp ∨ B ≤ r) : Mk3 B mb ob mp w w' := ⟨hg.os, hg.tape, hg.output, hg.size, fun k h1 h2 h3 h4 => hg.block k (by omega) (fun e => by
  rcases hr k e.symm with h | h | h | h <;> omega)⟩
theorem Mk3.below {B mb ob mp C : Nat} {w w' : World} (h : Mk3 B mb ob mp w w') (hC : C ≤ B ∧ C ≤ mb ∧ C ≤ ob ∧ C ≤ mp) : Below C w w' := ⟨h.os, h.tape, h.output, h.size, fun k hk => h.block k (by omega) (by omega) (by omega) (by omega)⟩
theorem grown_of_below {w w' : World} (h : Below w.heap.size w w') : w.grownBy w' none := below_grows h (Nat.le_refl _) _

def Far (B mb ob mp b : Nat) : Prop := b < B ∧ b ≠ mb ∧ b ≠ ob ∧ b ≠ mp
structure Cx (w : World) (B mb ob mp : Nat) (x : Cw) : Prop where
  first : Sl .i64 w x.fa x.fn x.fc x.first
  far : ∀ b off, x.fa = some ⟨b, off, none⟩ → Far B mb ob mp b
  long : x.long ≤ 1000
  arcs : w.ownsRow B 59 2 x.st.s x.st.n (acells x.st.arcs)
  wfs : ∀ y ∈ x.st.arcs, (Lit.int .i64 y.1).wf = true ∧ (Lit.int .i64 y.2).wf = true
theorem Cx.good {w : World} {B mb ob mp : Nat} {x : Cw} (h : Cx w B mb ob mp x) : x.st.Good w := Ars.of_owns h.arcs h.wfs (by
  have := h.arcs.1
  rw [acells_length] at this; omega)
set_option maxRecDepth 100000 in
theorem ne_ca : (59 : TypeId) ≠ 106 := by decide
structure Mr (w : World) (B g mb ob mp N : Nat) (os : List Wd) (ns : List Int) (L : List St) (cs : List Cw) (v : Value) : Prop where
  lt : mb < B ∧ ob < B ∧ mp < B ∧ B ≤ w.heap.size
  ne : mb ≠ ob ∧ mb ≠ mp ∧ ob ≠ mp
  gfar : Far B mb ob mp g
  box : w.heap[mb]? = some (.cells #[.slice (some ⟨g, 0, none⟩) N N, .slice (some ⟨ob, 0, none⟩) N N, .map (some mp), v] 74 (0, 0))
  begs : ∀ k, k < N → w.cell? ⟨g, k, none⟩ = some (os.getD k Wd.no).v
  words : ∀ x ∈ os, x.Good w
  far : ∀ x ∈ os, ∀ b off, x.a = some ⟨b, off, none⟩ → Far B mb ob mp b
  of : w.ownsRow 0 3 1 (.slice (some ⟨ob, 0, none⟩) N N) N (i64s ns)
  ofw : ∀ z ∈ ns, (Lit.int .i64 z).wf = true
  map : NameMap w mp L
  row : w.ownsRow B 106 5 v cs.length (ccells cs)
  each : ∀ x ∈ cs, Cx w B mb ob mp x
def Mine (mb ob mp : Nat) (v : Value) (row : Option Nat) : Prop := ∀ r, row = some r → r = mb ∨ r = ob ∨ r = mp ∨ v.ownBlock = some r
theorem Mr.own {w : World} {B g mb ob mp N : Nat} {os : List Wd} {ns : List Int} {L : List St} {cs : List Cw} {v : Value} (h : Mr w B g mb ob mp N os ns L cs v) {row : Option Nat} (hm : Mine mb ob mp v row) {b : Nat} (hb : Far B mb ob mp b) : some b ≠ row := by
  intro e
  have hl := h.row.lt
  obtain ⟨h1, h2, h3, h4⟩ := hb
  rcases hm b e.symm with h5 | h5 | h5 | h5
  · omega
  · omega
  · omega
  · have := (hl b h5).1; omega
theorem Cx.kept {w w' : World} {B g mb ob mp N : Nat} {os : List Wd} {ns : List Int} {L : List St} {cs : List Cw} {v : Value} {x : Cw} (hx : Cx w B mb ob mp x) (h : Mr w B g mb ob mp N os ns L cs v) {row : Option Nat} (hg : w.grownBy w' row) (hm : Mine mb ob mp v row) : Cx w' B mb ob mp x := by
  refine ⟨hx.first.kept hg (fun b off e => h.own hm (hx.far b off e)), hx.far, hx.long, hx.arcs.kept hg ?_, hx.wfs⟩
  rcases own_apart2 hx.arcs h.row ne_ca with h1 | h1
  · exact .inl h1
  · cases ho : x.st.s.ownBlock with
    | none => exact .inl rfl
    | some b =>
      right
      intro e
      have hb := (hx.arcs.lt b ho).1
      obtain ⟨l1, l2, l3, l4⟩ := h.lt
      rcases hm b e.symm with h5 | h5 | h5 | h5
      · omega
      · omega
      · omega
      · rw [ho, h5] at h1; exact h1 rfl
theorem Mr.step {w w' : World} {B g mb ob mp N : Nat} {os : List Wd} {ns ns' : List Int} {L L' : List St} {cs cs' : List Cw} {v v' : Value} (h : Mr w B g mb ob mp N os ns L cs v) {row : Option Nat} (hg : w.grownBy w' row) (hm : Mine mb ob mp v row)
    (hbox : w'.heap[mb]? = some (.cells #[.slice (some ⟨g, 0, none⟩) N N, .slice (some ⟨ob, 0, none⟩) N N, .map (some mp), v'] 74 (0, 0))) (hof : w'.ownsRow 0 3 1 (.slice (some ⟨ob, 0, none⟩) N N) N (i64s ns')) (hofw : ∀ z ∈ ns', (Lit.int .i64 z).wf = true) (hmap : NameMap w' mp L')
    (hrow : w'.ownsRow B 106 5 v' cs'.length (ccells cs')) (heach : ∀ x ∈ cs', x ∈ cs ∨ Cx w' B mb ob mp x) : Mr w' B g mb ob mp N os ns' L' cs' v' := by
  obtain ⟨l1, l2, l3, l4⟩ := h.lt
  have hs := hg.size
  refine ⟨⟨l1, l2, l3, by omega⟩, h.ne, h.gfar, hbox, fun k hk => hg.cell (h.begs k hk) (h.own hm h.gfar), fun x hx => Sl.kept (h.words x hx) hg (fun b off e => h.own hm (h.far x hx b off e)), h.far, hof, hofw, hmap, hrow, fun x hx => ?_⟩
  rcases heach x hx with h1 | h1
  · exact (h.each x h1).kept h hg hm
  · exact h1
theorem Mr.boxKept {w w' : World} {B g mb ob mp N : Nat} {os : List Wd} {ns : List Int} {L : List St} {cs : List Cw} {v : Value} (h : Mr w B g mb ob mp N os ns L cs v) {row : Option Nat} (hg : w.grownBy w' row) (hne : some mb ≠ row) : w'.heap[mb]? = some (.cells #[.slice (some ⟨g, 0, none⟩) N N, .slice (some ⟨ob, 0, none⟩) N N, .map (some mp), v] 74 (0, 0)) :=
  (hg.block mb (by have := h.lt; omega) hne).trans h.box
theorem Mr.below {w w' : World} {B g mb ob mp N : Nat} {os : List Wd} {ns : List Int} {L : List St} {cs : List Cw} {v : Value} (h : Mr w B g mb ob mp N os ns L cs v) (hb : Below w.heap.size w w') : Mr w' B g mb ob mp N os ns L cs v := by
  have hg := grown_of_below hb
  exact h.step hg (fun r e => by cases e) (h.boxKept hg (by simp)) (ownsRow_below h.of hb (Nat.le_refl _)) h.ofw (h.map.kept hg (by simp)) (ownsRow_below h.row hb (Nat.le_refl _)) (fun x hx => .inl hx)
theorem Mr.name {w w' : World} {B g mb ob mp N : Nat} {os : List Wd} {ns : List Int} {L L' : List St} {cs : List Cw} {v : Value} (h : Mr w B g mb ob mp N os ns L cs v) (hg : w.grownBy w' (some mp)) (hmap : NameMap w' mp L') : Mr w' B g mb ob mp N os ns L' cs v := by
  obtain ⟨n1, n2, n3⟩ := h.ne
  obtain ⟨l1, l2, l3, l4⟩ := h.lt
  refine h.step hg (fun r e => by simp only [Option.some.injEq] at e; omega) (h.boxKept hg (by simp only [ne_eq, Option.some.injEq]; omega)) (h.of.kept hg (.inr (by simp only [Value.ownBlock, ne_eq, Option.some.injEq]; omega))) h.ofw hmap (h.row.kept hg ?_) (fun x hx => .inl hx)
  cases ho : v.ownBlock with
  | none => exact .inl rfl
  | some b => right; have := (h.row.lt b ho).1; simp only [ne_eq, Option.some.injEq]; omega
theorem Mr.put {w : World} {B g mb ob mp N at' : Nat} {os : List Wd} {ns : List Int} {L : List St} {cs : List Cw} {v : Value} (h : Mr w B g mb ob mp N os ns L cs v) (z : Int) (hz : (Lit.int .i64 z).wf = true) : Mr (w.setCell ⟨ob, at', none⟩ (.int .i64 z)) B g mb ob mp N os (ns.set at' z) L cs v := by
  obtain ⟨n1, n2, n3⟩ := h.ne
  obtain ⟨l1, l2, l3, l4⟩ := h.lt
  have hg := grown_set w ⟨ob, at', none⟩ (.int .i64 z)
  have e : i64s (ns.set at' z) = (i64s ns).set at' (.int .i64 z) := by simp [i64s, List.map_set]
  refine h.step hg (fun r e => by simp only [Option.some.injEq] at e; omega) (h.boxKept hg (by simp only [ne_eq, Option.some.injEq]; omega)) (by rw [e]; exact (h.of.stored at' (.int .i64 z)).1) (fun y hy => ?_) (h.map.kept hg (by simp only [ne_eq, Option.some.injEq]; omega)) (h.row.kept hg ?_) (fun x hx => .inl hx)
  · rcases List.mem_or_eq_of_mem_set hy with hy | rfl
    · exact h.ofw y hy
    · exact hz
  · cases ho : v.ownBlock with
    | none => exact .inl rfl
    | some b => right; have := (h.row.lt b ho).1; simp only [ne_eq, Option.some.injEq]; omega
theorem Mr.app {w w' : World} {B g mb ob mp N : Nat} {os : List Wd} {ns : List Int} {L : List St} {cs : List Cw} {v v' : Value} {x : Cw} (h : Mr w B g mb ob mp N os ns L cs v) (hg : w.grownBy w' v.ownBlock) (hrow : w'.ownsRow B 106 5 v' (cs.length + 1) (ccells (cs ++ [x]))) (hx : Cx w B mb ob mp x) :
    Mr (w'.setCell ⟨mb, 3, none⟩ v') B g mb ob mp N os ns L (cs ++ [x]) v' := by
  obtain ⟨n1, n2, n3⟩ := h.ne
  obtain ⟨l1, l2, l3, l4⟩ := h.lt
  have hne : ∀ b, b < B → some b ≠ v.ownBlock := fun b hb e => by have := (h.row.lt b e.symm).1; omega
  have hm : Mine mb ob mp v v.ownBlock := fun r e => .inr (.inr (.inr e))
  have hg2 := grown_set w' ⟨mb, 3, none⟩ v'
  have hm2 : Mine mb ob mp v' (some mb) := fun r e => by simp only [Option.some.injEq] at e; omega
  have hbox := h.boxKept hg (hne mb l1)
  have hvm : v'.ownBlock = none ∨ v'.ownBlock ≠ some mb := by
    cases ho : v'.ownBlock with
    | none => exact .inl rfl
    | some b => right; have := (hrow.lt b ho).1; simp only [ne_eq, Option.some.injEq]; omega
  have hx1 : Cx w' B mb ob mp x := hx.kept h hg hm
  have hs := hg.size
  have hown : ∀ {b : Nat}, Far B mb ob mp b → some b ≠ (some mb : Option Nat) := fun hb e => by simp only [Option.some.injEq] at e; have := hb.2.1; omega
  have hfar : ∀ {b : Nat}, Far B mb ob mp b → some b ≠ v.ownBlock := fun hb => hne _ hb.1
  have hcx : ∀ y, Cx w' B mb ob mp y → Cx (w'.setCell ⟨mb, 3, none⟩ v') B mb ob mp y := fun y hy => by
    refine ⟨hy.first.kept hg2 (fun b off e => hown (hy.far b off e)), hy.far, hy.long, hy.arcs.kept hg2 ?_, hy.wfs⟩
    cases ho : y.st.s.ownBlock with
    | none => exact .inl rfl
    | some b => right; have := (hy.arcs.lt b ho).1; simp only [ne_eq, Option.some.injEq]; omega
  refine ⟨⟨l1, l2, l3, by have := hg2.size; omega⟩, h.ne, h.gfar, ?_, fun k hk => hg2.cell (hg.cell (h.begs k hk) (hfar h.gfar)) (hown h.gfar), fun y hy => Sl.kept (Sl.kept (h.words y hy) hg (fun b off e => hfar (h.far y hy b off e))) hg2 (fun b off e => hown (h.far y hy b off e)), h.far,
    (h.of.kept hg (.inr (hne ob l2))).kept hg2 (.inr (by simp only [Value.ownBlock, ne_eq, Option.some.injEq]; omega)), h.ofw, (h.map.kept hg (hne mp l3)).kept hg2 (by simp only [ne_eq, Option.some.injEq]; omega), ?_, fun y hy => ?_⟩
  · rw [heap_setCell_same _ _ _ _ _ _ hbox]; rfl
  · rw [List.length_append, List.length_singleton]; exact hrow.kept hg2 hvm
  · rcases List.mem_append.1 hy with hy | hy
    · exact hcx y ((h.each y hy).kept h hg hm)
    · rw [List.mem_singleton.1 hy]; exact hcx x hx1
theorem getD_mem' {cs : List Cw} {k : Nat} (hk : k < cs.length) : cs.getD k Cw.no ∈ cs := by
  rw [List.getD_eq_getElem?_getD, List.getElem?_eq_getElem hk, Option.getD_some]; exact List.getElem_mem _
theorem Mr.cell {w : World} {B g mb ob mp N : Nat} {os : List Wd} {ns : List Int} {L : List St} {cs cs' : List Cw} {cb cc k i : Nat} {u : Value} {x : Cw} (h : Mr w B g mb ob mp N os ns L cs (.slice (some ⟨cb, 0, none⟩) cs.length cc)) (he : cs' = cs.set k x)
    (hc : ccells cs' = (ccells cs).set i u) (hx : Cx (w.setCell ⟨cb, i, none⟩ u) B mb ob mp x) : Mr (w.setCell ⟨cb, i, none⟩ u) B g mb ob mp N os ns L cs' (.slice (some ⟨cb, 0, none⟩) cs.length cc) := by
  obtain ⟨n1, n2, n3⟩ := h.ne
  obtain ⟨l1, l2, l3, l4⟩ := h.lt
  have hcb := (h.row.lt cb rfl).1
  have hg := grown_set w ⟨cb, i, none⟩ u
  have hl : cs'.length = cs.length := by rw [he, List.length_set]
  refine h.step hg (fun r e => by simp only [Option.some.injEq] at e; exact .inr (.inr (.inr (by rw [← e]; rfl)))) (h.boxKept hg (by simp only [ne_eq, Option.some.injEq]; omega)) (h.of.kept hg (.inr (by simp only [Value.ownBlock, ne_eq, Option.some.injEq]; omega))) h.ofw (h.map.kept hg (by simp only [ne_eq, Option.some.injEq]; omega)) ?_ (fun y hy => ?_)
  · rw [hl, hc]
    exact (h.row.stored i u).1
  · rw [he] at hy
    rcases List.mem_or_eq_of_mem_set hy with hy | rfl
    · exact .inl hy
    · exact .inr hx
theorem Mr.long {w : World} {B g mb ob mp N : Nat} {os : List Wd} {ns : List Int} {L : List St} {cs : List Cw} {cb cc k : Nat} {x : Cw} (h : Mr w B g mb ob mp N os ns L cs (.slice (some ⟨cb, 0, none⟩) cs.length cc)) (hk : k < cs.length) (hx : cs.getD k Cw.no = x) (m : Nat) (hm : m ≤ 1000) :
    Mr (w.setCell ⟨cb, k * 5 + 1, none⟩ (.int .i64 (m : Int))) B g mb ob mp N os ns L (cs.set k { x with long := m }) (.slice (some ⟨cb, 0, none⟩) cs.length cc) := by
  refine h.cell (k := k) rfl (ccells_set hk hx m) ?_
  have hc := (h.each x (by rw [← hx]; exact getD_mem' hk)).kept h (grown_set w ⟨cb, k * 5 + 1, none⟩ (.int .i64 (m : Int))) (fun r e => by simp only [Option.some.injEq] at e; exact .inr (.inr (.inr (by rw [← e]; rfl))))
  exact ⟨hc.first, hc.far, hm, hc.arcs, hc.wfs⟩
theorem Mr.first {w : World} {B g mb ob mp N : Nat} {os : List Wd} {ns : List Int} {L : List St} {cs : List Cw} {cb cc k : Nat} {x : Cw} (h : Mr w B g mb ob mp N os ns L cs (.slice (some ⟨cb, 0, none⟩) cs.length cc)) (hk : k < cs.length) (hx : cs.getD k Cw.no = x) (a : Option Addr) (n c : Nat) (z : List Int)
    (hs : Sl .i64 w a n c z) (hf : ∀ b off, a = some ⟨b, off, none⟩ → Far B mb ob mp b) :
    Mr (w.setCell ⟨cb, k * 5 + 2, none⟩ (.slice a n c)) B g mb ob mp N os ns L (cs.set k { x with fa := a, fn := n, fc := c, first := z }) (.slice (some ⟨cb, 0, none⟩) cs.length cc) := by
  refine h.cell (k := k) rfl (ccells_first hk hx a n c z) ?_
  have hm : Mine mb ob mp (.slice (some ⟨cb, 0, none⟩) cs.length cc) (some cb) := fun r e => by simp only [Option.some.injEq] at e; exact .inr (.inr (.inr (by rw [← e]; rfl)))
  have hg := grown_set w ⟨cb, k * 5 + 2, none⟩ (.slice a n c)
  have hc := (h.each x (by rw [← hx]; exact getD_mem' hk)).kept h hg hm
  exact ⟨hs.kept hg (fun b off e => h.own hm (hf b off e)), hf, hc.long, hc.arcs, hc.wfs⟩
theorem Mr.drew {w : World} {B g mb ob mp N : Nat} {os : List Wd} {ns : List Int} {L : List St} {cs : List Cw} {v : Value} (h : Mr w B g mb ob mp N os ns L cs v) (q : Nat) : Mr (w.drewN q) B g mb ob mp N os ns L cs v := h.below (below_drawn (Below.refl _ w) ⟨q, rfl⟩)
end Go.Proofs.Ytimjdlbhbiklgaa
