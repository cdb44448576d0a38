import Derived.Shelf.SlSortCmp.WholeK
import Derived.Test.YtpcebfefbnpbpaaRuleApp
import Derived.Test.YtpcebfefbnpbpaaRuleShelf
import Derived.Test.YtpcebfefbnpbpaaPackB
set_option linter.all false
set_option maxRecDepth 100000
set_option maxHeartbeats 12800000
namespace Go.Proofs.Ytpcebfefbnpbpaa
section
open Go.RowKit Go.Sort

/-- what the library asks of the rules that it sorts: each can be read where the call began -/
abbrev GRw (w : World) : Type := { x : Rw // x.Good w }
instance (w : World) : Inhabited (GRw w) := ⟨⟨Rw.no, Rw.no_good w⟩⟩
def GRw.enc {w : World} (x : GRw w) : List Value := x.1.cells

theorem below_grow {B : Nat} {w W : World} (h : Below B w W) (hB : B ≤ W.heap.size) (q : Nat) (os : Array Obj) : Below B w (grow (W.drewN q) os) := by
  refine h.trans ⟨rfl, rfl, rfl, ?_, fun i hi => ?_⟩
  · show W.heap.size ≤ (W.heap ++ os).size
    simp
  · show (W.heap ++ os)[i]? = _
    rw [Array.getElem?_append_left (by omega)]
theorem below_sortedK {w W : World} {B blk off m : Nat} {dk : Array (GRw w)} {os : Array Obj} (h : Below B w W) (hb : B ≤ blk) (hblk : blk < W.heap.size) :
    Below B w (sortWorldK GRw.enc 3 W blk off m dk os) := by
  refine h.trans ⟨rfl, rfl, rfl, ?_, fun i hi => ?_⟩
  · unfold sortWorldK putRowK
    rw [Sort.size_grow, Sort.size_putRow]
    show W.heap.size ≤ W.heap.size + _
    omega
  · unfold sortWorldK Sort.grow putRowK
    show ((Sort.putRow id (Sort.ahead W m) blk off _).heap ++ os)[i]? = _
    rw [Array.getElem?_append_left (by rw [Sort.size_putRow]; show i < W.heap.size; omega)]
    unfold Sort.putRow Sort.mapBlock
    show (W.heap.modify blk _)[i]? = _
    rw [Array.getElem?_modify, if_neg (by omega)]

/-- a row of rules that the call owns, as the library reads it -/
theorem holdsK_own {w W : World} {B blk n cap : Nat} {xs : List Rw} (hg : ∀ x ∈ xs, x.Good w) (hn : xs.length = n)
    (ho : W.ownsRow B 41 3 (.slice (some ⟨blk, 0, none⟩) n cap) n (rcells xs)) :
    HoldsK (GRw.enc (w := w)) 3 W blk 0 (xs.attachWith (fun x => x.Good w) hg).toArray := by
  obtain ⟨d, hd⟩ : ∃ d : Array (GRw w), d = (xs.attachWith (fun x => x.Good w) hg).toArray := ⟨_, rfl⟩
  rw [← hd]
  have hds : d.size = n := by rw [hd]; simp [hn]
  have hdv : ∀ j, j < d.size → (d[j]!).1 = xs.getD j Rw.no := by
    intro j hj
    have hjx : j < xs.length := by omega
    rw [getElem!_pos d j hj]
    subst hd
    simp [hjx]
  intro j hj
  rw [size_flatK] at hj
  have hq : j / 3 < d.size := by omega
  have h3 : j % 3 < 3 := Nat.mod_lt _ (by omega)
  have hje : j = j / 3 * 3 + j % 3 := by omega
  rw [get_flatK _ _ _ _ hj]
  refine ⟨?_, ho.frozenAt (0 + j)⟩
  have hc := ho.cellAt j (by omega)
  rw [Nat.zero_add, hc]
  have hat := rcells_at xs (j / 3) (j % 3) (by omega) h3
  rw [← hje] at hat
  rw [hat, show GRw.enc d[j / 3]! = (d[j / 3]!).1.cells from rfl, hdv _ hq]
  rw [List.getElem?_eq_getElem (by simp [Rw.cells]; omega)]
  simp only [id_eq]
  rw [getElem!_pos _ _ (by simp [Rw.cells]; omega)]

theorem lessR_ntrans {a b c : Rul} (h1 : lessR a b = false) (h2 : lessR b c = false) : lessR a c = false := by
  cases h : lessR a c with
  | false => rfl
  | true =>
    cases h3 : lessR c b with
    | true => rw [lessR_trans h h3] at h1; cases h1
    | false => have := lessR_total h2 h3; subst this; rw [h] at h1; exact h1
/-- a function that tells which of two rules stands ahead, or which by its sides alone -/
theorem swo_lessR {w : World} {cf : Rul → Rul → Int} (h : ∀ a b, decide (cf a b < 0) = lessR a b) : SWO (ltOf fun x y : GRw w => cf x.1.r y.1.r) where
  irrefl x := by show decide (cf _ _ < 0) = _; rw [h]; exact lessR_irrefl _
  trans x y z h1 h2 := by
    have h1' : decide (cf x.1.r y.1.r < 0) = true := h1
    have h2' : decide (cf y.1.r z.1.r < 0) = true := h2
    show decide (cf _ _ < 0) = _
    rw [h] at *; exact lessR_trans h1' h2'
  ntrans x y z h1 h2 := by
    have h1' : decide (cf x.1.r y.1.r < 0) = false := h1
    have h2' : decide (cf y.1.r z.1.r < 0) = false := h2
    show decide (cf _ _ < 0) = _
    rw [h] at *; exact lessR_ntrans h1' h2'
theorem swo_lessS {w : World} {cf : Rul → Rul → Int} (h : ∀ a b, decide (cf a b < 0) = lessS a b) : SWO (ltOf fun x y : GRw w => cf x.1.r y.1.r) where
  irrefl x := by show decide (cf _ _ < 0) = _; rw [h]; exact lessS_irrefl _
  trans x y z h1 h2 := by
    have h1' : decide (cf x.1.r y.1.r < 0) = true := h1
    have h2' : decide (cf y.1.r z.1.r < 0) = true := h2
    show decide (cf _ _ < 0) = _
    rw [h] at *; exact lessS_trans h1' h2'
  ntrans x y z h1 h2 := by
    have h1' : decide (cf x.1.r y.1.r < 0) = false := h1
    have h2' : decide (cf y.1.r z.1.r < 0) = false := h2
    show decide (cf _ _ < 0) = _
    rw [h] at *; exact lessS_ntrans h1' h2'

/-- slices.SortFunc at rules: what is sorted is a permutation, in the order of cf -/
theorem sortRules_any {w W : World} {blk n cap : Nat} (g : Nat) (cf : Rul → Rul → Int) (hO : SWO (ltOf fun x y : GRw w => cf x.1.r y.1.r)) (eg : ∀ args w, (callFunc g args).run Try.prog w = .ok (.enter g args) w)
    (hcmp : ∀ (x y : Rw) (V : World), x.Good V → y.Good V → Calls Try.prog g #[x.v, y.v] V fun e V' => e = .returned (.int .i64 (cf x.r y.r)) ∧ ∃ q os, V' = grow (V.drewN q) os)
    (xs : List Rw) (hg : ∀ x ∈ xs, x.Good w) (hn : xs.length = n) (hn9 : n ≤ 1000) (hb : Below w.heap.size w W)
    (ho : W.ownsRow w.heap.size 41 3 (.slice (some ⟨blk, 0, none⟩) n cap) n (rcells xs)) (hl : w.heap.size ≤ blk) (hblk : blk < W.heap.size) (hcap : n ≤ cap ∧ cap ≤ maxLen) :
    Calls Try.prog 46 #[.slice (some ⟨blk, 0, none⟩) n cap, .func (.func g) #[] #[]] W fun e w' => e = .returned (.tuple #[]) ∧ ∃ ys, Rs w' (some ⟨blk, 0, none⟩) n cap ys ∧
      (ruls ys).Perm (ruls xs) ∧ (ruls ys).Pairwise (fun a b => ¬ cf b a < 0) ∧ (∀ y ∈ ys, y ∈ xs) ∧ Below w.heap.size w w' := by
  obtain ⟨d, hd⟩ : ∃ d : Array (GRw w), d = (xs.attachWith (fun x => x.Good w) hg).toArray := ⟨_, rfl⟩
  have hds : d.size = n := by rw [hd]; simp [hn]
  have hH := holdsK_own hg hn ho
  rw [← hd] at hH
  have hlays : CmpLays Try.prog g #[] (GRw.enc (w := w)) 3 (fun x y : GRw w => cf x.1.r y.1.r) blk 0 d.size W := fun m os dk _ x y => by
    have h1 := below_sortedK (m := m) (dk := dk) (os := os) (off := 0) hb hl hblk
    exact hcmp x.1 y.1 _ (x.2.below h1 (Nat.le_refl _)) (y.2.below h1 (Nat.le_refl _))
  have hS := AnyQ.slices_SortFunc Try.sortR 3 Try.isAgg41 Try.sizeOf41 (GRw.enc (w := w)) (fun _ => rfl) (fun x v hv => rcells_one [x.1] v (by simpa [rcells, GRw.enc] using hv)) (fun x y : GRw w => cf x.1.r y.1.r) hO g #[] blk 0 cap d W eg hlays hH hblk (by omega)
  rw [hds] at hS
  change Calls Try.prog 46 _ _ _ at hS
  refine hS.mono fun e w' hh' => ?_
  obtain ⟨he, d', q, os, hp, hs, hw⟩ := hh'
  have hd's : d'.size = n := by rw [hp.1, hds]
  have hperm : d'.toList.Perm d.toList := by
    have := hp.2.2
    rw [Array.extract_eq_self_of_le (by omega), Array.extract_eq_self_of_le (by omega)] at this
    exact this
  have hdl : d.toList.map (fun x => x.1) = xs := by rw [hd]; simp
  have hB := below_sortedK (os := os) (dk := d') (m := q) (off := 0) hb hl hblk
  have hHo := holdsK_sortWorldK (GRw.enc (w := w)) 3 W blk 0 q d d' os hblk hH (by omega)
  refine ⟨he, d'.toList.map (fun x => x.1), ⟨by simp [hd's], hcap.1, hcap.2, fun y hy => ?_, .inr ⟨blk, 0, rfl, fun i hi => ?_⟩⟩, ?_, ?_, ?_, ?_⟩
  · obtain ⟨x, _, rfl⟩ := List.mem_map.1 hy
    rw [hw]
    exact x.2.below hB (Nat.le_refl _)
  · have hi' : i < d'.size := by omega
    have e : (d'.toList.map (fun x => x.1)).getD i Rw.no = (d'[i]!).1 := by rw [getElem!_pos d' i hi']; simp [hi']
    rw [e, hw]
    have hc : ∀ c, c < 3 → (sortWorldK GRw.enc 3 W blk 0 q d' os).cell? ⟨blk, 0 + i * 3 + c, none⟩ = (d'[i]!).1.cells[c]? := fun c hc3 => by
      rw [(hHo.cell hi' hc3).1, List.getElem?_eq_getElem (by simp [Rw.cells]; omega)]
      rw [getElem!_pos _ c (by simp [GRw.enc, Rw.cells]; omega)]
      rfl
    exact ⟨hc 0 (by omega), hc 1 (by omega), hc 2 (by omega)⟩
  · unfold ruls
    rw [← hdl]
    exact (hperm.map _).map _
  · unfold ruls
    rw [List.map_map, List.pairwise_map, List.pairwise_iff_getElem]
    intro i j hi hj hij
    have h := hs i j (Nat.zero_le _) hij (by simpa [hds, hd's] using hj)
    rw [getElem!_pos d' j (by simpa using hj), getElem!_pos d' i (by simpa using hi)] at h
    simpa [ltOf] using h
  · intro y hy
    rw [← hdl]
    obtain ⟨x, hx, rfl⟩ := List.mem_map.1 hy
    exact List.mem_map.2 ⟨x, hperm.mem_iff.1 hx, rfl⟩
  · rw [hw]; exact hB

end
section
open Go.RowKit Go.Sort

theorem grown_sortedK {α : Type} [Inhabited α] {enc : α → List Value} {W : World} {blk off m : Nat} {dk : Array α} {os : Array Obj} : W.grownBy (sortWorldK enc 3 W blk off m dk os) (some blk) := by
  refine ⟨rfl, rfl, rfl, ?_, fun i hi hne => ?_⟩
  · unfold sortWorldK putRowK
    rw [Sort.size_grow, Sort.size_putRow]
    show W.heap.size ≤ W.heap.size + _
    omega
  · unfold sortWorldK Sort.grow putRowK
    show ((Sort.putRow id (Sort.ahead W m) blk off _).heap ++ os)[i]? = _
    rw [Array.getElem?_append_left (by rw [Sort.size_putRow]; show i < W.heap.size; omega)]
    unfold Sort.putRow Sort.mapBlock
    show (W.heap.modify blk _)[i]? = _
    rw [Array.getElem?_modify, if_neg (fun e => hne (by rw [e]))]

/-- what the library asks of the rules that it sorts: each can be read while that row alone is turned -/
abbrev FRw (W : World) (blk : Nat) : Type := { x : Rw // ∀ V, W.grownBy V (some blk) → x.Good V }
instance (W : World) (blk : Nat) : Inhabited (FRw W blk) := ⟨⟨Rw.no, fun V _ => Rw.no_good V⟩⟩
def FRw.enc {W : World} {blk : Nat} (x : FRw W blk) : List Value := x.1.cells

/-- a row of rules that the call owns, as the library reads it -/
theorem holdsK_far {W : World} {B blk n cap : Nat} {xs : List Rw} (hg : ∀ x ∈ xs, ∀ V, W.grownBy V (some blk) → x.Good V) (hn : xs.length = n)
    (ho : W.ownsRow B 41 3 (.slice (some ⟨blk, 0, none⟩) n cap) n (rcells xs)) :
    HoldsK (FRw.enc (W := W) (blk := blk)) 3 W blk 0 (xs.attachWith (fun x => ∀ V, W.grownBy V (some blk) → x.Good V) hg).toArray := by
  obtain ⟨d, hd⟩ : ∃ d : Array (FRw W blk), d = (xs.attachWith (fun x => ∀ V, W.grownBy V (some blk) → x.Good V) hg).toArray := ⟨_, rfl⟩
  rw [← hd]
  have hds : d.size = n := by rw [hd]; simp [hn]
  have hdv : ∀ j, j < d.size → (d[j]!).1 = xs.getD j Rw.no := by
    intro j hj
    have hjx : j < xs.length := by omega
    rw [getElem!_pos d j hj]
    subst hd
    simp [hjx]
  intro j hj
  rw [size_flatK] at hj
  have hq : j / 3 < d.size := by omega
  have h3 : j % 3 < 3 := Nat.mod_lt _ (by omega)
  have hje : j = j / 3 * 3 + j % 3 := by omega
  rw [get_flatK _ _ _ _ hj]
  refine ⟨?_, ho.frozenAt (0 + j)⟩
  have hc := ho.cellAt j (by omega)
  rw [Nat.zero_add, hc]
  have hat := rcells_at xs (j / 3) (j % 3) (by omega) h3
  rw [← hje] at hat
  rw [hat, show FRw.enc d[j / 3]! = (d[j / 3]!).1.cells from rfl, hdv _ hq]
  rw [List.getElem?_eq_getElem (by simp [Rw.cells]; omega)]
  simp only [id_eq]
  rw [getElem!_pos _ _ (by simp [Rw.cells]; omega)]

/-- a function that tells which of two rules stands ahead, or which by its sides alone -/
theorem swo_farR {W : World} {blk : Nat} {cf : Rul → Rul → Int} (h : ∀ a b, decide (cf a b < 0) = lessR a b) : SWO (ltOf fun x y : FRw W blk => cf x.1.r y.1.r) where
  irrefl x := by show decide (cf _ _ < 0) = _; rw [h]; exact lessR_irrefl _
  trans x y z h1 h2 := by
    have h1' : decide (cf x.1.r y.1.r < 0) = true := h1
    have h2' : decide (cf y.1.r z.1.r < 0) = true := h2
    show decide (cf _ _ < 0) = _
    rw [h] at *; exact lessR_trans h1' h2'
  ntrans x y z h1 h2 := by
    have h1' : decide (cf x.1.r y.1.r < 0) = false := h1
    have h2' : decide (cf y.1.r z.1.r < 0) = false := h2
    show decide (cf _ _ < 0) = _
    rw [h] at *; exact lessR_ntrans h1' h2'
/-- slices.SortFunc at rules: what is sorted is a permutation, in the order of cf -/
theorem owns_of_rs {w : World} {B b n cap : Nat} {xs : List Rw} {cur : Array Value} (h : Rs w (some ⟨b, 0, none⟩) n cap xs) (hb : B ≤ b) (hh : w.heap[b]? = some (.cells cur 41 (0, 0))) (hs : cur.size = cap * 3) :
    w.ownsRow B 41 3 (.slice (some ⟨b, 0, none⟩) n cap) n (rcells xs) := by
  have hl := h.1
  have hnc := h.2.1
  refine ⟨by rw [rcells_length, hl], .inr ⟨b, cap, cur, rfl, hb, hh, hnc, h.2.2.1, hs, ?_⟩⟩
  refine List.ext_getElem? fun t => ?_
  by_cases ht : t < n * 3
  · rw [List.getElem?_take_of_lt ht, Array.getElem?_toList]
    obtain ⟨i, j, hi, hj, rfl⟩ : ∃ i j, i < n ∧ j < 3 ∧ t = i * 3 + j := ⟨t / 3, t % 3, by omega, by omega, by omega⟩
    rw [rcells_at xs i j (by omega) hj]
    obtain ⟨b', off', e, hc⟩ := h.2.2.2.2.resolve_left (by omega)
    simp only [Option.some.injEq, Addr.mk.injEq, and_true] at e
    obtain ⟨rfl, rfl⟩ := e
    obtain ⟨c1, c2, c3⟩ := hc i hi
    simp only [World.cell?, hh] at c1 c2 c3
    have e0 : ∀ q : Nat, 0 + i * 3 + q = i * 3 + q := fun q => by omega
    rcases (by omega : j = 0 ∨ j = 1 ∨ j = 2) with rfl | rfl | rfl
    · simpa [Rw.cells] using c1
    · rw [e0] at c2; simpa [Rw.cells] using c2
    · rw [e0] at c3; simpa [Rw.cells] using c3
  · rw [List.getElem?_eq_none (by simp; omega), List.getElem?_eq_none (by rw [rcells_length, hl]; omega)]
theorem sorted_block {α : Type} [Inhabited α] {enc : α → List Value} {k blk off m : Nat} {w : World} {d : Array α} {os : Array Obj} {cur : Array Value} {t : TypeId} {fr : Nat × Nat} (h : w.heap[blk]? = some (.cells cur t fr)) :
    ∃ cur', (sortWorldK enc k w blk off m d os).heap[blk]? = some (.cells cur' t fr) ∧ cur'.size = cur.size := by
  have hlt := (Array.getElem?_eq_some_iff.1 h).1
  refine ⟨putCells id off (flatK enc k d) cur, ?_, by simp [putCells]⟩
  unfold sortWorldK grow
  show ((putRowK enc k (Sort.ahead w m) blk off d).heap ++ os)[blk]? = _
  have h1 : (putRowK enc k (Sort.ahead w m) blk off d).heap[blk]? = some (.cells (putCells id off (flatK enc k d) cur) t fr) := by
    unfold putRowK putRow mapBlock
    show (Array.modify w.heap blk _)[blk]? = _
    rw [Array.getElem?_modify, if_pos rfl, h]; rfl
  rw [Array.getElem?_append_left (Array.getElem?_eq_some_iff.1 h1).1]; exact h1
theorem sortRules_far {W : World} {B blk n cap : Nat} (g : Nat) (cf : Rul → Rul → Int) (hO : SWO (ltOf fun x y : FRw W blk => cf x.1.r y.1.r)) (eg : ∀ args w, (callFunc g args).run Try.prog w = .ok (.enter g args) w)
    (hcmp : ∀ (x y : Rw) (V : World), x.Good V → y.Good V → Calls Try.prog g #[x.v, y.v] V fun e V' => e = .returned (.int .i64 (cf x.r y.r)) ∧ ∃ q os, V' = grow (V.drewN q) os)
    (xs : List Rw) (hg : ∀ x ∈ xs, ∀ V, W.grownBy V (some blk) → x.Good V) (hn : xs.length = n) (hn9 : n ≤ 20000)
    (ho : W.ownsRow B 41 3 (.slice (some ⟨blk, 0, none⟩) n cap) n (rcells xs)) (hblk : blk < W.heap.size) (hcap : n ≤ cap ∧ cap ≤ maxLen) :
    Calls Try.prog 46 #[.slice (some ⟨blk, 0, none⟩) n cap, .func (.func g) #[] #[]] W fun e w' => e = .returned (.tuple #[]) ∧ ∃ ys, Rs w' (some ⟨blk, 0, none⟩) n cap ys ∧
      (ruls ys).Perm (ruls xs) ∧ (ruls ys).Pairwise (fun a b => ¬ cf b a < 0) ∧ (∀ y ∈ ys, y ∈ xs) ∧ W.grownBy w' (some blk) ∧ w'.ownsRow B 41 3 (.slice (some ⟨blk, 0, none⟩) n cap) n (rcells ys) := by
  obtain ⟨d, hd⟩ : ∃ d : Array (FRw W blk), d = (xs.attachWith (fun x => ∀ V, W.grownBy V (some blk) → x.Good V) hg).toArray := ⟨_, rfl⟩
  have hds : d.size = n := by rw [hd]; simp [hn]
  have hH := holdsK_far hg hn ho
  rw [← hd] at hH
  have hlays : CmpLays Try.prog g #[] (FRw.enc (W := W) (blk := blk)) 3 (fun x y : FRw W blk => cf x.1.r y.1.r) blk 0 d.size W := fun m os dk _ x y => by
    exact hcmp x.1 y.1 _ (x.2 _ grown_sortedK) (y.2 _ grown_sortedK)
  have hS := AnyQ.slices_SortFunc Try.sortR 3 Try.isAgg41 Try.sizeOf41 (FRw.enc (W := W) (blk := blk)) (fun _ => rfl) (fun x v hv => rcells_one [x.1] v (by simpa [rcells, FRw.enc] using hv)) (fun x y : FRw W blk => cf x.1.r y.1.r) hO g #[] blk 0 cap d W eg hlays hH hblk (by omega)
  rw [hds] at hS
  change Calls Try.prog 46 _ _ _ at hS
  refine hS.mono fun e w' hh' => ?_
  obtain ⟨he, d', q, os, hp, hs, hw⟩ := hh'
  have hd's : d'.size = n := by rw [hp.1, hds]
  have hperm : d'.toList.Perm d.toList := by
    have := hp.2.2
    rw [Array.extract_eq_self_of_le (by omega), Array.extract_eq_self_of_le (by omega)] at this
    exact this
  have hdl : d.toList.map (fun x => x.1) = xs := by rw [hd]; simp
  have hB : W.grownBy (sortWorldK FRw.enc 3 W blk 0 q d' os) (some blk) := grown_sortedK
  have hHo := holdsK_sortWorldK (FRw.enc (W := W) (blk := blk)) 3 W blk 0 q d d' os hblk hH (by omega)
  have hRS : Rs w' (some ⟨blk, 0, none⟩) n cap (d'.toList.map (fun x => x.1)) := by
   refine ⟨by simp [hd's], hcap.1, hcap.2, fun y hy => ?_, .inr ⟨blk, 0, rfl, fun i hi => ?_⟩⟩
   · obtain ⟨x, _, rfl⟩ := List.mem_map.1 hy
     rw [hw]
     exact x.2 _ hB
   · have hi' : i < d'.size := by omega
     have e : (d'.toList.map (fun x => x.1)).getD i Rw.no = (d'[i]!).1 := by rw [getElem!_pos d' i hi']; simp [hi']
     rw [e, hw]
     have hc : ∀ c, c < 3 → (sortWorldK FRw.enc 3 W blk 0 q d' os).cell? ⟨blk, 0 + i * 3 + c, none⟩ = (d'[i]!).1.cells[c]? := fun c hc3 => by
       rw [(hHo.cell hi' hc3).1, List.getElem?_eq_getElem (by simp [Rw.cells]; omega)]
       rw [getElem!_pos _ c (by simp [FRw.enc, Rw.cells]; omega)]
       rfl
     exact ⟨hc 0 (by omega), hc 1 (by omega), hc 2 (by omega)⟩
  refine ⟨he, d'.toList.map (fun x => x.1), hRS, ?_, ?_, ?_, ?_, ?_⟩
  · unfold ruls
    rw [← hdl]
    exact (hperm.map _).map _
  · unfold ruls
    rw [List.map_map, List.pairwise_map, List.pairwise_iff_getElem]
    intro i j hi hj hij
    have h := hs i j (Nat.zero_le _) hij (by simpa [hds, hd's] using hj)
    rw [getElem!_pos d' j (by simpa using hj), getElem!_pos d' i (by simpa using hi)] at h
    simpa [ltOf] using h
  · intro y hy
    rw [← hdl]
    obtain ⟨x, hx, rfl⟩ := List.mem_map.1 hy
    exact List.mem_map.2 ⟨x, hperm.mem_iff.1 hx, rfl⟩
  · rw [hw]; exact hB
  · rcases ho.2 with h8 | ⟨g, cap', cur, hv, hgb, hh, h1, h2, h3, _⟩
    · cases h8.1
    · simp only [Value.slice.injEq, Option.some.injEq, Addr.mk.injEq, and_true, true_and] at hv
      obtain ⟨rfl, rfl⟩ := hv
      obtain ⟨cur', hc1, hc2⟩ := sorted_block (enc := FRw.enc (W := W) (blk := blk)) (k := 3) (off := 0) (m := q) (d := d') (os := os) hh
      exact owns_of_rs hRS hgb (by rw [hw]; exact hc1) (by rw [hc2, h3])

end
end Go.Proofs.Ytpcebfefbnpbpaa
