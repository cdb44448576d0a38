/- slices.SortFunc at rules whose sides lie wherever they lie, but not in the row that is sorted. -/
import Derived.Test.YtcpilhgofdnigaaRuleSort
namespace Go.Proofs.Ytcpilhgofdnigaa
open Go.RowKit Go.Sort

/-- a rule whose cells lie elsewhere than in block k -/
def Slf (k : Option Nat) (a : Option Addr) (n : Nat) : Prop := n = 0 ∨ ∃ b off, a = some ⟨b, off, none⟩ ∧ k ≠ some b
def Rw.Far (k : Option Nat) (x : Rw) : Prop := Slf k x.la x.ln ∧ Slf k x.ra x.rn
theorem Sl.grown {q : IntKind} {w w' : World} {a : Option Addr} {n cap : Nat} {zs : List Int} {k : Option Nat} (h : Sl q w a n cap zs) (hg : w.grownBy w' k) (hf : Slf k a n) : Sl q w' a n cap zs := by
  obtain ⟨h1, h2, h3, h4, h5⟩ := h
  refine ⟨h1, h2, h3, h4, ?_⟩
  rcases h5 with h5 | ⟨b, off, ha, hc⟩
  · exact .inl h5
  · rcases hf with hf | ⟨b', off', ha', hk⟩
    · exact .inl hf
    · rw [ha] at ha'
      simp only [Option.some.injEq, Addr.mk.injEq, and_true] at ha'
      obtain ⟨rfl, rfl⟩ := ha'
      exact .inr ⟨b, off, ha, fun i hi => hg.cell (hc i hi) (fun e => hk e.symm)⟩
theorem Rw.Good.grown {w w' : World} {x : Rw} {k : Option Nat} (h : x.Good w) (hg : w.grownBy w' k) (hf : x.Far k) : x.Good w' := ⟨h.1.grown hg hf.1, h.2.1.grown hg hf.2, h.2.2⟩

theorem grown_sortedK {α : Type} [Inhabited α] {enc : α → List Value} {W : World} {blk off m : Nat} {dk : Array α} {os : Array Obj} : W.grownBy (sortWorldK enc 3 W blk off m dk os) (some blk) := by
  refine ⟨rfl, rfl, rfl, ?_, fun i hi hne => ?_⟩
  · unfold sortWorldK putRowK
    rw [Sort.size_grow, Sort.size_putRow]
    show W.heap.size ≤ W.heap.size + _
    omega
  · unfold sortWorldK Sort.grow putRowK
    show ((Sort.putRow id (Sort.ahead W m) blk off _).heap ++ os)[i]? = _
    rw [Array.getElem?_append_left (by rw [Sort.size_putRow]; show i < W.heap.size; omega)]
    unfold Sort.putRow Sort.mapBlock
    show (W.heap.modify blk _)[i]? = _
    rw [Array.getElem?_modify, if_neg (fun e => hne (by rw [e]))]

/-- what the library asks of the rules that it sorts: each can be read while that row alone is turned -/
abbrev FRw (W : World) (blk : Nat) : Type := { x : Rw // ∀ V, W.grownBy V (some blk) → x.Good V }
instance (W : World) (blk : Nat) : Inhabited (FRw W blk) := ⟨⟨Rw.no, fun V _ => Rw.no_good V⟩⟩
def FRw.enc {W : World} {blk : Nat} (x : FRw W blk) : List Value := x.1.cells

/-- a row of rules that the call owns, as the library reads it -/
theorem holdsK_far {W : World} {B blk n cap : Nat} {xs : List Rw} (hg : ∀ x ∈ xs, ∀ V, W.grownBy V (some blk) → x.Good V) (hn : xs.length = n)
    (ho : W.ownsRow B 26 3 (.slice (some ⟨blk, 0, none⟩) n cap) n (rcells xs)) :
    HoldsK (FRw.enc (W := W) (blk := blk)) 3 W blk 0 (xs.attachWith (fun x => ∀ V, W.grownBy V (some blk) → x.Good V) hg).toArray := by
  obtain ⟨d, hd⟩ : ∃ d : Array (FRw W blk), d = (xs.attachWith (fun x => ∀ V, W.grownBy V (some blk) → x.Good V) hg).toArray := ⟨_, rfl⟩
  rw [← hd]
  have hds : d.size = n := by rw [hd]; simp [hn]
  have hdv : ∀ j, j < d.size → (d[j]!).1 = xs.getD j Rw.no := by
    intro j hj
    have hjx : j < xs.length := by omega
    rw [getElem!_pos d j hj]
    subst hd
    simp [hjx]
  intro j hj
  rw [size_flatK] at hj
  have hq : j / 3 < d.size := by omega
  have h3 : j % 3 < 3 := Nat.mod_lt _ (by omega)
  have hje : j = j / 3 * 3 + j % 3 := by omega
  rw [get_flatK _ _ _ _ hj]
  refine ⟨?_, ho.frozenAt (0 + j)⟩
  have hc := ho.cellAt j (by omega)
  rw [Nat.zero_add, hc]
  have hat := rcells_at xs (j / 3) (j % 3) (by omega) h3
  rw [← hje] at hat
  rw [hat, show FRw.enc d[j / 3]! = (d[j / 3]!).1.cells from rfl, hdv _ hq]
  rw [List.getElem?_eq_getElem (by simp [Rw.cells]; omega)]
  simp only [id_eq]
  rw [getElem!_pos _ _ (by simp [Rw.cells]; omega)]

/-- a function that tells which of two rules stands ahead, or which by its sides alone -/
theorem swo_farR {W : World} {blk : Nat} {cf : Rul → Rul → Int} (h : ∀ a b, decide (cf a b < 0) = lessR a b) : SWO (ltOf fun x y : FRw W blk => cf x.1.r y.1.r) where
  irrefl x := by show decide (cf _ _ < 0) = _; rw [h]; exact lessR_irrefl _
  trans x y z h1 h2 := by
    have h1' : decide (cf x.1.r y.1.r < 0) = true := h1
    have h2' : decide (cf y.1.r z.1.r < 0) = true := h2
    show decide (cf _ _ < 0) = _
    rw [h] at *; exact lessR_trans h1' h2'
  ntrans x y z h1 h2 := by
    have h1' : decide (cf x.1.r y.1.r < 0) = false := h1
    have h2' : decide (cf y.1.r z.1.r < 0) = false := h2
    show decide (cf _ _ < 0) = _
    rw [h] at *; exact lessR_ntrans h1' h2'
/-- slices.SortFunc at rules: what is sorted is a permutation, in the order of cf -/
theorem sortRules_far {W : World} {B blk n cap : Nat} (g : Nat) (cf : Rul → Rul → Int) (hO : SWO (ltOf fun x y : FRw W blk => cf x.1.r y.1.r)) (eg : ∀ args w, (callFunc g args).run Try.prog w = .ok (.enter g args) w)
    (hcmp : ∀ (x y : Rw) (V : World), x.Good V → y.Good V → Calls Try.prog g #[x.v, y.v] V fun e V' => e = .returned (.int .i64 (cf x.r y.r)) ∧ ∃ q os, V' = grow (V.drewN q) os)
    (xs : List Rw) (hg : ∀ x ∈ xs, ∀ V, W.grownBy V (some blk) → x.Good V) (hn : xs.length = n) (hn9 : n ≤ 1000)
    (ho : W.ownsRow B 26 3 (.slice (some ⟨blk, 0, none⟩) n cap) n (rcells xs)) (hblk : blk < W.heap.size) (hcap : n ≤ cap ∧ cap ≤ maxLen) :
    Calls Try.prog 25 #[.slice (some ⟨blk, 0, none⟩) n cap, .func (.func g) #[] #[]] W fun e w' => e = .returned (.tuple #[]) ∧ ∃ ys, Rs w' (some ⟨blk, 0, none⟩) n cap ys ∧
      (ruls ys).Perm (ruls xs) ∧ (ruls ys).Pairwise (fun a b => ¬ cf b a < 0) ∧ (∀ y ∈ ys, y ∈ xs) ∧ W.grownBy w' (some blk) := by
  obtain ⟨d, hd⟩ : ∃ d : Array (FRw W blk), d = (xs.attachWith (fun x => ∀ V, W.grownBy V (some blk) → x.Good V) hg).toArray := ⟨_, rfl⟩
  have hds : d.size = n := by rw [hd]; simp [hn]
  have hH := holdsK_far hg hn ho
  rw [← hd] at hH
  have hlays : CmpLays Try.prog g #[] (FRw.enc (W := W) (blk := blk)) 3 (fun x y : FRw W blk => cf x.1.r y.1.r) blk 0 d.size W := fun m os dk _ x y => by
    exact hcmp x.1 y.1 _ (x.2 _ grown_sortedK) (y.2 _ grown_sortedK)
  have hS := AnyQ.slices_SortFunc Try.sortR 3 Try.isAgg26 Try.sizeOf26 (FRw.enc (W := W) (blk := blk)) (fun _ => rfl) (fun x v hv => rcells_one [x.1] v (by simpa [rcells, FRw.enc] using hv)) (fun x y : FRw W blk => cf x.1.r y.1.r) hO g #[] blk 0 cap d W eg hlays hH hblk (by omega)
  rw [hds] at hS
  change Calls Try.prog 25 _ _ _ at hS
  refine hS.mono fun e w' hh' => ?_
  obtain ⟨he, d', q, os, hp, hs, hw⟩ := hh'
  have hd's : d'.size = n := by rw [hp.1, hds]
  have hperm : d'.toList.Perm d.toList := by
    have := hp.2.2
    rw [Array.extract_eq_self_of_le (by omega), Array.extract_eq_self_of_le (by omega)] at this
    exact this
  have hdl : d.toList.map (fun x => x.1) = xs := by rw [hd]; simp
  have hB : W.grownBy (sortWorldK FRw.enc 3 W blk 0 q d' os) (some blk) := grown_sortedK
  have hHo := holdsK_sortWorldK (FRw.enc (W := W) (blk := blk)) 3 W blk 0 q d d' os hblk hH (by omega)
  refine ⟨he, d'.toList.map (fun x => x.1), ⟨by simp [hd's], hcap.1, hcap.2, fun y hy => ?_, .inr ⟨blk, 0, rfl, fun i hi => ?_⟩⟩, ?_, ?_, ?_, ?_⟩
  · obtain ⟨x, _, rfl⟩ := List.mem_map.1 hy
    rw [hw]
    exact x.2 _ hB
  · have hi' : i < d'.size := by omega
    have e : (d'.toList.map (fun x => x.1)).getD i Rw.no = (d'[i]!).1 := by rw [getElem!_pos d' i hi']; simp [hi']
    rw [e, hw]
    have hc : ∀ c, c < 3 → (sortWorldK FRw.enc 3 W blk 0 q d' os).cell? ⟨blk, 0 + i * 3 + c, none⟩ = (d'[i]!).1.cells[c]? := fun c hc3 => by
      rw [(hHo.cell hi' hc3).1, List.getElem?_eq_getElem (by simp [Rw.cells]; omega)]
      rw [getElem!_pos _ c (by simp [FRw.enc, Rw.cells]; omega)]
      rfl
    exact ⟨hc 0 (by omega), hc 1 (by omega), hc 2 (by omega)⟩
  · unfold ruls
    rw [← hdl]
    exact (hperm.map _).map _
  · unfold ruls
    rw [List.map_map, List.pairwise_map, List.pairwise_iff_getElem]
    intro i j hi hj hij
    have h := hs i j (Nat.zero_le _) hij (by simpa [hds, hd's] using hj)
    rw [getElem!_pos d' j (by simpa using hj), getElem!_pos d' i (by simpa using hi)] at h
    simpa [ltOf] using h
  · intro y hy
    rw [← hdl]
    obtain ⟨x, hx, rfl⟩ := List.mem_map.1 hy
    exact List.mem_map.2 ⟨x, hperm.mem_iff.1 hx, rfl⟩
  · rw [hw]; exact hB

end Go.Proofs.Ytcpilhgofdnigaa
