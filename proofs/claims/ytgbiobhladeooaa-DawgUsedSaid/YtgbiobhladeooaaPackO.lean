import Derived.Test.YtgbiobhladeooaaOrderWalkB
import Derived.Test.YtgbiobhladeooaaOrderShelf
import Derived.Deep.RegionLaw
import Derived.Deep.AppendLies
import Derived.Deep.DeepMust
import Derived.Deep.DeepFit
import Derived.Maps.RangeWalk
import Derived.Laws.AppendOwnNone
/- order.Find: where a word stands among words that rise, by sort.Search (the library's contract for it), and whether it is there. -/
namespace Go.Proofs.Ytgbiobhladeooaa
open Go.RowKit Go.Sort

set_option maxRecDepth 100000 in
theorem cnt_range (l : List (List Int)) (z : List Int) (n : Nat) (h : l.length = n) : (List.range n).countP (fun i => !!lessL (l.getD i []) z) = cnt l z := by
  subst h
  have e : l = (List.range l.length).map (fun i => l.getD i []) := by
    apply List.ext_getElem
    · simp
    · intro i h1 h2
      simp [h1]
  unfold cnt
  conv => rhs; rw [e]
  rw [List.countP_map]
  congr 1
  funext i
  simp

end Go.Proofs.Ytgbiobhladeooaa

/- order.Sort: a list of its own, sorted by the library (its contract: a permutation, in order), then each word once, in memory of its own. -/
namespace Go.Proofs.Ytgbiobhladeooaa
open Go.RowKit

set_option maxRecDepth 100000 in
theorem words_oneCell (xs : List Wd) : ∀ v ∈ vals xs, v.oneCell' = true := by
  intro v hv
  obtain ⟨x, _, rfl⟩ := List.mem_map.1 hv
  rfl

set_option maxRecDepth 100000 in
/-- append of any list of words behind a row that the call owns -/
theorem append_words {w : World} {ops : Array Oper} {rest : List Oper} {o : Oper} {act : Act} {Q : Exit → Act → World → Prop} (hgd : o.guard = none) (s x : Operand)
    (ho : o.op = .call { callee := .builtin .append, args := #[s, x], argTypes := #[22, 22] }) (base : Nat) (v : Value) (n : Nat) (xs : List Wd) (hs : act.eval s = v)
    (hown : w.ownsRow base 33 1 v n (vals xs)) (a : Option Addr) (m c : Nat) (zs : List Wd) (hx : act.eval x = .slice a m c) (hz : Ws w a m c zs) (ha : a = none → c = 0)
    (N : Nat) (hN : n + m = N) (h63 : N * 24 ≤ 140737488355328) (hbase : base ≤ w.heap.size)
    (h : ∀ a' c' w', w'.ownsRow base 33 1 (.slice a' N c') N (vals (xs ++ zs)) → Below base w w' → (a' = none → c' = 0) → wpList Try.prog ops Q rest (act.put o.dst (.slice a' N c')) w') :
    wpList Try.prog ops Q (o :: rest) act w := by
  subst hN
  obtain ⟨i0, hi, hz0, hz1, hz2⟩ := info_parts info_words
  have form : ∀ {w' : World} {v' : Value} {k : Nat} {l : List Value}, w'.ownsRow base 33 1 v' k l → ∃ a' c', v' = .slice a' k c' ∧ (a' = none → c' = 0) := by
    intro w' v' k l ho
    rcases ho.2 with ⟨h1, h2⟩ | ⟨g, cap, cur, h1, _⟩
    · subst h2; exact ⟨none, 0, h1, fun _ => rfl⟩
    · exact ⟨_, cap, h1, fun h => by cases h⟩
  cases a with
  | none =>
    obtain rfl := ha rfl
    obtain rfl : m = 0 := by have := hz.2.1; omega
    obtain rfl : zs = [] := List.eq_nil_of_length_eq_zero hz.1
    obtain ⟨a', c', rfl, hnil⟩ := form hown
    refine wpList_append_own_none hgd s x 22 ho base 33 i0 1 Try.underlying22 hi _ n (vals xs) hs hown hx ?_
    exact h a' c' w (by simpa using hown) (Below.refl _ _) hnil
  | some y =>
    have hnews : ∀ j u, (vals zs)[j]? = some u → w.cell? (y.add j) = some u := by
      intro j u hj
      have hjl : j < zs.length := by
        rcases Nat.lt_or_ge j zs.length with hlt | hge
        · exact hlt
        · simp [vals, List.getElem?_eq_none hge] at hj
      obtain ⟨b, off, hy, _, hc⟩ := hz.at (by have := hz.1; omega)
      simp only [Option.some.injEq] at hy
      subst hy
      have := hc j (by have := hz.1; omega)
      rw [show (⟨b, off, none⟩ : Addr).add j = ⟨b, off + j, none⟩ from by simp [Addr.add], this]
      simp [vals, hjl] at hj
      rw [← hj]; simp [hjl, Wd.v]
    refine wpList_append_own w hgd s x 22 ho base 33 i0 (.slice none 0 0) 1 24 Try.underlying22 hi hz0 hz1 hz2 rfl (by decide) v n (vals xs) hs hown y m c (vals zs) hx (by simp [vals, hz.1]) hnews (words_oneCell zs) (by unfold maxLen; omega) h63 hbase ?_
    intro v' w' hown' hgrow _
    obtain ⟨a', c', rfl, hnil⟩ := form hown'
    refine h a' c' w' (by rw [vals_app]; exact hown') ?_ hnil
    exact (Below.refl _ _).grown hgrow hbase (fun k hk => (hown.lt k hk).1)
set_option maxRecDepth 100000 in
theorem owns_none_words (w : World) : (w.alloc (.cells #[] 33)).ownsRow w.heap.size 33 1 (.slice (some ⟨w.heap.size, 0, none⟩) 0 0) 0 (vals []) := by
  have h := World.ownsRow_lit (base := w.heap.size) (e := 33) (size := 1) w #[] 0 (Nat.le_refl _) (Nat.zero_le _) (by simp)
  simpa [vals] using h
set_option maxRecDepth 100000 in
theorem owns_nil_words (w : World) (B : Nat) : w.ownsRow B 33 1 (.slice none 0 0) 0 (vals []) := ⟨rfl, .inl ⟨rfl, rfl⟩⟩

set_option maxRecDepth 100000 in
theorem Ws.newc {w : World} {t : TypeId} {B n m : Nat} (xs : List Wd) (hg : ∀ x ∈ xs, x.Good w) (hl : xs.length ≤ maxLen) (hB : B = w.heap.size) (hn : xs.length = n) (hm : xs.length = m) :
    Ws (w.alloc (.cells (vals xs).toArray t)) (some ⟨B, 0, none⟩) n m xs := by
  subst hB hn hm
  refine ⟨rfl, Nat.le_refl _, hl, fun x hx => (hg x hx).below ((Below.refl w.heap.size w).alloc (Nat.le_refl _) _) (Nat.le_refl _), .inr ⟨w.heap.size, 0, rfl, fun i hi => ?_⟩⟩
  rw [World.cell?_alloc_at _ _ _ _ (by rfl)]
  simp [vals, hi]

/-- what the library asks of the words that it sorts: each can be read where the call began -/
abbrev GWd (w : World) : Type := { x : Wd // x.Good w }
instance (w : World) : Inhabited (GWd w) := ⟨⟨Wd.no, Wd.no_good w⟩⟩
def GWd.v {w : World} (x : GWd w) : Value := x.1.v
def GWd.cf {w : World} (x y : GWd w) : Int := cmpL x.1.zs y.1.zs

set_option maxRecDepth 100000 in
theorem cf_lt {w : World} (x y : GWd w) : ltOf GWd.cf x y = lessL x.1.zs y.1.zs := cmp_less _ _
set_option maxRecDepth 100000 in
theorem cf_swo {w : World} : Sort.SWO (ltOf (GWd.cf (w := w))) where
  irrefl x := by rw [cf_lt]; exact less_irrefl _
  trans x y z h1 h2 := by rw [cf_lt] at *; exact less_trans h1 h2
  ntrans x y z h1 h2 := by rw [cf_lt] at *; exact less_ntrans h1 h2

set_option maxRecDepth 100000 in
theorem below_sorted {w W : World} {B blk off m : Nat} {dk : Array (GWd w)} {os : Array Obj} (h : Below B w W) (hb : B ≤ blk) (hblk : blk < W.heap.size) :
    Below B w (sortWorld GWd.v W blk off m dk os) := by
  refine h.trans ⟨rfl, rfl, rfl, ?_, fun i hi => ?_⟩
  · unfold sortWorld
    rw [Sort.size_grow, Sort.size_putRow]
    show W.heap.size ≤ W.heap.size + _
    omega
  · unfold sortWorld Sort.grow
    show ((Sort.putRow GWd.v (Sort.ahead W m) blk off dk).heap ++ os)[i]? = _
    rw [Array.getElem?_append_left (by rw [Sort.size_putRow]; show i < W.heap.size; omega)]
    unfold Sort.putRow Sort.mapBlock
    show (W.heap.modify blk _)[i]? = _
    rw [Array.getElem?_modify, if_neg (by omega)]

set_option maxRecDepth 100000 in
theorem cmp_lays {w W : World} {size off blk : Nat} (hb : Below w.heap.size w W) (hl : w.heap.size ≤ blk) (hblk : blk < W.heap.size) :
    CmpReads Try.prog 41 #[] (GWd.v (w := w)) GWd.cf blk off size W := fun _ _ _ _ x y =>
  compare_any _ _ _ _ _ _ _ _ _ (Wd.Good.below x.2 (below_sorted hb hl hblk) (Nat.le_refl _)) (Wd.Good.below y.2 (below_sorted hb hl hblk) (Nat.le_refl _))

set_option maxRecDepth 100000 in
/-- slices.SortFunc at words, as order.Sort calls it -/
theorem sortFunc_any {w W : World} {blk n : Nat} (xs : List Wd) (hg : ∀ x ∈ xs, x.Good w) (hn : xs.length = n) (hn9 : n ≤ 1000) (hb : Below w.heap.size w W) (hl : w.heap.size ≤ blk)
    (hh : W.heap[blk]? = some (.cells (vals xs).toArray 33 (0, 0))) :
    Calls Try.prog 40 #[.slice (some ⟨blk, 0, none⟩) n n, .func (.func 41) #[] #[]] W fun e w' => e = .returned (.tuple #[]) ∧ ∃ ys, Ws w' (some ⟨blk, 0, none⟩) n n ys ∧
      (nums ys).Perm (nums xs) ∧ (nums ys).Pairwise (fun a b => lessL b a = false) ∧ (∀ y ∈ ys, y ∈ xs) ∧ Below w.heap.size w w' := by
  have hblk : blk < W.heap.size := by
    rcases Nat.lt_or_ge blk W.heap.size with h | h
    · exact h
    · rw [Array.getElem?_eq_none h] at hh; cases hh
  obtain ⟨d, hd⟩ : ∃ d : Array (GWd w), d = (xs.attachWith (fun x => x.Good w) hg).toArray := ⟨_, rfl⟩
  have hds : d.size = n := by rw [hd]; simp [hn]
  have hdv : ∀ j, j < d.size → (d[j]!).1 = xs.getD j Wd.no := by
    intro j hj
    have hjx : j < xs.length := by omega
    rw [getElem!_pos d j hj]
    subst hd
    simp [hjx]
  have hH : Sort.Holds (GWd.v (w := w)) W blk 0 d := by
    intro j hj
    have hjx : j < xs.length := by omega
    constructor
    · rw [World.cell?, hh]
      show (some (((vals xs).toArray)[0 + j]?)).join = _
      rw [show GWd.v d[j]! = (d[j]!).1.v from rfl, hdv j hj]
      simp [vals, hjx]
    · simp [World.frozen?, hh]
  have eg : ∀ args w, (callFunc 41 args).run Try.prog w = .ok (.enter 41 args) w := enters_of Try.func41 (by kernel_rfl) rfl
  have hS := Any.slices_SortFunc Try.sortF (GWd.v (w := w)) (fun _ => rfl) GWd.cf cf_swo 41 #[] blk 0 n d W eg (cmp_lays hb hl hblk).lays hH hblk (by omega)
  rw [hds] at hS
  change Calls Try.prog 40 _ _ _ at hS
  refine hS.mono fun e w' hh' => ?_
  obtain ⟨he, d', q, os, hp, hs, hw⟩ := hh'
  have hd's : d'.size = n := by rw [hp.1, hds]
  have hperm : d'.toList.Perm d.toList := by
    have := hp.2.2
    rw [Array.extract_eq_self_of_le (by omega), Array.extract_eq_self_of_le (by omega)] at this
    exact this
  have hdl : d.toList.map (fun x => x.1) = xs := by rw [hd]; simp
  have hB := below_sorted (os := os) (dk := d') (m := q) (off := 0) hb hl hblk
  have hHo := holds_sortWorld GWd.v W blk 0 q d d' os hblk hH (by omega)
  refine ⟨he, d'.toList.map (fun x => x.1), ⟨by simp [hd's], Nat.le_refl _, by unfold maxLen; omega, fun y hy => ?_, .inr ⟨blk, 0, rfl, fun i hi => ?_⟩⟩, ?_, ?_, ?_, ?_⟩
  · obtain ⟨x, _, rfl⟩ := List.mem_map.1 hy
    rw [hw]
    exact Wd.Good.below x.2 hB (Nat.le_refl _)
  · have hi' : i < d'.size := by omega
    rw [hw, (hHo i hi').1, getElem!_pos d' i hi']
    simp [hi', GWd.v]
  · unfold nums
    rw [← hdl]
    exact (hperm.map _).map _
  · unfold nums
    rw [List.map_map, List.pairwise_map, List.pairwise_iff_getElem]
    intro i j hi hj hij
    have h := hs i j (Nat.zero_le _) hij (by simpa [hds, hd's] using hj)
    rw [cf_lt, getElem!_pos d' j (by simpa using hj), getElem!_pos d' i (by simpa using hi)] at h
    simpa using h
  · intro y hy
    rw [← hdl]
    obtain ⟨x, hx, rfl⟩ := List.mem_map.1 hy
    exact List.mem_map.2 ⟨x, hperm.mem_iff.1 hx, rfl⟩
  · rw [hw]; exact hB

end Go.Proofs.Ytgbiobhladeooaa
