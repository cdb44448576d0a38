import Derived.Test.YtimjdlbhbiklgaaOrderWalkB
import Derived.Test.YtimjdlbhbiklgaaOrderShelf
import Derived.Deep.RegionLaw
import Derived.Deep.AppendLies
import Derived.Deep.DeepMust
import Derived.Deep.DeepFit
import Derived.Maps.RangeWalk
import Derived.Laws.AppendOwnNone
/- order.Find: where a word stands among words that rise, by sort.Search (the library's contract for it), and whether it is there. -/
namespace Go.Proofs.Ytimjdlbhbiklgaa
open Go.RowKit Go.Sort

set_option maxRecDepth 100000 in
set_option maxHeartbeats 800000 in
theorem find1_is (bl bw : Nat) (a b : Option Addr) (n m cap cap2 : Nat) (xs : List Wd) (zs : List Int) (i : Nat) (r : Bool) (W : World)
    (hl : W.cell? ⟨bl, 0, none⟩ = some (.slice a n cap)) (hw : W.cell? ⟨bw, 0, none⟩ = some (.slice b m cap2)) (ha : Ws W a n cap xs) (hb : Sl .i64 W b m cap2 zs) (hi : i < n) (h : lessL ((nums xs).getD i []) zs = r) :
    Calls Try.prog 47 (#[.int .i64 i] ++ #[.pointer (some ⟨bl, 0, none⟩), .pointer (some ⟨bw, 0, none⟩)]) W fun e w' => e = .returned (.bool (!r)) ∧ ∃ q, w' = W.drewN q := by
  obtain ⟨b1, o1, a3, n3, c3, z3, rfl, _, _, hx1, hs1, hz1⟩ := ha.one i hi
  rw [hz1] at h
  have HS := Lib.hid hs1
  have HB := Lib.hid hb
  have HL := Lib.hid h
  have hlti : (i : Int) < (n : Int) := by omega
  clear ha hb h hs1 hz1
  cases r
  · go_enter Try.func47, Try.ntmps47
    go_wp2
    go_quiet ((go_at_call 25; exact Calls.quiet_of (less_is _ _ _ _ _ _ z3 zs false _ (HS.out.drewN _) (HB.out.drewN _) HL.out)))
    go_wp2
    go_ret
    exact ⟨rfl, _, rfl⟩
  · go_enter Try.func47, Try.ntmps47
    go_wp2
    go_quiet ((go_at_call 25; exact Calls.quiet_of (less_is _ _ _ _ _ _ z3 zs true _ (HS.out.drewN _) (HB.out.drewN _) HL.out)))
    go_wp2
    go_ret
    exact ⟨rfl, _, rfl⟩

set_option maxRecDepth 100000 in
theorem cnt_range (l : List (List Int)) (z : List Int) (n : Nat) (h : l.length = n) : (List.range n).countP (fun i => !!lessL (l.getD i []) z) = cnt l z := by
  subst h
  have e : l = (List.range l.length).map (fun i => l.getD i []) := by
    apply List.ext_getElem
    · simp
    · intro i h1 h2
      simp [h1]
  unfold cnt
  conv => rhs; rw [e]
  rw [List.countP_map]
  congr 1
  funext i
  simp

set_option maxHeartbeats 1600000 in
set_option maxRecDepth 100000 in
theorem find_is (a b : Option Addr) (n m cap cap2 : Nat) (xs : List Wd) (zs : List Int) (k : Nat) (r : Bool) (w : World) (ha : Ws w a n cap xs) (hb : Sl .i64 w b m cap2 zs)
    (hr : Rise (nums xs)) (hk : cnt (nums xs) zs = k) (h : decide (zs ∈ nums xs) = r) (hn : n ≤ 1000) :
    Calls Try.prog 24 #[.slice a n cap, .slice b m cap2] w fun e w' => e = .returned (.tuple #[.int .i64 (k : Nat), .bool r]) ∧ Below w.heap.size w w' := by
  have hlen : (nums xs).length = n := by rw [nums_length, ha.1]
  have hkn : k ≤ n := by rw [← hk, ← hlen]; exact cnt_le _ _
  have hfound := hr.found zs
  rw [hk, hlen, h] at hfound
  obtain ⟨W0, hW0⟩ : ∃ W0, W0 = (w.alloc (.cells #[.slice a n cap] 26)).alloc (.cells #[.slice b m cap2] 23) := ⟨_, rfl⟩
  have hB0 : Below w.heap.size w W0 := by rw [hW0]; exact ((Below.refl _ w).alloc (Nat.le_refl _) _).alloc (by simp) _
  have hsize : W0.heap.size = w.heap.size + 1 + 1 := by rw [hW0]; simp
  have ca : W0.cell? ⟨w.heap.size, 0, none⟩ = some (.slice a n cap) := by rw [hW0]; exact cell_alloc_sl _ (cell_new_sl w _ _)
  have cx : W0.cell? ⟨w.heap.size + 1, 0, none⟩ = some (.slice b m cap2) := by
    rw [hW0]; have := cell_new_sl (w.alloc (.cells #[.slice a n cap] 26)) (.slice b m cap2) 23; rwa [World.size_alloc] at this
  have hA0 := ha.below hB0 (Nat.le_refl _)
  have hC0 := hb.below hB0 (Nat.le_refl _)
  have eg : ∀ args w, (callFunc 47 args).run Try.prog w = .ok (.enter 47 args) w := enters_of Try.func47 (by kernel_rfl) rfl
  have hS := Any.sort_Search Try.searchO 47 #[.pointer (some ⟨w.heap.size, 0, none⟩), .pointer (some ⟨w.heap.size + 1, 0, none⟩)] n (fun i => !lessL ((nums xs).getD i []) zs) W0 eg (by omega)
    (fun q os i hi => (find1_is w.heap.size (w.heap.size + 1) a b n m cap cap2 xs zs i _ _ (cell_grown (by simp [hsize]; omega) ca q os) (cell_grown (by simp [hsize]) cx q os)
      (hA0.below (below_grown_sl _ W0 q os (Nat.le_refl _)) (Nat.le_refl _)) (hC0.below (below_grown_sl _ W0 q os (Nat.le_refl _)) (Nat.le_refl _)) hi rfl).mono fun _ _ ⟨he, q, hq⟩ => ⟨he, q, #[], by rw [hq, grow_empty]⟩)
    (fun i j hij hj hp => by
      have hp' : lessL ((nums xs).getD i []) zs = false := by simpa using hp
      show (!lessL ((nums xs).getD j []) zs) = true
      rw [hr.mono zs hij (by rw [hlen]; exact hj) hp']; rfl)
  rw [cnt_range (nums xs) zs n hlen, hk] at hS
  change Calls Try.prog 46 _ _ _ at hS
  have hS2 : Calls Try.prog 46 #[.int .i64 n, .func (.func 47) #[] #[.pointer (some ⟨w.heap.size, 0, none⟩), .pointer (some ⟨w.heap.size + 1, 0, none⟩)]] W0 fun e w' =>
      e = .returned (.int .i64 (k : Nat)) ∧ Below w.heap.size w w' ∧ w'.cell? ⟨w.heap.size, 0, none⟩ = some (.slice a n cap) ∧ w'.cell? ⟨w.heap.size + 1, 0, none⟩ = some (.slice b m cap2) := by
    refine hS.mono fun e w' hh => ?_
    obtain ⟨he, q, os, hw⟩ := hh
    refine ⟨he, ?_, ?_, ?_⟩
    · rw [hw]; exact hB0.trans (below_grown_sl _ W0 q os (by omega))
    · rw [hw]; exact cell_grown (by simp [hsize]; omega) ca q os
    · rw [hw]; exact cell_grown (by simp [hsize]) cx q os
  have HS := Lib.hid hS2
  have HA := Lib.hid ha
  have HB := Lib.hid hb
  have HK := Lib.hid hfound
  have HW := Lib.hid hW0
  clear hS hS2 hA0 hC0 ha hb hr hk h hB0 ca cx hfound hsize hlen eg hW0
  by_cases hlt : k < n
  · obtain ⟨z3, hz3⟩ : ∃ z3, (nums xs).getD k [] = z3 := ⟨_, rfl⟩
    have hk2 := HK.out
    rw [decide_eq_true hlt, Bool.true_and, hz3] at hk2
    have HZ3 := Lib.hid hz3
    have hc := cmp_same z3 zs
    rw [hk2] at hc
    obtain ⟨c, hcc⟩ : ∃ c, cmpL z3 zs = c := ⟨_, rfl⟩
    rw [hcc] at hc
    have HC := Lib.hid hcc
    have hd : decide ((k : Int) < (n : Int)) = true := by simp; omega
    have hd2 : (k : Int) < (n : Int) := by omega
    clear hz3 hk2 hcc
    cases r
    · have hc0 : (c == 0) = false := by simpa using hc
      have hc1 : ¬ c = 0 := by simpa using hc
      clear hc
      go_enter Try.func24, Try.ntmps24
      go_wp2_with (go_at_call 46; rw [← HW.out]; refine HS.out.mono ?_; rintro e w1 ⟨rfl, hb1, hc1, hc2⟩)
      obtain ⟨b1, o1, a3, n3, c3, z4, rfl, _, _, hx1, hs1, hz4⟩ := (HA.out.below hb1 (Nat.le_refl _)).one k hlt
      have hb2 := HB.out.below hb1 (Nat.le_refl _)
      rw [HZ3.out] at hz4
      subst hz4
      have HS1 := Lib.hid hs1
      have HB1 := Lib.hid hb2
      clear hs1 hb2
      go_quiet ((go_at_call 48; exact Calls.quiet_of (compare_is _ _ _ _ _ _ z3 zs c _ (HS1.out.drewN _) (HB1.out.drewN _) HC.out)))
      go_wp2
      go_ret2
      exact ⟨rfl, below_drewN hb1 _⟩
    · have hc0 : c = 0 := by simpa using hc
      subst hc0
      clear hc
      go_enter Try.func24, Try.ntmps24
      go_wp2_with (go_at_call 46; rw [← HW.out]; refine HS.out.mono ?_; rintro e w1 ⟨rfl, hb1, hc1, hc2⟩)
      obtain ⟨b1, o1, a3, n3, c3, z4, rfl, _, _, hx1, hs1, hz4⟩ := (HA.out.below hb1 (Nat.le_refl _)).one k hlt
      have hb2 := HB.out.below hb1 (Nat.le_refl _)
      rw [HZ3.out] at hz4
      subst hz4
      have HS1 := Lib.hid hs1
      have HB1 := Lib.hid hb2
      clear hs1 hb2
      go_quiet ((go_at_call 48; exact Calls.quiet_of (compare_is _ _ _ _ _ _ z3 zs 0 _ (HS1.out.drewN _) (HB1.out.drewN _) HC.out)))
      go_wp2
      go_ret2
      exact ⟨rfl, below_drewN hb1 _⟩
  · have hk2 := HK.out
    rw [decide_eq_false hlt, Bool.false_and] at hk2
    subst hk2
    have hd : decide ((k : Int) < (n : Int)) = false := by simp; omega
    go_enter Try.func24, Try.ntmps24
    go_wp2_with (go_at_call 46; rw [← HW.out]; refine HS.out.mono ?_; rintro e w1 ⟨rfl, hb1, hc1, hc2⟩)
    go_quiet (fail)
    go_wp2
    go_ret2
    exact ⟨rfl, below_drewN hb1 _⟩

end Go.Proofs.Ytimjdlbhbiklgaa

/- order.Sort: a list of its own, sorted by the library (its contract: a permutation, in order), then each word once, in memory of its own. -/
namespace Go.Proofs.Ytimjdlbhbiklgaa
open Go.RowKit

set_option maxRecDepth 100000 in
theorem words_oneCell (xs : List Wd) : ∀ v ∈ vals xs, v.oneCell' = true := by
  intro v hv
  obtain ⟨x, _, rfl⟩ := List.mem_map.1 hv
  rfl

set_option maxRecDepth 100000 in
/-- append of any list of words behind a row that the call owns -/
theorem append_words {w : World} {ops : Array Oper} {rest : List Oper} {o : Oper} {act : Act} {Q : Exit → Act → World → Prop} (hgd : o.guard = none) (s x : Operand)
    (ho : o.op = .call { callee := .builtin .append, args := #[s, x], argTypes := #[26, 26] }) (base : Nat) (v : Value) (n : Nat) (xs : List Wd) (hs : act.eval s = v)
    (hown : w.ownsRow base 23 1 v n (vals xs)) (a : Option Addr) (m c : Nat) (zs : List Wd) (hx : act.eval x = .slice a m c) (hz : Ws w a m c zs) (ha : a = none → c = 0)
    (N : Nat) (hN : n + m = N) (h63 : N * 24 ≤ 140737488355328) (hbase : base ≤ w.heap.size)
    (h : ∀ a' c' w', w'.ownsRow base 23 1 (.slice a' N c') N (vals (xs ++ zs)) → Below base w w' → (a' = none → c' = 0) → wpList Try.prog ops Q rest (act.put o.dst (.slice a' N c')) w') :
    wpList Try.prog ops Q (o :: rest) act w := by
  subst hN
  obtain ⟨i0, hi, hz0, hz1, hz2⟩ := info_parts info_words
  have form : ∀ {w' : World} {v' : Value} {k : Nat} {l : List Value}, w'.ownsRow base 23 1 v' k l → ∃ a' c', v' = .slice a' k c' ∧ (a' = none → c' = 0) := by
    intro w' v' k l ho
    rcases ho.2 with ⟨h1, h2⟩ | ⟨g, cap, cur, h1, _⟩
    · subst h2; exact ⟨none, 0, h1, fun _ => rfl⟩
    · exact ⟨_, cap, h1, fun h => by cases h⟩
  cases a with
  | none =>
    obtain rfl := ha rfl
    obtain rfl : m = 0 := by have := hz.2.1; omega
    obtain rfl : zs = [] := List.eq_nil_of_length_eq_zero hz.1
    obtain ⟨a', c', rfl, hnil⟩ := form hown
    refine wpList_append_own_none hgd s x 26 ho base 23 i0 1 Try.underlying26 hi _ n (vals xs) hs hown hx ?_
    exact h a' c' w (by simpa using hown) (Below.refl _ _) hnil
  | some y =>
    have hnews : ∀ j u, (vals zs)[j]? = some u → w.cell? (y.add j) = some u := by
      intro j u hj
      have hjl : j < zs.length := by
        rcases Nat.lt_or_ge j zs.length with hlt | hge
        · exact hlt
        · simp [vals, List.getElem?_eq_none hge] at hj
      obtain ⟨b, off, hy, _, hc⟩ := hz.at (by have := hz.1; omega)
      simp only [Option.some.injEq] at hy
      subst hy
      have := hc j (by have := hz.1; omega)
      rw [show (⟨b, off, none⟩ : Addr).add j = ⟨b, off + j, none⟩ from by simp [Addr.add], this]
      simp [vals, hjl] at hj
      rw [← hj]; simp [hjl, Wd.v]
    refine wpList_append_own w hgd s x 26 ho base 23 i0 (.slice none 0 0) 1 24 Try.underlying26 hi hz0 hz1 hz2 rfl (by decide) v n (vals xs) hs hown y m c (vals zs) hx (by simp [vals, hz.1]) hnews (words_oneCell zs) (by unfold maxLen; omega) h63 hbase ?_
    intro v' w' hown' hgrow _
    obtain ⟨a', c', rfl, hnil⟩ := form hown'
    refine h a' c' w' (by rw [vals_app]; exact hown') ?_ hnil
    exact (Below.refl _ _).grown hgrow hbase (fun k hk => (hown.lt k hk).1)
set_option maxRecDepth 100000 in
theorem owns_none_words (w : World) : (w.alloc (.cells #[] 23)).ownsRow w.heap.size 23 1 (.slice (some ⟨w.heap.size, 0, none⟩) 0 0) 0 (vals []) := by
  have h := World.ownsRow_lit (base := w.heap.size) (e := 23) (size := 1) w #[] 0 (Nat.le_refl _) (Nat.zero_le _) (by simp)
  simpa [vals] using h
set_option maxRecDepth 100000 in
theorem owns_nil_words (w : World) (B : Nat) : w.ownsRow B 23 1 (.slice none 0 0) 0 (vals []) := ⟨rfl, .inl ⟨rfl, rfl⟩⟩

set_option maxRecDepth 100000 in
theorem Ws.newc {w : World} {t : TypeId} {B n m : Nat} (xs : List Wd) (hg : ∀ x ∈ xs, x.Good w) (hl : xs.length ≤ maxLen) (hB : B = w.heap.size) (hn : xs.length = n) (hm : xs.length = m) :
    Ws (w.alloc (.cells (vals xs).toArray t)) (some ⟨B, 0, none⟩) n m xs := by
  subst hB hn hm
  refine ⟨rfl, Nat.le_refl _, hl, fun x hx => (hg x hx).below ((Below.refl w.heap.size w).alloc (Nat.le_refl _) _) (Nat.le_refl _), .inr ⟨w.heap.size, 0, rfl, fun i hi => ?_⟩⟩
  rw [World.cell?_alloc_at _ _ _ _ (by rfl)]
  simp [vals, hi]

/-- what the library asks of the words that it sorts: each can be read where the call began -/
abbrev GWd (w : World) : Type := { x : Wd // x.Good w }
instance (w : World) : Inhabited (GWd w) := ⟨⟨Wd.no, Wd.no_good w⟩⟩
def GWd.v {w : World} (x : GWd w) : Value := x.1.v
def GWd.cf {w : World} (x y : GWd w) : Int := cmpL x.1.zs y.1.zs

set_option maxRecDepth 100000 in
theorem cf_lt {w : World} (x y : GWd w) : ltOf GWd.cf x y = lessL x.1.zs y.1.zs := cmp_less _ _
set_option maxRecDepth 100000 in
theorem cf_swo {w : World} : Sort.SWO (ltOf (GWd.cf (w := w))) where
  irrefl x := by rw [cf_lt]; exact less_irrefl _
  trans x y z h1 h2 := by rw [cf_lt] at *; exact less_trans h1 h2
  ntrans x y z h1 h2 := by rw [cf_lt] at *; exact less_ntrans h1 h2

set_option maxRecDepth 100000 in
theorem below_sorted {w W : World} {B blk off m : Nat} {dk : Array (GWd w)} {os : Array Obj} (h : Below B w W) (hb : B ≤ blk) (hblk : blk < W.heap.size) :
    Below B w (sortWorld GWd.v W blk off m dk os) := by
  refine h.trans ⟨rfl, rfl, rfl, ?_, fun i hi => ?_⟩
  · unfold sortWorld
    rw [Sort.size_grow, Sort.size_putRow]
    show W.heap.size ≤ W.heap.size + _
    omega
  · unfold sortWorld Sort.grow
    show ((Sort.putRow GWd.v (Sort.ahead W m) blk off dk).heap ++ os)[i]? = _
    rw [Array.getElem?_append_left (by rw [Sort.size_putRow]; show i < W.heap.size; omega)]
    unfold Sort.putRow Sort.mapBlock
    show (W.heap.modify blk _)[i]? = _
    rw [Array.getElem?_modify, if_neg (by omega)]

set_option maxRecDepth 100000 in
theorem cmp_lays {w W : World} {size off blk : Nat} (hb : Below w.heap.size w W) (hl : w.heap.size ≤ blk) (hblk : blk < W.heap.size) :
    CmpReads Try.prog 48 #[] (GWd.v (w := w)) GWd.cf blk off size W := fun _ _ _ _ x y =>
  compare_any _ _ _ _ _ _ _ _ _ (Wd.Good.below x.2 (below_sorted hb hl hblk) (Nat.le_refl _)) (Wd.Good.below y.2 (below_sorted hb hl hblk) (Nat.le_refl _))

end Go.Proofs.Ytimjdlbhbiklgaa
