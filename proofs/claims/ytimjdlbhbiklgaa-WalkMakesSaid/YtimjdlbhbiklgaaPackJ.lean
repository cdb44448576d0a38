import Derived.Test.YtimjdlbhbiklgaaPackN
import Derived.Test.YtimjdlbhbiklgaaPackB
import Derived.Deep.OwnRows
import Derived.Laws.CopyOwn
import Derived.Test.YtimjdlbhbiklgaaOrderShelf
import Derived.Deep.RegionLaw
import Derived.Deep.AppendLies
import Derived.Deep.DeepMust
import Derived.Deep.DeepFit
import Derived.Maps.RangeWalk
import Derived.Laws.AppendOwnNone
/- Used by the law. -/
namespace Go.Proofs.Ytimjdlbhbiklgaa
open Go.RowKit

end Go.Proofs.Ytimjdlbhbiklgaa

/- Used by the law. -/
namespace Go.Proofs.Ytimjdlbhbiklgaa
open Go.RowKit

structure Wd where
  a : Option Addr
  n : Nat
  cap : Nat
  zs : List Int
def Wd.v (x : Wd) : Value := .slice x.a x.n x.cap
def Wd.Good (w : World) (x : Wd) : Prop := Sl .i64 w x.a x.n x.cap x.zs
def Wd.no : Wd := ⟨none, 0, 0, []⟩
instance : Inhabited Wd := ⟨Wd.no⟩
theorem Wd.no_good (w : World) : Wd.no.Good w := Sl.nil
theorem Wd.Good.below {w w' : World} {x : Wd} {B : Nat} (h : x.Good w) (hb : Below B w w') (hB : w.heap.size ≤ B) : x.Good w' := Sl.below h hb hB

def nums (xs : List Wd) : List (List Int) := xs.map Wd.zs
def vals (xs : List Wd) : List Value := xs.map Wd.v
theorem nums_length (xs : List Wd) : (nums xs).length = xs.length := by simp [nums]
theorem vals_length (xs : List Wd) : (vals xs).length = xs.length := by simp [vals]
theorem nums_app (xs ys : List Wd) : nums (xs ++ ys) = nums xs ++ nums ys := by simp [nums]
theorem vals_app (xs ys : List Wd) : vals (xs ++ ys) = vals xs ++ vals ys := by simp [vals]
theorem nums_at (xs : List Wd) (i : Nat) : (nums xs).getD i [] = (xs.getD i Wd.no).zs := by
  simp only [nums, List.getD_eq_getElem?_getD, List.getElem?_map]
  cases xs[i]? <;> rfl

def Ws (w : World) (a : Option Addr) (n cap : Nat) (xs : List Wd) : Prop :=
  xs.length = n ∧ n ≤ cap ∧ cap ≤ maxLen ∧ (∀ x ∈ xs, x.Good w) ∧
    (n = 0 ∨ ∃ b off, a = some ⟨b, off, none⟩ ∧ ∀ i, i < n → w.cell? ⟨b, off + i, none⟩ = some (xs.getD i Wd.no).v)

theorem Ws.below {w w' : World} {a : Option Addr} {n cap B : Nat} {xs : List Wd} (h : Ws w a n cap xs) (hb : Below B w w') (hB : w.heap.size ≤ B) : Ws w' a n cap xs := by
  obtain ⟨h1, h2, h3, h4, h5⟩ := h
  refine ⟨h1, h2, h3, fun x hx => (h4 x hx).below hb hB, ?_⟩
  rcases h5 with h5 | ⟨b, off, ha, hc⟩
  · exact .inl h5
  · refine .inr ⟨b, off, ha, fun i hi => ?_⟩
    have hci := hc i hi
    have hlt := cell_lt hci
    rw [hb.cell (p := ⟨b, off + i, none⟩) (by show b < B; omega)]
    exact hci
theorem Ws.alloc {w : World} {a : Option Addr} {n cap : Nat} {xs : List Wd} (h : Ws w a n cap xs) (o : Obj) : Ws (w.alloc o) a n cap xs :=
  h.below ((Below.refl w.heap.size w).alloc (Nat.le_refl _) o) (Nat.le_refl _)
theorem Ws.drewN {w : World} {a : Option Addr} {n cap : Nat} {xs : List Wd} (h : Ws w a n cap xs) (m : Nat) : Ws (w.drewN m) a n cap xs := h
theorem Ws.drawn {w w' : World} {a : Option Addr} {n cap : Nat} {xs : List Wd} (h : Ws w a n cap xs) (hq : ∃ q, w' = w.drewN q) : Ws w' a n cap xs := by
  obtain ⟨q, rfl⟩ := hq; exact h
theorem Ws.nil {w : World} : Ws w none 0 0 [] := ⟨rfl, Nat.le_refl _, by unfold maxLen; omega, by simp, .inl rfl⟩

theorem Ws.good {w : World} {a : Option Addr} {n cap : Nat} {xs : List Wd} (h : Ws w a n cap xs) (i : Nat) : (xs.getD i Wd.no).Good w := by
  rw [List.getD_eq_getElem?_getD]
  cases hx : xs[i]? with
  | none => exact Wd.no_good w
  | some x => exact h.2.2.2.1 x (List.mem_of_getElem? hx)

theorem Ws.at {w : World} {a : Option Addr} {n cap : Nat} {xs : List Wd} (h : Ws w a n cap xs) (hn : 0 < n) :
    ∃ b off, a = some ⟨b, off, none⟩ ∧ b < w.heap.size ∧ ∀ i, i < n → w.cell? ⟨b, off + i, none⟩ = some (.slice (xs.getD i Wd.no).a (xs.getD i Wd.no).n (xs.getD i Wd.no).cap) := by
  obtain ⟨h1, h2, h3, h4, h5⟩ := h
  rcases h5 with h5 | ⟨b, off, ha, hc⟩
  · omega
  · exact ⟨b, off, ha, cell_lt (hc 0 hn), hc⟩

theorem Ws.one {w : World} {a : Option Addr} {n cap : Nat} {xs : List Wd} (h : Ws w a n cap xs) (i : Nat) (hi : i < n) :
    ∃ b off a1 n1 c1 zs, a = some ⟨b, off, none⟩ ∧ b < w.heap.size ∧ xs.getD i Wd.no = ⟨a1, n1, c1, zs⟩ ∧ w.cell? ⟨b, off + i, none⟩ = some (.slice a1 n1 c1) ∧ Sl .i64 w a1 n1 c1 zs ∧ (nums xs).getD i [] = zs := by
  obtain ⟨b, off, ha, hb, hc⟩ := h.at (by omega)
  exact ⟨b, off, _, _, _, _, ha, hb, rfl, hc i hi, h.good i, nums_at xs i⟩

theorem Ws.of_owns {w : World} {B : Nat} {T : TypeId} {a : Option Addr} {n cap : Nat} {xs : List Wd}
    (h : w.ownsRow B T 1 (.slice a n cap) n (vals xs)) (hw : ∀ x ∈ xs, x.Good w) (hl : xs.length = n) : Ws w a n cap xs := by
  have h' := h
  obtain ⟨_, h2⟩ := h
  rcases h2 with ⟨hv, h0⟩ | ⟨g, c, cur, hv, hg, hh, hnc, hcm, hcs, ht⟩
  · simp only [Value.slice.injEq] at hv
    obtain ⟨rfl, rfl, rfl⟩ := hv
    exact ⟨hl, Nat.le_refl _, by unfold maxLen; omega, hw, .inl rfl⟩
  · simp only [Value.slice.injEq] at hv
    obtain ⟨rfl, _, rfl⟩ := hv
    refine ⟨hl, hnc, hcm, hw, .inr ⟨g, 0, rfl, fun i hi => ?_⟩⟩
    rw [Nat.zero_add, h'.cellAt i (by omega)]
    simp [vals, hl, hi]

theorem Ws.piece {w : World} {b off n cap : Nat} {xs : List Wd} (h : Ws w (some ⟨b, off, none⟩) n cap xs) (i j : Nat) (hij : i + j ≤ n) :
    Ws w (some ⟨b, off + i, none⟩) j (cap - i) ((xs.drop i).take j) := by
  obtain ⟨h1, h2, h3, h4, h5⟩ := h
  refine ⟨by simp; omega, by omega, by unfold maxLen at *; omega, fun z hz => h4 z (List.mem_of_mem_drop (List.mem_of_mem_take hz)), ?_⟩
  rcases h5 with h5 | ⟨b', off', ha, hc⟩
  · exact .inl (by omega)
  · simp only [Option.some.injEq, Addr.mk.injEq] at ha
    obtain ⟨rfl, rfl, _⟩ := ha
    refine .inr ⟨b, off + i, rfl, fun m hm => ?_⟩
    rw [Nat.add_assoc, hc (i + m) (by omega)]
    simp [hm]
theorem Ws.first {w : World} {a : Option Addr} {n cap : Nat} {xs : List Wd} (h : Ws w a n cap xs) (j : Nat) (hj : j ≤ n) : Ws w a j cap (xs.take j) := by
  obtain ⟨h1, h2, h3, h4, h5⟩ := h
  refine ⟨by simp; omega, by omega, h3, fun z hz => h4 z (List.mem_of_mem_take hz), ?_⟩
  rcases h5 with h5 | ⟨b', off', ha, hc⟩
  · exact .inl (by omega)
  · refine .inr ⟨b', off', ha, fun m hm => ?_⟩
    rw [hc m (by omega)]
    simp [hm]

def wdOf (A : Nat → Option Addr) (L C : Nat → Nat) (Z : Nat → List Int) (r : Nat) : Wd := ⟨A r, L r, C r, (Z r).take (L r)⟩
theorem Ws.of_rows {w : World} {base : Nat} {a : Addr} {len cap : Nat} {A : Nat → Option Addr} {L C : Nat → Nat} {Z : Nat → List Int} (hl : len ≤ cap) (hm : cap ≤ maxLen)
    (h : ∀ r, r < cap → w.cell? (a.add r) = some (.slice (A r) (L r) (C r)) ∧ L r ≤ C r ∧ C r ≤ maxLen ∧ (Z r).length = C r ∧ (∀ n ∈ Z r, (Lit.int .i64 n).wf = true) ∧ (A r = none → C r = 0) ∧
        ∀ a', A r = some a' → base ≤ a'.block ∧ ∀ c, c < C r → w.cell? (a'.add c) = some (.int .i64 ((Z r).getD c 0))) :
    Ws w (some a) len cap ((List.range len).map (wdOf A L C Z)) := by
  have good : ∀ r, r < cap → (wdOf A L C Z r).Good w := by
    intro r hr
    obtain ⟨h1, h2, h3, h4, h5, h6, h7⟩ := h r hr
    refine ⟨by show ((Z r).take (L r)).length = L r; rw [List.length_take]; omega, h2, h3, fun z hz => h5 z (List.mem_of_mem_take hz), ?_⟩
    show L r = 0 ∨ _
    rcases Nat.eq_zero_or_pos (L r) with h0 | hp
    · exact .inl h0
    · right
      cases hA : A r with
      | none => have := h6 hA; omega
      | some a' =>
        obtain ⟨b, off, spot⟩ := a'
        have hc := (h7 _ hA).2
        have hspot : spot = none := by simpa [Addr.add] using World.cell?_spot (hc 0 (by omega))
        subst hspot
        refine ⟨b, off, hA, fun i hi => ?_⟩
        have hi' : i < L r := hi
        have := hc i (by omega)
        rw [show (⟨b, off, none⟩ : Addr).add i = ⟨b, off + i, none⟩ from by simp [Addr.add]] at this
        rw [this]
        simp [wdOf, hi']
  refine ⟨by simp, hl, hm, fun x hx => ?_, ?_⟩
  · obtain ⟨r, hr, rfl⟩ := List.mem_map.1 hx
    exact good r (by have := List.mem_range.1 hr; omega)
  · rcases Nat.eq_zero_or_pos len with h0 | hp
    · exact .inl h0
    · obtain ⟨b, off, spot⟩ := a
      have hspot : spot = none := by simpa [Addr.add] using World.cell?_spot (h 0 (by omega)).1
      subst hspot
      refine .inr ⟨b, off, rfl, fun i hi => ?_⟩
      have := (h i (by omega)).1
      rw [show (⟨b, off, none⟩ : Addr).add i = ⟨b, off + i, none⟩ from by simp [Addr.add]] at this
      rw [this]
      simp [hi, wdOf, Wd.v]

end Go.Proofs.Ytimjdlbhbiklgaa

/- Used by the law. -/
namespace Go.Proofs.Ytimjdlbhbiklgaa
open Go.RowKit

theorem nums_take_same {xs ys : List Wd} {j : Nat} (h : (nums xs).take j = (nums ys).take j) (hx : j < xs.length) (hy : j < ys.length) (e : (nums xs).getD j [] = (nums ys).getD j []) :
    (nums xs).take (j + 1) = (nums ys).take (j + 1) := by
  have hx' : j < (nums xs).length := by rw [nums_length]; exact hx
  have hy' : j < (nums ys).length := by rw [nums_length]; exact hy
  rw [List.take_succ_eq_append_getElem hx', List.take_succ_eq_append_getElem hy', h]
  simp only [List.getD_eq_getElem?_getD, List.getElem?_eq_getElem hx', List.getElem?_eq_getElem hy', Option.getD_some] at e
  rw [e]

set_option maxRecDepth 100000 in
set_option maxHeartbeats 800000 in
theorem sames_is (a b : Option Addr) (n m cap cap2 : Nat) (xs ys : List Wd) (r : Bool) (w : World) (ha : Ws w a n cap xs) (hb : Ws w b m cap2 ys) (h : decide (nums xs = nums ys) = r) :
    Calls Try.prog 14 #[.slice a n cap, .slice b m cap2] w fun e w' => e = .returned (.bool r) ∧ ∃ q, w' = w.drewN q := by
  subst h
  have hnc := ha.2.1
  have hcm := ha.2.2.1
  unfold maxLen at hcm
  have hmc := hb.2.1
  have hcm2 := hb.2.2.1
  unfold maxLen at hcm2
  have HA := Lib.hid ha
  have HB := Lib.hid hb
  clear ha hb
  by_cases hnm : n = m
  · subst hnm
    go_enter Try.func14, Try.ntmps14
    go_wp2
    go_loopw [5] (fun ix wr => ∃ j : Nat, j ≤ n ∧ ix = .int .i64 (j : Int) ∧ Hid ((nums xs).take j = (nums ys).take j) ∧ Hid (∃ q, wr = w.drewN q)) (fun ix _ => n - (intOf ix).toNat)
    case atStart => exact ⟨0, Nat.zero_le _, rfl, rfl, ⟨0, rfl⟩⟩
    case round =>
      obtain ⟨j, hj, rfl, HT, HQ⟩ := hrel
      by_cases hlt : j < n
      · obtain ⟨b1, o1, a3, n3, c3, z3, rfl, _, _, hx1, hs1, hz1⟩ := (HA.out.drawn HQ.out).one j hlt
        obtain ⟨b2, o2, a4, n4, c4, z4, rfl, _, _, hx2, hs2, hz2⟩ := (HB.out.drawn HQ.out).one j hlt
        have HS1 := Lib.hid hs1
        have HS2 := Lib.hid hs2
        have HZ1 := Lib.hid hz1
        have HZ2 := Lib.hid hz2
        have hlti : (j : Int) < (n : Int) := by omega
        clear hs1 hs2 hz1 hz2
        by_cases he : z3 = z4
        · have hd : decide (z3 = z4) = true := by simpa using he
          have HE := Lib.hid he
          have HD := Lib.hid hd
          clear hd he
          go_wp2
          go_quiet ((go_at_call 34; exact Calls.quiet_of (same_is _ _ _ _ _ _ z3 z4 true _ (HS1.out.drewN _) (HS2.out.drewN _) HD.out)))
          go_wp2
          go_roundw
          case rel => exact ⟨j + 1, by omega, by go_num, nums_take_same HT.out (by rw [HA.out.1]; exact hlt) (by rw [HB.out.1]; exact hlt) (by rw [HZ1.out, HZ2.out, HE.out]), (by obtain ⟨q, hq⟩ := HQ.out; exact ⟨_, by rw [hq, World.drewN_drewN]⟩)⟩
          case measure => simp [intOf]; omega
        · have hd : decide (z3 = z4) = false := by simpa using he
          have hfin : decide (nums xs = nums ys) = false := by
            rw [decide_eq_false_iff_not]; intro h; apply he; rw [← HZ1.out, ← HZ2.out, h]
          have HF := Lib.hid hfin
          have HD := Lib.hid hd
          clear he hfin hd
          go_wp2
          go_quiet ((go_at_call 34; exact Calls.quiet_of (same_is _ _ _ _ _ _ z3 z4 false _ (HS1.out.drewN _) (HS2.out.drewN _) HD.out)))
          go_wp2
          go_ret
          exact ⟨by rw [HF.out]; rfl, (by obtain ⟨q, hq⟩ := HQ.out; exact ⟨_, by rw [hq, World.drewN_drewN]⟩)⟩
      · have hfin : decide (nums xs = nums ys) = true := by
          rw [decide_eq_true_iff]
          have h := HT.out
          rwa [List.take_of_length_le (by rw [nums_length, HA.out.1]; omega), List.take_of_length_le (by rw [nums_length, HB.out.1]; omega)] at h
        have HF := Lib.hid hfin
        clear hfin
        go_wp2
        go_ret
        exact ⟨by rw [HF.out]; rfl, HQ.out⟩
  · have hfin : decide (nums xs = nums ys) = false := by
      rw [decide_eq_false_iff_not]; intro h
      have := congrArg List.length h
      rw [nums_length, nums_length, HA.out.1, HB.out.1] at this
      exact hnm this
    have h1 : ((n : Int) == (m : Int)) = false := by simp; omega
    have h2 : ((n : Int) != (m : Int)) = true := by simp; omega
    rw [hfin]
    clear hfin
    go_enter Try.func14, Try.ntmps14
    go_wp2
    go_ret
    exact ⟨rfl, 0, rfl⟩

def Short (xs : List Wd) : Prop := ∀ x ∈ xs, x.n ≤ 100
def FewK (K : Nat) (xs : List Wd) (n : Nat) : Prop := Short xs ∧ n ≤ K

set_option maxRecDepth 100000 in
set_option maxHeartbeats 800000 in
theorem few_of (K : Nat) (kk : Int) (a : Option Addr) (n cap : Nat) (xs : List Wd) (w : World) (hk : kk = (K : Int)) (ha : Ws w a n cap xs) :
    Calls Try.prog 21 #[.slice a n cap, .int .i64 kk] w fun e w' => (e = .returned (.bool false) ∨ e = .returned (.bool true) ∧ FewK K xs n) ∧ w = w' := by
  have hnc := ha.2.1
  have hcm := ha.2.2.1
  unfold maxLen at hcm
  have HA := Lib.hid ha
  have HK := Lib.hid hk
  clear ha hk
  go_enter Try.func21, Try.ntmps21
  go_wp2
  go_loop [5] (fun ix => ∃ j : Nat, j ≤ n ∧ ix = .int .i64 (j : Int) ∧ Hid (Short (xs.take j))) (fun ix => n - (intOf ix).toNat)
  case atStart => exact ⟨0, Nat.zero_le _, rfl, (by intro x hx; simp at hx)⟩
  case round =>
    obtain ⟨j, hj, rfl, HT⟩ := hrel
    by_cases hlt : j < n
    · obtain ⟨b1, o1, a3, n3, c3, z3, rfl, _, hx, hx1, hs1, _⟩ := HA.out.one j hlt
      have hlti : (j : Int) < (n : Int) := by omega
      have hnc3 := hs1.2.1
      have hcm3 := hs1.2.2.1
      unfold maxLen at hcm3
      have HX := Lib.hid hx
      clear hs1 hx
      by_cases he : 100 < n3
      · have hei : (100 : Int) < (n3 : Int) := by omega
        go_wp2
        go_ret
        exact ⟨.inl rfl, rfl⟩
      · have hei : ¬ (100 : Int) < (n3 : Int) := by omega
        go_wp2
        go_round
        case rel =>
          refine ⟨j + 1, by omega, by go_num, ?_⟩
          have hjl : j < xs.length := by rw [HA.out.1]; exact hlt
          intro x hx
          rw [List.take_succ_eq_append_getElem hjl] at hx
          rcases List.mem_append.1 hx with hx | hx
          · exact HT.out x hx
          · simp only [List.mem_singleton] at hx
            have e := HX.out
            rw [List.getD_eq_getElem?_getD, List.getElem?_eq_getElem hjl, Option.getD_some] at e
            rw [hx, e]
            show n3 ≤ 100
            omega
        case measure => simp [intOf]; omega
    · have hfin : xs.take j = xs := List.take_of_length_le (by rw [HA.out.1]; omega)
      rw [hfin] at HT
      clear hfin
      by_cases h2 : n ≤ K
      · have hi : decide ((n : Int) ≤ kk) = true := by rw [HK.out]; simp; omega
        have HI := Lib.hid hi
        clear hi
        go_wp2
        go_ret
        exact ⟨.inr ⟨by show Ending.returned (.bool (decide ((n : Int) ≤ kk))) = _; rw [HI.out], ⟨HT.out, h2⟩⟩, rfl⟩
      · have hi : decide ((n : Int) ≤ kk) = false := by rw [HK.out]; simp; omega
        have HI := Lib.hid hi
        clear hi
        go_wp2
        go_ret
        exact ⟨.inl (by show Ending.returned (.bool (decide ((n : Int) ≤ kk))) = _; rw [HI.out]), rfl⟩
set_option maxRecDepth 100000 in
theorem info_int : (Try.prog.info? 3).map (fun i => (i.zero, i.size, i.bytes)) = some (some (.int .i64 0), 1, 8) := by kernel_rfl
set_option maxRecDepth 100000 in
theorem info_words : (Try.prog.info? 23).map (fun i => (i.zero, i.size, i.bytes)) = some (some (.slice none 0 0), 1, 24) := by kernel_rfl

end Go.Proofs.Ytimjdlbhbiklgaa

/- Used by the law. -/
namespace Go.Proofs.Ytimjdlbhbiklgaa
open Go.RowKit Go.Sort

set_option maxRecDepth 100000 in
set_option maxHeartbeats 800000 in
theorem find1_is (bl bw : Nat) (a b : Option Addr) (n m cap cap2 : Nat) (xs : List Wd) (zs : List Int) (i : Nat) (r : Bool) (W : World)
    (hl : W.cell? ⟨bl, 0, none⟩ = some (.slice a n cap)) (hw : W.cell? ⟨bw, 0, none⟩ = some (.slice b m cap2)) (ha : Ws W a n cap xs) (hb : Sl .i64 W b m cap2 zs) (hi : i < n) (h : lessL ((nums xs).getD i []) zs = r) :
    Calls Try.prog 47 (#[.int .i64 i] ++ #[.pointer (some ⟨bl, 0, none⟩), .pointer (some ⟨bw, 0, none⟩)]) W fun e w' => e = .returned (.bool (!r)) ∧ ∃ q, w' = W.drewN q := by
  obtain ⟨b1, o1, a3, n3, c3, z3, rfl, _, _, hx1, hs1, hz1⟩ := ha.one i hi
  rw [hz1] at h
  have HS := Lib.hid hs1
  have HB := Lib.hid hb
  have HL := Lib.hid h
  have hlti : (i : Int) < (n : Int) := by omega
  clear ha hb h hs1 hz1
  cases r
  · go_enter Try.func47, Try.ntmps47
    go_wp2
    go_quiet ((go_at_call 25; exact Calls.quiet_of (less_is _ _ _ _ _ _ z3 zs false _ (HS.out.drewN _) (HB.out.drewN _) HL.out)))
    go_wp2
    go_ret
    exact ⟨rfl, _, rfl⟩
  · go_enter Try.func47, Try.ntmps47
    go_wp2
    go_quiet ((go_at_call 25; exact Calls.quiet_of (less_is _ _ _ _ _ _ z3 zs true _ (HS.out.drewN _) (HB.out.drewN _) HL.out)))
    go_wp2
    go_ret
    exact ⟨rfl, _, rfl⟩

theorem cnt_range (l : List (List Int)) (z : List Int) (n : Nat) (h : l.length = n) : (List.range n).countP (fun i => !!lessL (l.getD i []) z) = cnt l z := by
  subst h
  have e : l = (List.range l.length).map (fun i => l.getD i []) := by
    apply List.ext_getElem
    · simp
    · intro i h1 h2
      simp [h1]
  unfold cnt
  conv => rhs; rw [e]
  rw [List.countP_map]
  congr 1
  funext i
  simp

set_option maxHeartbeats 1600000 in
set_option maxRecDepth 100000 in
theorem find_is (a b : Option Addr) (n m cap cap2 : Nat) (xs : List Wd) (zs : List Int) (k : Nat) (r : Bool) (w : World) (ha : Ws w a n cap xs) (hb : Sl .i64 w b m cap2 zs)
    (hr : Rise (nums xs)) (hk : cnt (nums xs) zs = k) (h : decide (zs ∈ nums xs) = r) (hn : n ≤ 1000) :
    Calls Try.prog 24 #[.slice a n cap, .slice b m cap2] w fun e w' => e = .returned (.tuple #[.int .i64 (k : Nat), .bool r]) ∧ Below w.heap.size w w' := by
  have hlen : (nums xs).length = n := by rw [nums_length, ha.1]
  have hkn : k ≤ n := by rw [← hk, ← hlen]; exact cnt_le _ _
  have hfound := hr.found zs
  rw [hk, hlen, h] at hfound
  obtain ⟨W0, hW0⟩ : ∃ W0, W0 = (w.alloc (.cells #[.slice a n cap] 26)).alloc (.cells #[.slice b m cap2] 23) := ⟨_, rfl⟩
  have hB0 : Below w.heap.size w W0 := by rw [hW0]; exact ((Below.refl _ w).alloc (Nat.le_refl _) _).alloc (by simp) _
  have hsize : W0.heap.size = w.heap.size + 1 + 1 := by rw [hW0]; simp
  have ca : W0.cell? ⟨w.heap.size, 0, none⟩ = some (.slice a n cap) := by rw [hW0]; exact cell_alloc_sl _ (cell_new_sl w _ _)
  have cx : W0.cell? ⟨w.heap.size + 1, 0, none⟩ = some (.slice b m cap2) := by
    rw [hW0]; have := cell_new_sl (w.alloc (.cells #[.slice a n cap] 26)) (.slice b m cap2) 23; rwa [World.size_alloc] at this
  have hA0 := ha.below hB0 (Nat.le_refl _)
  have hC0 := hb.below hB0 (Nat.le_refl _)
  have eg : ∀ args w, (callFunc 47 args).run Try.prog w = .ok (.enter 47 args) w := enters_of Try.func47 (by kernel_rfl) rfl
  have hS := Any.sort_Search Try.searchO 47 #[.pointer (some ⟨w.heap.size, 0, none⟩), .pointer (some ⟨w.heap.size + 1, 0, none⟩)] n (fun i => !lessL ((nums xs).getD i []) zs) W0 eg (by omega)
    (fun q os i hi => (find1_is w.heap.size (w.heap.size + 1) a b n m cap cap2 xs zs i _ _ (cell_grown (by simp [hsize]; omega) ca q os) (cell_grown (by simp [hsize]) cx q os)
      (hA0.below (below_grown_sl _ W0 q os (Nat.le_refl _)) (Nat.le_refl _)) (hC0.below (below_grown_sl _ W0 q os (Nat.le_refl _)) (Nat.le_refl _)) hi rfl).mono fun _ _ ⟨he, q, hq⟩ => ⟨he, q, #[], by rw [hq, grow_empty]⟩)
    (fun i j hij hj hp => by
      have hp' : lessL ((nums xs).getD i []) zs = false := by simpa using hp
      show (!lessL ((nums xs).getD j []) zs) = true
      rw [hr.mono zs hij (by rw [hlen]; exact hj) hp']; rfl)
  rw [cnt_range (nums xs) zs n hlen, hk] at hS
  change Calls Try.prog 46 _ _ _ at hS
  have hS2 : Calls Try.prog 46 #[.int .i64 n, .func (.func 47) #[] #[.pointer (some ⟨w.heap.size, 0, none⟩), .pointer (some ⟨w.heap.size + 1, 0, none⟩)]] W0 fun e w' =>
      e = .returned (.int .i64 (k : Nat)) ∧ Below w.heap.size w w' ∧ w'.cell? ⟨w.heap.size, 0, none⟩ = some (.slice a n cap) ∧ w'.cell? ⟨w.heap.size + 1, 0, none⟩ = some (.slice b m cap2) := by
    refine hS.mono fun e w' hh => ?_
    obtain ⟨he, q, os, hw⟩ := hh
    refine ⟨he, ?_, ?_, ?_⟩
    · rw [hw]; exact hB0.trans (below_grown_sl _ W0 q os (by omega))
    · rw [hw]; exact cell_grown (by simp [hsize]; omega) ca q os
    · rw [hw]; exact cell_grown (by simp [hsize]) cx q os
  have HS := Lib.hid hS2
  have HA := Lib.hid ha
  have HB := Lib.hid hb
  have HK := Lib.hid hfound
  have HW := Lib.hid hW0
  clear hS hS2 hA0 hC0 ha hb hr hk h hB0 ca cx hfound hsize hlen eg hW0
  by_cases hlt : k < n
  · obtain ⟨z3, hz3⟩ : ∃ z3, (nums xs).getD k [] = z3 := ⟨_, rfl⟩
    have hk2 := HK.out
    rw [decide_eq_true hlt, Bool.true_and, hz3] at hk2
    have HZ3 := Lib.hid hz3
    have hc := cmp_same z3 zs
    rw [hk2] at hc
    obtain ⟨c, hcc⟩ : ∃ c, cmpL z3 zs = c := ⟨_, rfl⟩
    rw [hcc] at hc
    have HC := Lib.hid hcc
    have hd : decide ((k : Int) < (n : Int)) = true := by simp; omega
    have hd2 : (k : Int) < (n : Int) := by omega
    clear hz3 hk2 hcc
    cases r
    · have hc0 : (c == 0) = false := by simpa using hc
      have hc1 : ¬ c = 0 := by simpa using hc
      clear hc
      go_enter Try.func24, Try.ntmps24
      go_wp2_with (go_at_call 46; rw [← HW.out]; refine HS.out.mono ?_; rintro e w1 ⟨rfl, hb1, hc1, hc2⟩)
      obtain ⟨b1, o1, a3, n3, c3, z4, rfl, _, _, hx1, hs1, hz4⟩ := (HA.out.below hb1 (Nat.le_refl _)).one k hlt
      have hb2 := HB.out.below hb1 (Nat.le_refl _)
      rw [HZ3.out] at hz4
      subst hz4
      have HS1 := Lib.hid hs1
      have HB1 := Lib.hid hb2
      clear hs1 hb2
      go_quiet ((go_at_call 48; exact Calls.quiet_of (compare_is _ _ _ _ _ _ z3 zs c _ (HS1.out.drewN _) (HB1.out.drewN _) HC.out)))
      go_wp2
      go_ret2
      exact ⟨rfl, below_drewN hb1 _⟩
    · have hc0 : c = 0 := by simpa using hc
      subst hc0
      clear hc
      go_enter Try.func24, Try.ntmps24
      go_wp2_with (go_at_call 46; rw [← HW.out]; refine HS.out.mono ?_; rintro e w1 ⟨rfl, hb1, hc1, hc2⟩)
      obtain ⟨b1, o1, a3, n3, c3, z4, rfl, _, _, hx1, hs1, hz4⟩ := (HA.out.below hb1 (Nat.le_refl _)).one k hlt
      have hb2 := HB.out.below hb1 (Nat.le_refl _)
      rw [HZ3.out] at hz4
      subst hz4
      have HS1 := Lib.hid hs1
      have HB1 := Lib.hid hb2
      clear hs1 hb2
      go_quiet ((go_at_call 48; exact Calls.quiet_of (compare_is _ _ _ _ _ _ z3 zs 0 _ (HS1.out.drewN _) (HB1.out.drewN _) HC.out)))
      go_wp2
      go_ret2
      exact ⟨rfl, below_drewN hb1 _⟩
  · have hk2 := HK.out
    rw [decide_eq_false hlt, Bool.false_and] at hk2
    subst hk2
    have hd : decide ((k : Int) < (n : Int)) = false := by simp; omega
    go_enter Try.func24, Try.ntmps24
    go_wp2_with (go_at_call 46; rw [← HW.out]; refine HS.out.mono ?_; rintro e w1 ⟨rfl, hb1, hc1, hc2⟩)
    go_quiet (fail)
    go_wp2
    go_ret2
    exact ⟨rfl, below_drewN hb1 _⟩

end Go.Proofs.Ytimjdlbhbiklgaa

/- Used by the law. -/
namespace Go.Proofs.Ytimjdlbhbiklgaa
open Go.RowKit

theorem words_oneCell (xs : List Wd) : ∀ v ∈ vals xs, v.oneCell' = true := by
  intro v hv
  obtain ⟨x, _, rfl⟩ := List.mem_map.1 hv
  rfl

theorem owns_nil_words (w : World) (B : Nat) : w.ownsRow B 23 1 (.slice none 0 0) 0 (vals []) := ⟨rfl, .inl ⟨rfl, rfl⟩⟩

set_option maxRecDepth 100000 in
theorem Ws.newc {w : World} {t : TypeId} {B n m : Nat} (xs : List Wd) (hg : ∀ x ∈ xs, x.Good w) (hl : xs.length ≤ maxLen) (hB : B = w.heap.size) (hn : xs.length = n) (hm : xs.length = m) :
    Ws (w.alloc (.cells (vals xs).toArray t)) (some ⟨B, 0, none⟩) n m xs := by
  subst hB hn hm
  refine ⟨rfl, Nat.le_refl _, hl, fun x hx => (hg x hx).below ((Below.refl w.heap.size w).alloc (Nat.le_refl _) _) (Nat.le_refl _), .inr ⟨w.heap.size, 0, rfl, fun i hi => ?_⟩⟩
  rw [World.cell?_alloc_at _ _ _ _ (by rfl)]
  simp [vals, hi]

abbrev GWd (w : World) : Type := { x : Wd // x.Good w }
instance (w : World) : Inhabited (GWd w) := ⟨⟨Wd.no, Wd.no_good w⟩⟩
def GWd.v {w : World} (x : GWd w) : Value := x.1.v
def GWd.cf {w : World} (x y : GWd w) : Int := cmpL x.1.zs y.1.zs

end Go.Proofs.Ytimjdlbhbiklgaa
