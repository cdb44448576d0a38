import Derived.Test.YtjmabjeaodojeaaGreatChecked
import Derived.Test.YtjmabjeaodojeaaGreatPackA
import Derived.Test.YtjmabjeaodojeaaGreatPackB
import Derived.WalkKit
import Derived.WalkLawsBesides
import Derived.Below
import Derived.ProofKit
import Derived.Outline
import Derived.BigQuiet
import Derived.BigGuardPart
import Derived.Deep.QuietTactic
import Derived.LoopN
import Derived.WalkMore
import Derived.OpenShut
import Derived.Laws.Small
import Derived.Lib.Hide
import Derived.Lib.Strings
import Derived.Deep.RegionLaw
import Derived.Deep.AppendLies
import Derived.Maps.RangeWalk
import Derived.Laws.AppendOwnNone
import Derived.Test.YtjmabjeaodojeaaGreatGenStr
import Derived.ShutString
import Derived.Laws.BytesArg
/- Used by the law. -/
namespace Go.Proofs.YtjmabjeaodojeaaGreat
open Go.RowKit

theorem brows_oneCell (xs : List Bd) : ∀ v ∈ bvals xs, v.oneCell' = true := by
  intro v hv
  obtain ⟨x, _, rfl⟩ := List.mem_map.1 hv
  rfl
set_option maxRecDepth 100000 in
theorem info_brows : (Tryz.prog.info? 22).map (fun i => (i.zero, i.size, i.bytes)) = some (some (.slice none 0 0), 1, 24) := by kernel_rfl

set_option maxRecDepth 100000 in
theorem append_brows {w : World} {ops : Array Oper} {rest : List Oper} {o : Oper} {act : Act} {Q : Exit → Act → World → Prop} (hgd : o.guard = none) (s x : Operand)
    (ho : o.op = .call { callee := .builtin .append, args := #[s, x], argTypes := #[41, 41] }) (base : Nat) (v : Value) (n : Nat) (xs : List Bd) (hs : act.eval s = v)
    (hown : w.ownsRow base 22 1 v n (bvals xs)) (a : Option Addr) (m c : Nat) (zs : List Bd) (hx : act.eval x = .slice a m c) (hz : Bs w a m c zs) (ha : a = none → c = 0)
    (N : Nat) (hN : n + m = N) (h63 : N * 24 ≤ 140737488355328) (hbase : base ≤ w.heap.size)
    (h : ∀ a' c' w', w'.ownsRow base 22 1 (.slice a' N c') N (bvals (xs ++ zs)) → Below base w w' → (a' = none → c' = 0) → wpList Tryz.prog ops Q rest (act.put o.dst (.slice a' N c')) w') :
    wpList Tryz.prog ops Q (o :: rest) act w := by
  subst hN
  obtain ⟨i0, hi, hz0, hz1, hz2⟩ := info_parts info_brows
  have form : ∀ {w' : World} {v' : Value} {k : Nat} {l : List Value}, w'.ownsRow base 22 1 v' k l → ∃ a' c', v' = .slice a' k c' ∧ (a' = none → c' = 0) := by
    intro w' v' k l ho
    rcases ho.2 with ⟨h1, h2⟩ | ⟨g, cap, cur, h1, _⟩
    · subst h2; exact ⟨none, 0, h1, fun _ => rfl⟩
    · exact ⟨_, cap, h1, fun h => by cases h⟩
  cases a with
  | none =>
    obtain rfl := ha rfl
    obtain rfl : m = 0 := by have := hz.2.1; omega
    obtain rfl : zs = [] := List.eq_nil_of_length_eq_zero hz.1
    obtain ⟨a', c', rfl, hnil⟩ := form hown
    refine wpList_append_own_none hgd s x 41 ho base 22 i0 1 Tryz.underlying41 hi _ n (bvals xs) hs hown hx ?_
    exact h a' c' w (by simpa using hown) (Below.refl _ _) hnil
  | some y =>
    have hnews : ∀ j u, (bvals zs)[j]? = some u → w.cell? (y.add j) = some u := by
      intro j u hj
      have hjl : j < zs.length := by
        rcases Nat.lt_or_ge j zs.length with hlt | hge
        · exact hlt
        · simp [bvals, List.getElem?_eq_none hge] at hj
      obtain ⟨b, off, hy, _, hc⟩ := hz.at (by have := hz.1; omega)
      simp only [Option.some.injEq] at hy
      subst hy
      have := hc j (by have := hz.1; omega)
      rw [show (⟨b, off, none⟩ : Addr).add j = ⟨b, off + j, none⟩ from by simp [Addr.add], this]
      simp [bvals, hjl] at hj
      rw [← hj]; simp [hjl, Bd.v]
    refine wpList_append_own w hgd s x 41 ho base 22 i0 (.slice none 0 0) 1 24 Tryz.underlying41 hi hz0 hz1 hz2 rfl (by decide) v n (bvals xs) hs hown y m c (bvals zs) hx (by simp [bvals, hz.1]) hnews (brows_oneCell zs) (by unfold maxLen; omega) h63 hbase ?_
    intro v' w' hown' hgrow _
    obtain ⟨a', c', rfl, hnil⟩ := form hown'
    refine h a' c' w' (by rw [bvals_app]; exact hown') ?_ hnil
    exact (Below.refl _ _).grown hgrow hbase (fun k hk => (hown.lt k hk).1)
theorem owns_nil_brows (w : World) (B : Nat) : w.ownsRow B 22 1 (.slice none 0 0) 0 (bvals []) := ⟨rfl, .inl ⟨rfl, rfl⟩⟩

set_option maxRecDepth 100000 in
theorem Bs.newc {w : World} {t : TypeId} {B n m : Nat} (xs : List Bd) (hg : ∀ x ∈ xs, x.Good w) (hl : xs.length ≤ maxLen) (hB : B = w.heap.size) (hn : xs.length = n) (hm : xs.length = m) :
    Bs (w.alloc (.cells (bvals xs).toArray t)) (some ⟨B, 0, none⟩) n m xs := by
  subst hB hn hm
  refine ⟨rfl, Nat.le_refl _, hl, fun x hx => (hg x hx).below ((Below.refl w.heap.size w).alloc (Nat.le_refl _) _) (Nat.le_refl _), .inr ⟨w.heap.size, 0, rfl, fun i hi => ?_⟩⟩
  rw [World.cell?_alloc_at _ _ _ _ (by rfl)]
  simp [bvals, hi]

theorem Sl.part {w : World} {b off n cap : Nat} {zs : List Int} (h : Sl .u8 w (some ⟨b, off, none⟩) n cap zs) (f i : Nat) (hf : f ≤ i) (hi : i ≤ n) : Sl .u8 w (some ⟨b, off + f, none⟩) (i - f) (cap - f) ((zs.take i).drop f) := by
  have := h.piece f (i - f) (by omega)
  rwa [← List.drop_take] at this

def RowsIs (w w' : World) (e : Ending) (l : List (List Int)) : Prop :=
  ∃ a' m c' ys, e = .returned (.slice a' m c') ∧ Bs w' a' m c' ys ∧ bnums ys = l ∧ (a' = none → c' = 0) ∧ Below w.heap.size w w'

set_option maxHeartbeats 1600000 in
set_option maxRecDepth 100000 in
theorem rsplit_any (a : Option Addr) (n cap : Nat) (zs : List Int) (w : World) (hs : Sl .u8 w a n cap zs) (hn : n ≤ 1000000) :
    Calls Tryz.prog 16 #[.slice a n cap] w fun e w' => RowsIs w w' e (Line.split zs) := by
  have hnc := hs.2.1
  have hcm := hs.2.2.1
  unfold maxLen at hcm
  have HS := Lib.hid hs
  clear hs
  go_enter Tryz.func16, Tryz.ntmps16
  go_wp2
  go_loopw [3, 4, 5] (fun ov fv ix wr => ∃ (i f : Nat) (a' : Option Addr) (L c' : Nat) (outs : List Bd), f ≤ i ∧ i ≤ n ∧ L ≤ i ∧ ix = .int .i64 (i : Int) ∧ fv = .int .i64 (f : Int) ∧ ov = .slice a' L c' ∧ Hid (wr.ownsRow w.heap.size 22 1 (.slice a' L c') L (bvals outs)) ∧
      Hid (outs.length = L) ∧ Hid (∀ x ∈ outs, x.Good w) ∧ Hid (bnums outs ++ Line.splitA ((zs.take i).drop f) (zs.drop i) = Line.split zs) ∧ Hid (a' = none → c' = 0) ∧ Below w.heap.size w wr) (fun _ _ ix _ => n - (intOf ix).toNat)
  case atStart => exact ⟨0, 0, none, 0, 0, [], Nat.le_refl _, Nat.zero_le _, Nat.le_refl _, rfl, rfl, rfl, owns_nil_brows _ _, rfl, (by first | exact (trivial : True) | (intro x hx; simp at hx)), (by first | exact (trivial : True) | (show _ = _; simp [Line.split, bnums])), (fun _ => rfl), Below.refl _ _⟩
  case round =>
    obtain ⟨i, f, a', L, c', outs, hfi, hin, hLi, rfl, rfl, rfl, HO, HL, HG, HE, HN, hbr⟩ := hrel
    by_cases hlt : i < n
    · obtain ⟨b, off, rfl, _, hc⟩ := (HS.out.below hbr (Nat.le_refl _)).at (by omega)
      have hx1 := hc i hlt
      have hat := Line.splitA_at (b := zs) hfi (by rw [HS.out.1]; exact hlt)
      obtain ⟨x, hx⟩ : ∃ x, x = zs.getD i 0 := ⟨_, rfl⟩
      rw [← hx] at hx1 hat
      have hlti : (i : Int) < (n : Int) := by omega
      clear hc
      by_cases he : x = 10
      · subst he
        rw [if_pos rfl] at hat
        have hnext : bnums (outs ++ [⟨some ⟨b, off + f, none⟩, i - f, cap - f, (zs.take i).drop f⟩]) ++ Line.splitA ((zs.take (i + 1)).drop (i + 1)) (zs.drop (i + 1)) = Line.split zs := by
          rw [← HE.out, hat, bnums_app]; simp [bnums]
        have HNX := Lib.hid hnext
        have hfi1 : (f : Int) ≤ (i : Int) := by omega
        have hf0 : (0 : Int) ≤ (f : Int) := by omega
        have hic : (i : Int) ≤ (cap : Int) := by omega
        have hfc1 : ¬ (f : Int) = (cap : Int) := by omega
        have hfc2 : ¬ (cap : Int) = (f : Int) := by omega
        have hfc3 : ¬ cap = f := by omega
        have hz9 := hbr.size
        clear hat hx hnext
        go_wp2_with (first
          | (at_builtin; refine append_brows rfl (.tmp 17) (.tmp 22) (by rfl) w.heap.size _ L outs (by rfl) (HO.out.alloc _) (some ⟨wr.heap.size, 0, none⟩) 1 1 [⟨some ⟨b, off + f, none⟩, i - f, cap - f, (zs.take i).drop f⟩] (by rfl) (Bs.newc _ (by intro x hx; simp only [List.mem_singleton] at hx; subst hx; exact (HS.out.part f i hfi hin).below hbr (Nat.le_refl _)) (by show 1 ≤ maxLen; unfold maxLen; omega) rfl rfl rfl) (fun h => by cases h) (L + 1) (by rfl) (by omega) (by simp; omega) ?_; intro a5 c5 w5 hown5 hb5 hnil5)
          | fail)
        go_roundw
        case rel =>
          refine ⟨i + 1, i + 1, a5, L + 1, c5, _, Nat.le_refl _, by omega, by omega, by go_num, by go_num, rfl, hown5, (by show _ = _; rw [List.length_append, HL.out]; rfl), ?_, HNX.out, hnil5, (hbr.alloc hz9 _).trans hb5⟩
          intro x hx
          rcases List.mem_append.1 hx with hx | hx
          · exact HG.out x hx
          · simp only [List.mem_singleton] at hx
            subst hx
            exact HS.out.part f i hfi hin
        case measure => simp [intOf]; omega
      · have he1 : (x == 10) = false := by simpa using he
        rw [if_neg he] at hat
        have hnext := HE.out
        rw [hat] at hnext
        have HNX := Lib.hid hnext
        clear hat hx hnext
        go_wp2
        go_roundw
        case rel => exact ⟨i + 1, f, a', L, c', outs, by omega, by omega, by omega, by go_num, rfl, rfl, HO.out, HL.out, HG.out, HNX.out, HN.out, hbr⟩
        case measure => simp [intOf]; omega
    · obtain rfl : i = n := by omega
      by_cases hfn : f < i
      · obtain ⟨b, off, rfl, _, hc⟩ := (HS.out.below hbr (Nat.le_refl _)).at (by omega)
        have hlen : ((zs.take i).drop f).length = i - f := (HS.out.part f i hfi (Nat.le_refl _)).1
        have hend : bnums (outs ++ [⟨some ⟨b, off + f, none⟩, i - f, cap - f, (zs.take i).drop f⟩]) = Line.split zs := by
          have hz : zs.drop i = [] := List.drop_eq_nil_of_le (by rw [HS.out.1]; exact Nat.le_refl _)
          rw [← HE.out, hz, Line.splitA, if_neg (by intro h; rw [h] at hlen; simp at hlen; omega), bnums_app]
          simp [bnums]
        have HND := Lib.hid hend
        have hfi1 : (f : Int) < (i : Int) := by omega
        have hf0 : (0 : Int) ≤ (f : Int) := by omega
        have hfi2 : (f : Int) ≤ (i : Int) := by omega
        have hfc1 : ¬ (f : Int) = (cap : Int) := by omega
        have hfc2 : ¬ (cap : Int) = (f : Int) := by omega
        have hfc3 : ¬ cap = f := by omega
        have hz9 := hbr.size
        clear hc hlen hend
        go_wp2_with (first
          | (at_builtin; refine append_brows rfl (.tmp 30) (.tmp 34) (by rfl) w.heap.size _ L outs (by rfl) (HO.out.alloc _) (some ⟨wr.heap.size, 0, none⟩) 1 1 [⟨some ⟨b, off + f, none⟩, i - f, cap - f, (zs.take i).drop f⟩] (by rfl) (Bs.newc _ (by intro x hx; simp only [List.mem_singleton] at hx; subst hx; exact (HS.out.part f i hfi hin).below hbr (Nat.le_refl _)) (by show 1 ≤ maxLen; unfold maxLen; omega) rfl rfl rfl) (fun h => by cases h) (L + 1) (by rfl) (by omega) (by simp; omega) ?_; intro a5 c5 w5 hown5 hb5 hnil5)
          | fail)
        have B5 : Below w.heap.size w w5 := (hbr.alloc hz9 _).trans hb5
        go_ret
        refine ⟨a5, L + 1, c5, _, rfl, Bs.of_owns hown5 (fun x hx => ?_) (by simp [HL.out]), HND.out, hnil5, B5⟩
        rcases List.mem_append.1 hx with hx | hx
        · exact (HG.out x hx).below B5 (Nat.le_refl _)
        · simp only [List.mem_singleton] at hx
          subst hx
          exact (HS.out.part f i hfi hin).below B5 (Nat.le_refl _)
      · have hend : bnums outs = Line.split zs := by
          have hz : zs.drop i = [] := List.drop_eq_nil_of_le (by rw [HS.out.1]; exact Nat.le_refl _)
          rw [← HE.out, hz, Line.splitA, if_pos (List.drop_eq_nil_of_le (by simp; omega))]
          simp
        have HND := Lib.hid hend
        have hfi1 : ¬ (f : Int) < (i : Int) := by omega
        clear hend
        go_wp2
        go_ret
        exact ⟨a', L, c', outs, rfl, Bs.of_owns HO.out (fun x hx => (HG.out x hx).below hbr (Nat.le_refl _)) HL.out, HND.out, HN.out, hbr⟩

end Go.Proofs.YtjmabjeaodojeaaGreat

/- Used by the law. -/
namespace Go.Proofs.YtjmabjeaodojeaaGreat
open Go.RowKit

end Go.Proofs.YtjmabjeaodojeaaGreat

/- Used by the law. -/
namespace Go.Proofs.YtjmabjeaodojeaaGreat
open Go.RowKit

set_option maxRecDepth 100000 in
theorem rblank_is (c : Int) (r : Bool) (w : World) (h : Line.isBlank c = r) :
    Calls Tryz.prog 77 #[.int .u8 c] w fun e w' => e = .returned (.bool r) ∧ w = w' := by
  subst h
  by_cases h1 : c = 32
  · subst h1
    go_enter Tryz.func77, Tryz.ntmps77
    go_wp2
    go_ret
    exact ⟨rfl, rfl⟩
  · have hb1 : (c == 32) = false := by simpa using h1
    by_cases h2 : c = 9
    · subst h2
      go_enter Tryz.func77, Tryz.ntmps77
      go_wp2
      go_ret
      exact ⟨rfl, rfl⟩
    · have hb2 : (c == 9) = false := by simpa using h2
      have hr : Line.isBlank c = false := by unfold Line.isBlank; rw [hb1, hb2]; rfl
      rw [hr]
      clear hr
      go_enter Tryz.func77, Tryz.ntmps77
      go_wp2
      go_ret
      exact ⟨rfl, rfl⟩

set_option maxHeartbeats 3200000 in
set_option maxRecDepth 100000 in
theorem rfields_any (a : Option Addr) (n cap : Nat) (zs : List Int) (w : World) (hs : Sl .u8 w a n cap zs) (hn : n ≤ 1000000) :
    Calls Tryz.prog 44 #[.slice a n cap] w fun e w' => RowsIs w w' e (Line.fields zs) := by
  have hnc := hs.2.1
  have hcm := hs.2.2.1
  unfold maxLen at hcm
  have HS := Lib.hid hs
  clear hs
  go_enter Tryz.func44, Tryz.ntmps44
  go_wp2
  go_loopw [3, 4, 5] (fun ov fv ix wr => ∃ (i f : Nat) (a' : Option Addr) (L c' : Nat) (outs : List Bd), f ≤ i ∧ i ≤ n + 1 ∧ (n < i → f = i) ∧ L ≤ i ∧ ix = .int .i64 (i : Int) ∧ fv = .int .i64 (f : Int) ∧ ov = .slice a' L c' ∧ Hid (wr.ownsRow w.heap.size 22 1 (.slice a' L c') L (bvals outs)) ∧
      Hid (outs.length = L) ∧ Hid (∀ x ∈ outs, x.Good w) ∧ Hid (bnums outs ++ Line.fieldsA ((zs.take i).drop f) (zs.drop i) = Line.fields zs) ∧ Hid (a' = none → c' = 0) ∧ Below w.heap.size w wr) (fun _ _ ix _ => n + 1 - (intOf ix).toNat)
  case atStart => exact ⟨0, 0, none, 0, 0, [], Nat.le_refl _, Nat.zero_le _, (fun _ => rfl), Nat.le_refl _, rfl, rfl, rfl, owns_nil_brows _ _, rfl, (by first | exact (trivial : True) | (intro x hx; simp at hx)), (by first | exact (trivial : True) | (show _ = _; simp [Line.fields, bnums])), (fun _ => rfl), Below.refl _ _⟩
  case round =>
    obtain ⟨i, f, a', L, c', outs, hfi, hin, hni, hLi, rfl, rfl, rfl, HO, HL, HG, HE, HN, hbr⟩ := hrel
    by_cases hle : i ≤ n
    · -- what the end of a piece makes, where one has begun
      have hout : ∀ rest, f < i → bnums outs ++ (zs.take i).drop f :: rest = bnums (outs ++ [⟨a.map fun x => ⟨x.block, x.off + f, x.spot⟩, i - f, cap - f, (zs.take i).drop f⟩]) ++ rest := by
        intro rest _
        rw [bnums_app]; simp [bnums]
      have HOUT := Lib.hid hout
      clear hout
      have hlei : (i : Int) ≤ (n : Int) := by omega
      have hz9 := hbr.size
      have hdrop : (zs.take (i + 1)).drop (i + 1) = [] := List.drop_eq_nil_of_le (by simp; omega)
      have HDR := Lib.hid hdrop
      clear hdrop
      by_cases hlt : i < n
      · obtain ⟨b, off, rfl, _, hc⟩ := (HS.out.below hbr (Nat.le_refl _)).at (by omega)
        have hx1 := hc i hlt
        have hat := Line.fieldsA_at (b := zs) hfi (by rw [HS.out.1]; exact hlt)
        obtain ⟨x, hx⟩ : ∃ x, x = zs.getD i 0 := ⟨_, rfl⟩
        rw [← hx] at hx1 hat
        have hlti : (i : Int) < (n : Int) := by omega
        have hne1 : ((i : Int) == (n : Int)) = false := by simp; omega
        have hne2 : ¬ (i : Int) = (n : Int) := by omega
        clear hc
        cases hr : Line.isBlank x
        · rw [hr] at hat
          simp only [Bool.false_eq_true, if_false] at hat
          have hnext := HE.out
          rw [hat] at hnext
          have HNX := Lib.hid hnext
          have HR := Lib.hid hr
          clear hat hx hnext hr
          go_wp2_with (go_at_call 77; refine (rblank_is _ _ _ HR.out).mono ?_; rintro e w1 ⟨rfl, rfl⟩)
          go_roundw
          case rel => exact ⟨i + 1, f, a', L, c', outs, by omega, by omega, (fun h => by omega), by omega, by go_num, rfl, rfl, HO.out, HL.out, HG.out, HNX.out, HN.out, hbr⟩
          case measure => simp [intOf]; omega
        · rw [hr] at hat
          simp only [if_true] at hat
          have HR := Lib.hid hr
          clear hr hx
          by_cases hfl : f < i
          · rw [if_pos hfl] at hat
            have hnext := HE.out
            rw [hat, HOUT.out _ hfl] at hnext
            have HNX := Lib.hid hnext
            have hfi1 : (f : Int) < (i : Int) := by omega
            have hfi2 : (f : Int) ≤ (i : Int) := by omega
            have hf0 : (0 : Int) ≤ (f : Int) := by omega
            have hic : (i : Int) ≤ (cap : Int) := by omega
            have hfc1 : ¬ (f : Int) = (cap : Int) := by omega
            have hfc2 : ¬ (cap : Int) = (f : Int) := by omega
            have hfc3 : ¬ cap = f := by omega
            clear hat hnext
            go_wp2_with (first
              | (go_at_call 77; refine (rblank_is _ _ _ HR.out).mono ?_; rintro e w1 ⟨rfl, rfl⟩)
              | (at_builtin; refine append_brows rfl (.tmp 26) (.tmp 31) (by rfl) w.heap.size _ L outs (by rfl) (HO.out.alloc _) (some ⟨wr.heap.size, 0, none⟩) 1 1 [⟨some ⟨b, off + f, none⟩, i - f, cap - f, (zs.take i).drop f⟩] (by rfl) (Bs.newc _ (by intro x hx; simp only [List.mem_singleton] at hx; subst hx; exact (HS.out.part f i hfi hle).below hbr (Nat.le_refl _)) (by show 1 ≤ maxLen; unfold maxLen; omega) rfl rfl rfl) (fun h => by cases h) (L + 1) (by rfl) (by omega) (by simp; omega) ?_; intro a5 c5 w5 hown5 hb5 hnil5)
              | fail)
            go_roundw
            case rel =>
              refine ⟨i + 1, i + 1, a5, L + 1, c5, _, Nat.le_refl _, by omega, (fun _ => rfl), by omega, by go_num, by go_num, rfl, hown5, (by show _ = _; rw [List.length_append, HL.out]; rfl), ?_, HNX.out, hnil5, (hbr.alloc hz9 _).trans hb5⟩
              intro x hx
              rcases List.mem_append.1 hx with hx | hx
              · exact HG.out x hx
              · simp only [List.mem_singleton] at hx
                subst hx
                exact HS.out.part f i hfi hle
            case measure => simp [intOf]; omega
          · rw [if_neg hfl] at hat
            have hnext := HE.out
            rw [hat] at hnext
            have HNX := Lib.hid hnext
            have hfi1 : ¬ (f : Int) < (i : Int) := by omega
            clear hat hnext
            go_wp2_with (go_at_call 77; refine (rblank_is _ _ _ HR.out).mono ?_; rintro e w1 ⟨rfl, rfl⟩)
            go_roundw
            case rel => exact ⟨i + 1, i + 1, a', L, c', outs, Nat.le_refl _, by omega, (fun _ => rfl), by omega, by go_num, by go_num, rfl, HO.out, HL.out, HG.out, HNX.out, HN.out, hbr⟩
            case measure => simp [intOf]; omega
      · obtain rfl : i = n := by omega
        have heq : ((i : Int) == (i : Int)) = true := by simp
        have hd1 : zs.drop i = [] := List.drop_eq_nil_of_le (by rw [HS.out.1]; exact Nat.le_refl _)
        have hd2 : zs.drop (i + 1) = [] := List.drop_eq_nil_of_le (by rw [HS.out.1]; omega)
        by_cases hfl : f < i
        · obtain ⟨b, off, rfl, _, hc⟩ := (HS.out.below hbr (Nat.le_refl _)).at (by omega)
          have hlen : ((zs.take i).drop f).length = i - f := (HS.out.part f i hfi (Nat.le_refl _)).1
          have hnext := HE.out
          rw [hd1, Line.fieldsA, if_neg (by intro h; rw [h] at hlen; simp at hlen; omega), HOUT.out _ hfl] at hnext
          have hnext2 : bnums (outs ++ [⟨some ⟨b, off + f, none⟩, i - f, cap - f, (zs.take i).drop f⟩]) ++ Line.fieldsA ((zs.take (i + 1)).drop (i + 1)) (zs.drop (i + 1)) = Line.fields zs := by
            rw [HDR.out, hd2, Line.fieldsA, if_pos rfl, List.append_nil]; simpa using hnext
          have HNX := Lib.hid hnext2
          have hfi1 : (f : Int) < (i : Int) := by omega
          have hfi2 : (f : Int) ≤ (i : Int) := by omega
          have hf0 : (0 : Int) ≤ (f : Int) := by omega
          have hic : (i : Int) ≤ (cap : Int) := by omega
          have hfc1 : ¬ (f : Int) = (cap : Int) := by omega
          have hfc2 : ¬ (cap : Int) = (f : Int) := by omega
          have hfc3 : ¬ cap = f := by omega
          clear hc hlen hnext hnext2 hd1 hd2
          go_wp2_with (first
            | (at_builtin; refine append_brows rfl (.tmp 26) (.tmp 31) (by rfl) w.heap.size _ L outs (by rfl) (HO.out.alloc _) (some ⟨wr.heap.size, 0, none⟩) 1 1 [⟨some ⟨b, off + f, none⟩, i - f, cap - f, (zs.take i).drop f⟩] (by rfl) (Bs.newc _ (by intro x hx; simp only [List.mem_singleton] at hx; subst hx; exact (HS.out.part f i hfi (Nat.le_refl _)).below hbr (Nat.le_refl _)) (by show 1 ≤ maxLen; unfold maxLen; omega) rfl rfl rfl) (fun h => by cases h) (L + 1) (by rfl) (by omega) (by simp; omega) ?_; intro a5 c5 w5 hown5 hb5 hnil5)
            | fail)
          go_roundw
          case rel =>
            refine ⟨i + 1, i + 1, a5, L + 1, c5, _, Nat.le_refl _, by omega, (fun _ => rfl), by omega, by go_num, by go_num, rfl, hown5, (by show _ = _; rw [List.length_append, HL.out]; rfl), ?_, HNX.out, hnil5, (hbr.alloc hz9 _).trans hb5⟩
            intro x hx
            rcases List.mem_append.1 hx with hx | hx
            · exact HG.out x hx
            · simp only [List.mem_singleton] at hx
              subst hx
              exact HS.out.part f i hfi (Nat.le_refl _)
          case measure => simp [intOf]
        · have hnext := HE.out
          rw [hd1, Line.fieldsA, if_pos (List.drop_eq_nil_of_le (by simp; omega))] at hnext
          have hnext2 : bnums outs ++ Line.fieldsA ((zs.take (i + 1)).drop (i + 1)) (zs.drop (i + 1)) = Line.fields zs := by
            rw [HDR.out, hd2, Line.fieldsA, if_pos rfl, List.append_nil]; simpa using hnext
          have HNX := Lib.hid hnext2
          have hfi1 : ¬ (f : Int) < (i : Int) := by omega
          clear hnext hnext2 hd1 hd2
          go_wp2
          go_roundw
          case rel => exact ⟨i + 1, i + 1, a', L, c', outs, Nat.le_refl _, by omega, (fun _ => rfl), by omega, by go_num, by go_num, rfl, HO.out, HL.out, HG.out, HNX.out, HN.out, hbr⟩
          case measure => simp [intOf]
    · have hend : bnums outs = Line.fields zs := by
        have h := HE.out
        rw [List.drop_eq_nil_of_le (show zs.length ≤ i by rw [HS.out.1]; omega), Line.fieldsA] at h
        have hin1 : i = n + 1 := by omega
        rw [if_pos (List.drop_eq_nil_of_le (by have := hni (by omega); simp; omega))] at h
        simpa using h
      have HND := Lib.hid hend
      have hlei : ¬ (i : Int) ≤ (n : Int) := by omega
      clear hend
      go_wp2
      go_ret
      exact ⟨a', L, c', outs, rfl, Bs.of_owns HO.out (fun x hx => (HG.out x hx).below hbr (Nat.le_refl _)) HL.out, HND.out, HN.out, hbr⟩

end Go.Proofs.YtjmabjeaodojeaaGreat

/- Used by the law. -/
namespace Go.Proofs.YtjmabjeaodojeaaGreat
open Go.RowKit

theorem first_row {w : World} {a : Option Addr} {n cap : Nat} {xs : List Bd} {f : List Int} {fs : List (List Int)} (h : Bs w a n cap xs) (hf : bnums xs = f :: fs) (h0 : f ≠ []) :
    0 < n ∧ ∃ b off n1 c1 b1 o1, a = some ⟨b, off, none⟩ ∧ w.cell? ⟨b, off, none⟩ = some (.slice (some ⟨b1, o1, none⟩) n1 c1) ∧ 0 < n1 ∧ w.cell? ⟨b1, o1, none⟩ = some (.int .u8 (f.getD 0 0)) := by
  have hn : 0 < n := by
    have := congrArg List.length hf
    rw [bnums_length, h.1] at this
    simp at this; omega
  obtain ⟨b, off, a1, n1, c1, z1, rfl, _, _, hx1, hs1, hz1⟩ := h.one 0 hn
  obtain rfl : f = z1 := by rw [hf] at hz1; simpa using hz1
  have hn1 : 0 < n1 := by
    rcases Nat.eq_zero_or_pos n1 with hq | hq
    · exact absurd (List.eq_nil_of_length_eq_zero (by rw [hs1.1, hq])) h0
    · exact hq
  obtain ⟨b2, o2, rfl, _, hc2⟩ := hs1.at hn1
  exact ⟨hn, b, off, n1, c1, b2, o2, rfl, hx1, hn1, hc2 0 hn1⟩

set_option maxRecDepth 100000 in
set_option maxHeartbeats 1600000 in
theorem rbare_is (a : Option Addr) (n cap : Nat) (zs : List Int) (r : Bool) (w : World) (hs : Sl .u8 w a n cap zs) (hn : n ≤ 1000000) (h : Line.bare zs = r) :
    Calls Tryz.prog 43 #[.slice a n cap] w fun e w' => e = .returned (.bool r) ∧ Below w.heap.size w w' := by
  subst h
  have HS := Lib.hid hs
  have hall := Line.fields_no zs
  clear hs
  by_cases hz0 : Line.fields zs = []
  · have hz : Line.bare zs = true := by unfold Line.bare; rw [hz0]
    rw [hz]
    go_enter Tryz.func43, Tryz.ntmps43
    go_wp2_with (go_at_call 44; refine (rfields_any _ _ _ _ _ HS.out hn).mono ?_; rintro e w1 ⟨a5, m5, c5, ys, rfl, hys, hyf, hyn, hb⟩; obtain rfl : m5 = 0 := (by have := congrArg List.length hyf; rw [bnums_length, hys.1, hz0] at this; exact this); have HB := Lib.hid hb; clear hys hb)
    go_ret
    exact ⟨rfl, HB.out⟩
  · obtain ⟨f, fs, hz1⟩ : ∃ f fs, Line.fields zs = f :: fs := by
      cases h : Line.fields zs with
      | nil => exact absurd h hz0
      | cons f fs => exact ⟨f, fs, rfl⟩
    have hz : Line.bare zs = (f.getD 0 0 == 35) := by unfold Line.bare; rw [hz1]
    have hf0 : f ≠ [] := (hall f (by rw [hz1]; simp)).1
    rw [hz]
    clear hz hz0 hall
    go_enter Tryz.func43, Tryz.ntmps43
    go_wp2_with (go_at_call 44; refine (rfields_any _ _ _ _ _ HS.out hn).mono ?_; rintro e w1 ⟨a5, m5, c5, ys, rfl, hys, hyf, hyn, hb⟩; obtain ⟨hm5, b1, o1, n1, c1, b2, o2, rfl, hx1, hn1, hx2⟩ := first_row hys (hyf.trans hz1) hf0; have hm5i : (0 : Int) < (m5 : Int) := (by omega); have hm5j : ¬ (m5 : Int) = 0 := (by omega); have hm5k : ((m5 : Int) == 0) = false := (by simpa using hm5j); have hn1i : (0 : Int) < (n1 : Int) := (by omega); have HB := Lib.hid hb; clear hys hb)
    go_ret
    exact ⟨rfl, HB.out⟩

end Go.Proofs.YtjmabjeaodojeaaGreat
