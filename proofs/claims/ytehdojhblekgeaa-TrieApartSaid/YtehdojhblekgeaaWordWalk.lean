/- The program's rises, Write, readWord, with of layer 9. -/
import Derived.Test.YtehdojhblekgeaaWordFit
import Derived.Test.YtehdojhblekgeaaWordInsert
import Derived.Test.YtehdojhblekgeaaOrderWalkE
import Derived.Test.YtehdojhblekgeaaPackE
import Derived.Test.YtehdojhblekgeaaPackD
import Derived.Test.YtehdojhblekgeaaPackB
namespace Go.Proofs.Ytehdojhblekgeaa
open Go.RowKit

set_option maxRecDepth 100000 in
theorem rises_bad {l : List (List Int)} {i : Nat} (hi : i + 1 < l.length) (h : lessL (l.getD i []) (l.getD (i + 1) []) = false) : Wl.rises l = false := by
  cases hr : Wl.rises l with
  | false => rfl
  | true =>
    have := (Wl.rises_iff.1 hr).at (show i < i + 1 by omega) hi
    rw [h] at this; cases this
set_option maxRecDepth 100000 in
theorem rises_good : ∀ {l : List (List Int)}, (∀ i, i + 1 < l.length → lessL (l.getD i []) (l.getD (i + 1) []) = true) → Wl.rises l = true
  | [], _ => rfl
  | [_], _ => rfl
  | x :: y :: l, h => by
    have h0 := h 0 (by simp)
    have ih := rises_good (l := y :: l) (fun i hi => by
      have := h (i + 1) (by simp at hi ⊢; omega)
      simpa using this)
    unfold Wl.rises
    simp only [List.getD_cons_zero, List.getD_cons_succ] at h0
    rw [h0, ih]; rfl

set_option maxHeartbeats 3200000 in
set_option maxRecDepth 100000 in
theorem rises_is (a : Option Addr) (n cap : Nat) (xs : List Wd) (r : Bool) (w : World) (hs : Ws w a n cap xs) (hr : Wl.rises (nums xs) = r) :
    Calls Try.prog 33 #[.slice a n cap] w fun e w' => e = .returned (.bool r) ∧ ∃ q, w' = w.drewN q := by
  have hnc := hs.2.1
  have hcm := hs.2.2.1
  unfold maxLen at hcm
  have HS := Lib.hid hs
  have HR := Lib.hid hr
  have HL : Hid ((nums xs).length = n) := by show _ = _; rw [nums_length, hs.1]
  clear hs hr
  go_enter Try.func33, Try.ntmps33
  go_wp2
  go_loopw [3] (fun ix wr => ∃ p : Nat, (p + 1 ≤ n ∨ p = 0) ∧ ix = .int .i64 ((p : Int) + 1) ∧ Hid (∀ i, i + 1 < p + 1 → i + 1 < n → lessL ((nums xs).getD i []) ((nums xs).getD (i + 1) []) = true) ∧ Hid (∃ q, wr = w.drewN q)) (fun ix _ => n - (intOf ix).toNat)
  case atStart => exact ⟨0, .inr rfl, rfl, fun i hi => by omega, ⟨0, rfl⟩⟩
  case round =>
    obtain ⟨p, hp, rfl, HT, HW⟩ := hrel
    by_cases hlt : p + 1 < n
    · obtain ⟨b1, o1, a1, n1, c1, z1, rfl, hb1, hx1, hc1, hs1, hz1⟩ := (HS.out.drawn HW.out).one p (by omega)
      obtain ⟨b2, o2, a2, n2, c2, z2, hb2, _, hx2, hc2, hs2, hz2⟩ := (HS.out.drawn HW.out).one (p + 1) hlt
      simp only [Option.some.injEq, Addr.mk.injEq, and_true] at hb2
      obtain ⟨rfl, rfl⟩ := hb2
      have HS1 := Lib.hid hs1
      have HS2 := Lib.hid hs2
      have HZ1 := Lib.hid hz1
      have HZ2 := Lib.hid hz2
      obtain ⟨q, hq⟩ : ∃ q, lessL z1 z2 = q := ⟨_, rfl⟩
      have HQ := Lib.hid hq
      have hlti : (p : Int) + 1 < (n : Int) := by omega
      have hpw : IntKind.i64.wrap ((p : Int) + 1 - 1) = (p : Int) := by rw [IntKind.wrap_i64]; omega
      have hpn : (p : Int) < (n : Int) := by omega
      have hp0 : (0 : Int) ≤ (p : Int) := by omega
      have hp1 : (0 : Int) ≤ (p : Int) + 1 := by omega
      have htn : ((p : Int) + 1).toNat = p + 1 := by omega
      have hc2' : wr.cell? ⟨b1, o1 + (p + 1), none⟩ = some (.slice a2 n2 c2) := hc2
      clear hx1 hs1 hz1 hx2 hs2 hz2 hq hc2
      cases q
      · have HF : Hid (Wl.rises (nums xs) = false) := rises_bad (i := p) (by rw [HL.out]; exact hlt) (by rw [HZ1.out, HZ2.out]; exact HQ.out)
        obtain rfl : r = false := by rw [← HR.out]; exact HF.out
        go_wp2_with fail
        go_quiet ((go_at_call 40; exact Calls.quiet_of (less_is a1 a2 n1 n2 c1 c2 z1 z2 false _ (HS1.out.drewN _) (HS2.out.drewN _) HQ.out)))
        go_wp2
        go_ret
        obtain ⟨q, rfl⟩ := HW.out
        exact ⟨rfl, _, World.drewN_drewN _ _ _⟩
      · go_wp2_with fail
        go_quiet ((go_at_call 40; exact Calls.quiet_of (less_is a1 a2 n1 n2 c1 c2 z1 z2 true _ (HS1.out.drewN _) (HS2.out.drewN _) HQ.out)))
        go_wp2
        go_roundw
        case rel =>
          refine ⟨p + 1, .inl (by omega), by go_num, ?_, ?_⟩
          · intro i h1 h2
            rcases Nat.lt_or_ge (i + 1) (p + 1) with h | h
            · exact HT.out i h h2
            · obtain rfl : i = p := by omega
              rw [HZ1.out, HZ2.out]; exact HQ.out
          · obtain ⟨q, rfl⟩ := HW.out
            exact ⟨_, World.drewN_drewN _ _ _⟩
        case measure => simp [intOf]; omega
    · obtain rfl : r = true := by
        rw [← HR.out]
        exact rises_good fun i hi => HT.out i (by rw [HL.out] at hi; omega) (by rw [HL.out] at hi; exact hi)
      have hlti : ¬ (p : Int) + 1 < (n : Int) := by omega
      go_wp2
      go_ret
      exact ⟨rfl, HW.out⟩

/-- a row of words that the call owns, of which none lies in the row's own block -/
def Held (B : Nat) (w : World) (a : Option Addr) (n c : Nat) (xs : List Wd) : Prop :=
  w.ownsRow B 35 1 (.slice a n c) n (vals xs) ∧ (∀ x ∈ xs, x.Good w ∧ x.Far (Value.slice a n c).ownBlock) ∧ (a = none → c = 0)
set_option maxRecDepth 100000 in
theorem Held.length {B : Nat} {w : World} {a : Option Addr} {n c : Nat} {xs : List Wd} (h : Held B w a n c xs) : xs.length = n := by
  have := h.1.1; rw [vals_length] at this; omega
set_option maxRecDepth 100000 in
theorem Held.ws {B : Nat} {w : World} {a : Option Addr} {n c : Nat} {xs : List Wd} (h : Held B w a n c xs) : Ws w a n c xs := Ws.of_owns h.1 (fun x hx => (h.2.1 x hx).1) h.length
set_option maxRecDepth 100000 in
theorem Held.below {B : Nat} {w w' : World} {a : Option Addr} {n c : Nat} {xs : List Wd} (h : Held B w a n c xs) (hb : Below w.heap.size w w') : Held B w' a n c xs :=
  ⟨ownsRow_below h.1 hb (Nat.le_refl _), fun x hx => ⟨(h.2.1 x hx).1.below hb (Nat.le_refl _), (h.2.1 x hx).2⟩, h.2.2⟩
set_option maxRecDepth 100000 in
theorem Held.nil (B : Nat) (w : World) : Held B w none 0 0 [] := ⟨owns_nil_words _ _, by simp, fun _ => rfl⟩
set_option maxRecDepth 100000 in
theorem Wd.Good.far {w : World} {x : Wd} {k : Option Nat} (h : x.Good w) (hk : ∀ b, k = some b → w.heap.size ≤ b) : x.Far k := by
  cases k with
  | none =>
    obtain ⟨h1, h2, h3, h4, h5⟩ := h
    rcases h5 with h5 | ⟨b, off, ha, hc⟩
    · exact .inl h5
    · exact .inr ⟨b, off, ha, by simp⟩
  | some b => exact h.far_new (hk b rfl)
set_option maxRecDepth 100000 in
theorem ins_new {l : List (List Int)} {z : List Int} (h : decide (z ∈ l) = false) : ins l z = l.take (cnt l z) ++ z :: l.drop (cnt l z) := by
  unfold ins; rw [if_neg (by simpa using h)]
set_option maxRecDepth 100000 in
theorem ins_old {l : List (List Int)} {z : List Int} (h : decide (z ∈ l) = true) : ins l z = l := by
  unfold ins; rw [if_pos (by simpa using h)]

/-! ### readWord -/
set_option maxRecDepth 100000 in
theorem word_many {zs : List Int} {p : List Int × Int} (h : Wl.word zs = p) (hl : (Line.fields zs).length ≠ 1) : p = ([], 71) := by
  rw [← h]; unfold Wl.word; rw [if_neg hl]
set_option maxRecDepth 100000 in
theorem word_one {zs f : List Int} {p : List Int × Int} (h : Wl.word zs = p) (hf : Line.fields zs = [f]) : Wl.ofField f = p := by
  rw [← h]; unfold Wl.word; rw [hf, if_pos (by rfl)]; rfl

/-- what readWord answers: the word lies in new memory -/
def ToldIs (w w' : World) (e : Ending) (p : List Int × Int) : Prop :=
  ∃ a c, e = .returned (.agg #[.slice a p.1.length c, .int .i64 p.2]) ∧ Sl .i64 w' a p.1.length c p.1 ∧ (∀ k, k < w.heap.size → (⟨a, p.1.length, c, p.1⟩ : Wd).Far (some k)) ∧ Below w.heap.size w w'

end Go.Proofs.Ytehdojhblekgeaa
