/- What the kinds of layer 7 tell, by one shape: so many fields of signs, so many costs, a function. -/
import Derived.Test.YtdondndalpmdgaaSpecKinds
import Derived.Test.YtdondndalpmdgaaSpecTellE
namespace Go.Proofs.Ytdondndalpmdgaa
open Go.RowKit
namespace Spec

noncomputable def signsAll : List (List Int) → Option (List (List Int))
  | [] => some []
  | f :: fs => match signs f with
    | none => none
    | some l => (signsAll fs).map (l :: ·)
set_option maxRecDepth 100000 in
theorem costs_cons {f : List Int} {fs : List (List Int)} : costs (f :: fs) = match Num.read f with
    | none => none
    | some c => (costs fs).map ((c : Int) :: ·) := by
  rw [costs]
  cases Num.read f with
  | none => rfl
  | some c => cases costs fs <;> rfl
/-- a line of a kind, behind its first field -/
noncomputable def run (S : Nat) (fs : List (List Int)) (tell : List (List Int) → List Int → List Int × List Rul × Bool) : Sp :=
  match signsAll (fs.take S) with
  | none => Sp.no 10
  | some ls => match costs (fs.drop S) with
    | none => Sp.no 50
    | some cs => if (tell ls cs).2.2 = true ∧ (tell ls cs).2.1.all fit = true then ⟨0, (tell ls cs).1, (tell ls cs).2.1⟩ else Sp.no 60

set_option maxRecDepth 100000 in
theorem fside_signs (f : List Int) : side f = (signs f).map fside := by
  unfold side
  by_cases h : f = [95]
  · subst h
    have h95 : signs [95] = some [95] := by
      have := signs_put (l := [95]) (by decide)
      exact this
    rw [if_pos rfl, h95]; rfl
  · rw [if_neg h]
    cases hs : signs f with
    | none => rfl
    | some l =>
      have hp := (signs_some hs).2
      have hl : l ≠ [95] := fun e => h (by rw [← hp, e]; decide)
      simp [fside, hl]
set_option maxRecDepth 100000 in
theorem told_any (ok : Bool) (rs : List Rul) : (if ok = true ∧ (if ok = true then rs else []).all fit = true then (⟨0, [], if ok = true then rs else []⟩ : Sp) else Sp.no 60) = told ok rs := by
  unfold told
  cases ok <;> simp
def tBASE (_ : List (List Int)) (cs : List Int) : List Int × List Rul × Bool := (cs, [], true)
def tREP (ls : List (List Int)) (cs : List Int) : List Int × List Rul × Bool := ([], [⟨fside (ls.getD 0 []), fside (ls.getD 1 []), cs.getD 0 0⟩], true)
def tKEY (ls : List (List Int)) (cs : List Int) : List Int × List Rul × Bool := ([], if keysOk 0 (ls.getD 0 []) = true then keysG (cs.getD 0 0) 0 0 (ls.getD 0 []) else [], keysOk 0 (ls.getD 0 []))
def tMAP (ls : List (List Int)) (cs : List Int) : List Int × List Rul × Bool := ([], if rowOk (ls.getD 0 []) = true then mapsG (cs.getD 0 0) (ls.getD 0 []) else [], rowOk (ls.getD 0 []))
set_option maxRecDepth 100000 in
theorem run_base (f : List (List Int)) (_h : (f.drop 1).length = 0 + 4) : run 0 (f.drop 1) tBASE = base f := by
  unfold run base
  simp only [List.take_zero, signsAll, List.drop_zero]
  cases costs (f.drop 1) with
  | none => rfl
  | some cs => simp [tBASE]
set_option maxRecDepth 100000 in
theorem run_rep (f : List (List Int)) (h : (f.drop 1).length = 2 + 1) : run 2 (f.drop 1) tREP = rep f := by
  obtain ⟨x, a, b, c, rfl⟩ : ∃ x a b c, f = [x, a, b, c] := by
    match f, h with
    | [x, a, b, c], _ => exact ⟨x, a, b, c, rfl⟩
  unfold run rep
  show (match signsAll [a, b] with | none => _ | some ls => _) = _
  show _ = match side a, side b with | some a, some b => last c fun c => told true [⟨a, b, c⟩] | _, _ => Sp.no 10
  rw [fside_signs, fside_signs]
  cases ha : signs a with
  | none => simp [signsAll, ha]
  | some la =>
    cases hb : signs b with
    | none => simp [signsAll, ha, hb]
    | some lb =>
      simp only [signsAll, ha, hb, Option.map_some]
      show (match costs [c] with | none => _ | some cs => _) = _
      rw [costs_cons]
      unfold last
      cases hc : Num.read c with
      | none => simp
      | some d => simp [costs, tREP, told]
set_option maxRecDepth 100000 in
theorem run_key (f : List (List Int)) (h : (f.drop 1).length = 1 + 1) : run 1 (f.drop 1) tKEY = key f := by
  obtain ⟨x, a, c, rfl⟩ : ∃ x a c, f = [x, a, c] := by
    match f, h with
    | [x, a, c], _ => exact ⟨x, a, c, rfl⟩
  unfold run key
  show (match signsAll [a] with | none => _ | some ls => _) = _
  show _ = match signs a with | some a => last c fun c => told (keysOk 0 a) (keysG c 0 0 a) | none => Sp.no 10
  cases ha : signs a with
  | none => simp [signsAll, ha]
  | some la =>
    simp only [signsAll, ha, Option.map_some]
    show (match costs [c] with | none => _ | some cs => _) = _
    rw [costs_cons]
    unfold last
    cases hc : Num.read c with
    | none => simp
    | some d => exact told_any (keysOk 0 la) (keysG (d : Int) 0 0 la)
set_option maxRecDepth 100000 in
theorem run_map (f : List (List Int)) (h : (f.drop 1).length = 1 + 1) : run 1 (f.drop 1) tMAP = map f := by
  obtain ⟨x, a, c, rfl⟩ : ∃ x a c, f = [x, a, c] := by
    match f, h with
    | [x, a, c], _ => exact ⟨x, a, c, rfl⟩
  unfold run map
  show (match signsAll [a] with | none => _ | some ls => _) = _
  show _ = match signs a with | some a => last c fun c => told (mapsOk a) (mapsG c a) | none => Sp.no 10
  cases ha : signs a with
  | none => simp [signsAll, ha]
  | some la =>
    simp only [signsAll, ha, Option.map_some]
    show (match costs [c] with | none => _ | some cs => _) = _
    rw [costs_cons]
    unfold last
    cases hc : Num.read c with
    | none => simp
    | some d =>
      simp only [maps_row]
      exact told_any (rowOk la) (mapsG (d : Int) la)
end Spec

def Formed (x : Wd) : Prop := (x.a = none ∧ x.cap = 0) ∨ ∃ b off, x.a = some ⟨b, off, none⟩
/-- a kind's function tells so -/
structure KindOk (S K : Nat) (fn : FuncId) (tell : List (List Int) → List Int → List Int × List Rul × Bool) : Prop where
  call : ∀ (args : Array Value) (w : World), (callFunc fn args).run Try.prog w = .ok (.enter fn args) w
  small : S ≤ 2 ∧ K ≤ 4
  is : ∀ (sa : Option Addr) (sc : Nat) (xs : List Wd) (ca : Option Addr) (cc : Nat) (cs : List Int) (w : World), Ws w sa S sc xs → Sl .u64 w ca K cc cs → (ca = none → cc = 0) → (∀ x ∈ xs, Formed x) → (∀ x ∈ xs, x.zs.length ≤ 5000) →
    Calls Try.prog fn #[.slice sa S sc, .slice ca K cc] w fun e w' => TellIs w w' e (tell (nums xs) cs).1 (tell (nums xs) cs).2.1 (tell (nums xs) cs).2.2 (fun k => ∀ z ∈ xs, Slf (some k) z.a z.n)
set_option maxRecDepth 100000 in
theorem kindOk_base : KindOk 0 4 51 Spec.tBASE where
  call := by intro args w; go_simp
  small := ⟨by omega, by omega⟩
  is := fun sa sc xs ca cc cs w _ hc hn _ _ => (tellBase_is sa 0 sc ca 4 cc cs w hc hn).mono fun _ _ h => h.weak fun _ _ => trivial
set_option maxRecDepth 100000 in
theorem kindOk_rep : KindOk 2 1 52 Spec.tREP where
  call := by intro args w; go_simp
  small := ⟨by omega, by omega⟩
  is := fun sa sc xs ca cc cs w hs hc _ _ _ => tellReplaced_is sa sc xs ca 1 cc cs _ w hs hc (by omega) rfl
set_option maxRecDepth 100000 in
theorem short0 {xs : List Wd} (h : ∀ x ∈ xs, x.zs.length ≤ 5000) : ((nums xs).getD 0 []).length ≤ 5000 := by
  cases xs with
  | nil => simp [nums]
  | cons x xs => simpa [nums] using h x (by simp)
set_option maxRecDepth 100000 in
theorem kindOk_key : KindOk 1 1 53 Spec.tKEY where
  call := by intro args w; go_simp
  small := ⟨by omega, by omega⟩
  is := fun sa sc xs ca cc cs w hs hc _ hf hl => (tellNeighbours_is sa sc xs ca 1 cc cs _ _ _ _ w hs hc (by omega) hf (short0 hl) rfl rfl rfl rfl).mono fun _ _ h => h.weak fun _ _ => trivial
set_option maxRecDepth 100000 in
theorem kindOk_map : KindOk 1 1 54 Spec.tMAP where
  call := by intro args w; go_simp
  small := ⟨by omega, by omega⟩
  is := fun sa sc xs ca cc cs w hs hc _ _ _ => (tellClass_is sa sc xs ca 1 cc cs _ _ _ _ w hs hc (by omega) rfl rfl rfl rfl).mono fun _ _ h => h.weak fun _ _ => trivial

set_option maxRecDepth 100000 in
theorem kind_cases (f : List (List Int)) : (kindOf (f.getD 0 []) = (kNone, false) ∧ Spec.byWord f = Spec.Sp.no 70) ∨
    ∃ S K fn tell, kindOf (f.getD 0 []) = (kindV (S : Nat) (K : Nat) fn, true) ∧ KindOk S K fn tell ∧ (0 < f.length → Spec.byWord f = if (f.drop 1).length = S + K then Spec.run S (f.drop 1) tell else Spec.Sp.no 71) := by
  have hd : ∀ n, 0 < f.length → (f.length = n + 1 ↔ (f.drop 1).length = n) := fun n h => by rw [List.length_drop]; omega
  unfold kindOf Spec.byWord
  by_cases h1 : f.getD 0 [] = Spec.wBASE
  · refine .inr ⟨0, 4, _, _, by rw [if_pos h1]; rfl, kindOk_base, fun h0 => ?_⟩
    rw [if_pos h1]
    by_cases hl : f.length = 5
    · rw [if_pos hl, if_pos ((hd 4 h0).1 hl), Spec.run_base f ((hd 4 h0).1 hl)]
    · rw [if_neg hl, if_neg (fun e => hl ((hd 4 h0).2 e))]
  rw [if_neg h1, if_neg h1]
  by_cases h2 : f.getD 0 [] = Spec.wREP
  · refine .inr ⟨2, 1, _, _, by rw [if_pos h2]; rfl, kindOk_rep, fun h0 => ?_⟩
    rw [if_pos h2]
    by_cases hl : f.length = 4
    · rw [if_pos hl, if_pos ((hd 3 h0).1 hl), Spec.run_rep f ((hd 3 h0).1 hl)]
    · rw [if_neg hl, if_neg (fun e => hl ((hd 3 h0).2 e))]
  rw [if_neg h2, if_neg h2]
  by_cases h3 : f.getD 0 [] = Spec.wKEY
  · refine .inr ⟨1, 1, _, _, by rw [if_pos h3]; rfl, kindOk_key, fun h0 => ?_⟩
    rw [if_pos h3]
    by_cases hl : f.length = 3
    · rw [if_pos hl, if_pos ((hd 2 h0).1 hl), Spec.run_key f ((hd 2 h0).1 hl)]
    · rw [if_neg hl, if_neg (fun e => hl ((hd 2 h0).2 e))]
  rw [if_neg h3, if_neg h3]
  by_cases h4 : f.getD 0 [] = Spec.wMAP
  · refine .inr ⟨1, 1, _, _, by rw [if_pos h4]; rfl, kindOk_map, fun h0 => ?_⟩
    rw [if_pos h4]
    by_cases hl : f.length = 3
    · rw [if_pos hl, if_pos ((hd 2 h0).1 hl), Spec.run_map f ((hd 2 h0).1 hl)]
    · rw [if_neg hl, if_neg (fun e => hl ((hd 2 h0).2 e))]
  rw [if_neg h4, if_neg h4]
  exact .inl ⟨rfl, rfl⟩

end Go.Proofs.Ytdondndalpmdgaa
