import Derived.Maps.OwnSet
import Derived.Maps.Keyed
import Derived.StringKeys
import Derived.Test.YtjmabjeaodojeaaGreatPackA
import Derived.Test.YtjmabjeaodojeaaGreatGenStr
import Derived.Test.YtjmabjeaodojeaaGreatPackB
import Derived.Test.YtjmabjeaodojeaaGreatPackV
/- Used by the law. -/
namespace Go.Proofs.YtjmabjeaodojeaaGreat
open Go.RowKit Go.Maps

def kindV (s c : Int) (f : FuncId) : Value := .agg #[.int .i64 s, .int .i64 c, .func (.func f) #[] #[]]
def kBASE : Value := kindV 0 4 61
def kREP : Value := kindV 2 1 62
def kKEY : Value := kindV 1 1 63
def kMAP : Value := kindV 1 1 64
def kNone : Value := .agg #[.int .i64 0, .int .i64 0, .nilFunc]
open Classical in
noncomputable def kindElem (v : Value) : Option (DataW Unit × List MemPlace) :=
  if v = kBASE then some (.lit (.int .i64 1), []) else if v = kREP then some (.lit (.int .i64 2), []) else if v = kKEY then some (.lit (.int .i64 3), []) else if v = kMAP then some (.lit (.int .i64 4), [])
  else if v = kNone then some (.lit (.int .i64 0), []) else none
theorem ne_func {s c : Int} {f g : FuncId} {s' c' : Int} (h : f ≠ g) : kindV s c f ≠ kindV s' c' g := by
  intro e
  simp only [kindV, Value.agg.injEq, Array.mk.injEq, List.cons.injEq, Value.func.injEq, Fn.func.injEq] at e
  exact h e.2.2.1.1
theorem ne_none {s c : Int} {f : FuncId} : kNone ≠ kindV s c f := by
  intro e
  simp [kindV, kNone] at e
set_option maxRecDepth 100000 in
theorem kREP_kBASE : kREP ≠ kBASE := ne_func (by decide)
set_option maxRecDepth 100000 in
theorem kKEY_kBASE : kKEY ≠ kBASE := ne_func (by decide)
set_option maxRecDepth 100000 in
theorem kKEY_kREP : kKEY ≠ kREP := ne_func (by decide)
set_option maxRecDepth 100000 in
theorem kMAP_kBASE : kMAP ≠ kBASE := ne_func (by decide)
set_option maxRecDepth 100000 in
theorem kMAP_kREP : kMAP ≠ kREP := ne_func (by decide)
set_option maxRecDepth 100000 in
theorem kMAP_kKEY : kMAP ≠ kKEY := ne_func (by decide)
theorem kNone_kBASE : kNone ≠ kBASE := ne_none
theorem kNone_kREP : kNone ≠ kREP := ne_none
theorem kNone_kKEY : kNone ≠ kKEY := ne_none
theorem kNone_kMAP : kNone ≠ kMAP := ne_none
theorem kindElem_BASE : kindElem kBASE = some (.lit (.int .i64 1), []) := by unfold kindElem; rw [if_pos rfl]
theorem kindElem_REP : kindElem kREP = some (.lit (.int .i64 2), []) := by unfold kindElem; rw [if_neg kREP_kBASE, if_pos rfl]
theorem kindElem_KEY : kindElem kKEY = some (.lit (.int .i64 3), []) := by unfold kindElem; rw [if_neg kKEY_kBASE, if_neg kKEY_kREP, if_pos rfl]
theorem kindElem_MAP : kindElem kMAP = some (.lit (.int .i64 4), []) := by unfold kindElem; rw [if_neg kMAP_kBASE, if_neg kMAP_kREP, if_neg kMAP_kKEY, if_pos rfl]
theorem kindElem_None : kindElem kNone = some (.lit (.int .i64 0), []) := by unfold kindElem; rw [if_neg kNone_kBASE, if_neg kNone_kREP, if_neg kNone_kKEY, if_neg kNone_kMAP, if_pos rfl]
theorem kindElem_inv {v : Value} {n : Int} {ps : List MemPlace} (h : kindElem v = some (.lit (.int .i64 n), ps)) : (n = 1 ∧ v = kBASE) ∨ (n = 2 ∧ v = kREP) ∨ (n = 3 ∧ v = kKEY) ∨ (n = 4 ∧ v = kMAP) ∨ (n = 0 ∧ v = kNone) := by
  unfold kindElem at h
  split at h
  · rename_i hv; simp at h; exact .inl ⟨h.1.symm, hv⟩
  split at h
  · rename_i hv; simp at h; exact .inr (.inl ⟨h.1.symm, hv⟩)
  split at h
  · rename_i hv; simp at h; exact .inr (.inr (.inl ⟨h.1.symm, hv⟩))
  split at h
  · rename_i hv; simp at h; exact .inr (.inr (.inr (.inl ⟨h.1.symm, hv⟩)))
  split at h
  · rename_i hv; simp at h; exact .inr (.inr (.inr (.inr ⟨h.1.symm, hv⟩)))
  · cases h

def keyL (l : List UInt8) : Lit := .string l
def kindsD : DataW Unit := .map [(keyL [66, 65, 83, 69], .lit (.int .i64 1)), (keyL [75, 69, 89], .lit (.int .i64 3)), (keyL [77, 65, 80], .lit (.int .i64 4)), (keyL [82, 69, 80], .lit (.int .i64 2))]

theorem wpList_insert_own {P : Program} (w : World) {ops : Array Oper} {rest : List Oper} {o : Oper} {a : Act} {Q : Exit → Act → World → Prop}
    (hg : o.guard = none) (m x v : Operand) (t : TypeId) (hop : o.op = Op.insert t m x v)
    (k e : TypeId) (K : Keyed P k) (ht : P.underlying t = some (.map k e)) (R : Value → Option (DataW Unit × List MemPlace)) (b n : Nat) (D : DataW Unit)
    (hm : a.eval m = .map (some b)) (hown : w.ownsMap P k R b n D) (hn : n < maxLen) (key val : Value) (kl : Lit) (hx : a.eval x = key) (hv : a.eval v = val) (hkey : keyOf P k key = some kl)
    (d : DataW Unit) (ps : List MemPlace) (hval : R val = some (d, ps))
    (hK : ∀ w', w'.ownsMap P k R b (n + 1) (D.put kl d) → w.grownBy w' (some b) → wpList P ops Q rest (a.put o.dst undef) w') :
    wpList P ops Q (o :: rest) a w := by
  refine wpList_plain hg fun K' hK' => ?_
  obtain ⟨w', hrun, r1, r2⟩ := hown.update K ht hn hkey hval
  unfold Oper.wp
  simp [execOp, hop, hm, hx, hv, hrun, Result.andThen]
  exact hK' _ _ (hK w' r1 r2)

set_option maxRecDepth 100000 in
theorem keyed_str : Keyed Tryz.prog 9 := string_keyed Tryz.underlying9
set_option maxRecDepth 100000 in
theorem key_str (l : List UInt8) (hl : l.length ≤ maxLen) : keyOf Tryz.prog 9 (.string ⟨l.toArray⟩) = some (keyL l) := by
  rw [WideMaps.keyOf_string_mk Tryz.underlying9 (by simpa [ByteArray.size] using hl)]
  rfl
set_option maxRecDepth 100000 in
theorem puts : ((((DataW.map ([] : List (Lit × DataW Unit))).put (keyL [66, 65, 83, 69]) (.lit (.int .i64 1))).put (keyL [82, 69, 80]) (.lit (.int .i64 2))).put (keyL [75, 69, 89]) (.lit (.int .i64 3))).put (keyL [77, 65, 80]) (.lit (.int .i64 4)) = kindsD := by rfl

set_option maxHeartbeats 1600000 in
set_option maxRecDepth 100000 in
theorem kinds_is (w : World) :
    Calls Tryz.prog 35 #[] w fun e w' => ∃ b, e = .returned (.map (some b)) ∧ w'.ownsMap Tryz.prog 9 kindElem b 4 kindsD ∧ w.heap.size ≤ b ∧ w.grownBy w' none := by
  have hmm := @run_makeMap Tryz.prog
  have H0 : Hid ((w.alloc (.map #[] 0)).ownsMap Tryz.prog 9 kindElem w.heap.size 0 (.map [])) := World.ownsMap_made _ _ _ _
  have HG0 : Hid (w.grownBy (w.alloc (.map #[] 0)) none) := World.grownBy_alloc _ _ _
  have step : ∀ {W W' : World}, w.grownBy W none → W.grownBy W' (some w.heap.size) → w.grownBy W' none := fun h1 h2 => ⟨h2.os.trans h1.os, h2.tape.trans h1.tape, h2.output.trans h1.output, Nat.le_trans h1.size h2.size, fun k hk _ => (h2.block k (Nat.lt_of_lt_of_le hk h1.size) (fun e => by have := Option.some.inj e; omega)).trans (h1.block k hk (by simp))⟩
  go_enter Tryz.func35, Tryz.ntmps35
  go_wp2_with (first
    | (refine wpList_insert_own _ (by rfl) (.tmp 1) _ (.tmp 2) 68 (by rfl) 9 66 keyed_str Tryz.underlying68 kindElem w.heap.size 0 (.map []) (by rfl) H0.out (by unfold maxLen; omega) (.string ⟨#[66, 65, 83, 69]⟩) kBASE (keyL [66, 65, 83, 69]) (by rfl) (by rfl) (key_str _ (by simp [maxLen])) _ _ kindElem_BASE ?_
       intro w1 ho1 hg1
       have H1 := Lib.hid ho1
       have HG1 := Lib.hid (step HG0.out hg1)
       clear ho1 hg1)
    | (refine wpList_insert_own _ (by rfl) (.tmp 1) _ (.tmp 3) 68 (by rfl) 9 66 keyed_str Tryz.underlying68 kindElem w.heap.size 1 _ (by rfl) H1.out (by unfold maxLen; omega) (.string ⟨#[82, 69, 80]⟩) kREP (keyL [82, 69, 80]) (by rfl) (by rfl) (key_str _ (by simp [maxLen])) _ _ kindElem_REP ?_
       intro w2 ho2 hg2
       have H2 := Lib.hid ho2
       have HG2 := Lib.hid (step HG1.out hg2)
       clear ho2 hg2)
    | (refine wpList_insert_own _ (by rfl) (.tmp 1) _ (.tmp 4) 68 (by rfl) 9 66 keyed_str Tryz.underlying68 kindElem w.heap.size 2 _ (by rfl) H2.out (by unfold maxLen; omega) (.string ⟨#[75, 69, 89]⟩) kKEY (keyL [75, 69, 89]) (by rfl) (by rfl) (key_str _ (by simp [maxLen])) _ _ kindElem_KEY ?_
       intro w3 ho3 hg3
       have H3 := Lib.hid ho3
       have HG3 := Lib.hid (step HG2.out hg3)
       clear ho3 hg3)
    | (refine wpList_insert_own _ (by rfl) (.tmp 1) _ (.tmp 5) 68 (by rfl) 9 66 keyed_str Tryz.underlying68 kindElem w.heap.size 3 _ (by rfl) H3.out (by unfold maxLen; omega) (.string ⟨#[77, 65, 80]⟩) kMAP (keyL [77, 65, 80]) (by rfl) (by rfl) (key_str _ (by simp [maxLen])) _ _ kindElem_MAP ?_
       intro w4 ho4 hg4
       have H4 := Lib.hid ho4
       have HG4 := Lib.hid (step HG3.out hg4)
       clear ho4 hg4))
  go_ret
  exact ⟨w.heap.size, rfl, by have := H4.out; rw [puts] at this; exact this, Nat.le_refl _, HG4.out⟩

noncomputable def kindOf (f : List Int) : Value × Bool :=
  if f = Spec.wBASE then (kBASE, true) else if f = Spec.wREP then (kREP, true) else if f = Spec.wKEY then (kKEY, true) else if f = Spec.wMAP then (kMAP, true) else (kNone, false)
set_option maxRecDepth 100000 in
theorem zero_kind (w : World) : (zeroValue 66).run Tryz.prog w = .ok kNone w := by
  go_simp
  rfl
theorem str_data {f g : List Int} (hf : ∀ z ∈ f, (Lit.int .u8 z).wf = true) (hg : ∀ z ∈ g, (Lit.int .u8 z).wf = true) (h : f ≠ g) : (strOfNums f).data.toList ≠ (strOfNums g).data.toList := by
  intro e
  exact h (bytes_ne hf hg (by
    rw [← Lib.mk_data (strOfNums f), ← Lib.mk_data (strOfNums g), e]))
set_option maxRecDepth 100000 in
theorem kinds_look {w : World} {b : Nat} (h : w.ownsMap Tryz.prog 9 kindElem b 4 kindsD) (f : List Int) (hf : ∀ z ∈ f, (Lit.int .u8 z).wf = true) (hl : f.length ≤ 1000000) :
    (Instr.lookup 68 (.map (some b)) (.string (strOfNums f)) true).run Tryz.prog w = .ok (.tuple #[(kindOf f).1, .bool (kindOf f).2]) w := by
  have hkey : keyOf Tryz.prog 9 (.string (strOfNums f)) = some (keyL (strOfNums f).data.toList) := WideMaps.keyOf_string_mk Tryz.underlying9 (by simp [strOfNums, ByteArray.size, maxLen]; omega)
  obtain ⟨v, ps, hrun, hv⟩ := h.look_ok keyed_str Tryz.underlying68 (zero_kind w) kindElem_None hkey
  rw [hrun]
  have fin : ∀ (n : Int) (ok : Bool), has kindsD (keyL (strOfNums f).data.toList) = ok → kindsD.atKey (keyL (strOfNums f).data.toList) (.lit (.int .i64 0)) = .lit (.int .i64 n) → ((n = 1 ∧ v = kBASE) ∨ (n = 2 ∧ v = kREP) ∨ (n = 3 ∧ v = kKEY) ∨ (n = 4 ∧ v = kMAP) ∨ (n = 0 ∧ v = kNone)) ∧ has kindsD (keyL (strOfNums f).data.toList) = ok := fun n ok h1 h2 => ⟨by rw [h2] at hv; exact kindElem_inv hv, h1⟩
  unfold kindOf
  by_cases h1 : f = Spec.wBASE
  · subst h1
    obtain ⟨hv, ho⟩ := fin 1 true (by rfl) (by rfl)
    rw [ho, if_pos rfl]
    rcases hv with h | h | h | h | h <;> first | (exact absurd h.1 (by decide)) | (rw [h.2])
  rw [if_neg h1]
  by_cases h2 : f = Spec.wREP
  · subst h2
    obtain ⟨hv, ho⟩ := fin 2 true (by rfl) (by rfl)
    rw [ho, if_pos rfl]
    rcases hv with h | h | h | h | h <;> first | (exact absurd h.1 (by decide)) | (rw [h.2])
  rw [if_neg h2]
  by_cases h3 : f = Spec.wKEY
  · subst h3
    obtain ⟨hv, ho⟩ := fin 3 true (by rfl) (by rfl)
    rw [ho, if_pos rfl]
    rcases hv with h | h | h | h | h <;> first | (exact absurd h.1 (by decide)) | (rw [h.2])
  rw [if_neg h3]
  by_cases h4 : f = Spec.wMAP
  · subst h4
    obtain ⟨hv, ho⟩ := fin 4 true (by rfl) (by rfl)
    rw [ho, if_pos rfl]
    rcases hv with h | h | h | h | h <;> first | (exact absurd h.1 (by decide)) | (rw [h.2])
  rw [if_neg h4]
  have n1 := str_data hf (g := Spec.wBASE) (by decide) h1
  have n2 := str_data hf (g := Spec.wREP) (by decide) h2
  have n3 := str_data hf (g := Spec.wKEY) (by decide) h3
  have n4 := str_data hf (g := Spec.wMAP) (by decide) h4
  change _ ≠ ([66, 65, 83, 69] : List UInt8) at n1
  change _ ≠ ([82, 69, 80] : List UInt8) at n2
  change _ ≠ ([75, 69, 89] : List UInt8) at n3
  change _ ≠ ([77, 65, 80] : List UInt8) at n4
  generalize (strOfNums f).data.toList = L at *
  have e1 : ([66, 65, 83, 69] == L) = false := by simpa using fun e => n1 e.symm
  have e2 : ([82, 69, 80] == L) = false := by simpa using fun e => n2 e.symm
  have e3 : ([75, 69, 89] == L) = false := by simpa using fun e => n3 e.symm
  have e4 : ([77, 65, 80] == L) = false := by simpa using fun e => n4 e.symm
  obtain ⟨hv, ho⟩ := fin 0 false (by simp [has, kindsD, keyL, Lit.sameKey, e1, e2, e3, e4]) (by simp [DataW.atKey, kindsD, keyL, Lit.sameKey, e1, e2, e3, e4])
  rw [ho]
  rcases hv with h | h | h | h | h <;> first | (exact absurd h.1 (by decide)) | (rw [h.2])

end Go.Proofs.YtjmabjeaodojeaaGreat

/- Used by the law. -/
namespace Go.Proofs.YtjmabjeaodojeaaGreat
open Go.RowKit
namespace Spec

noncomputable def signsAll : List (List Int) → Option (List (List Int))
  | [] => some []
  | f :: fs => match signs f with
    | none => none
    | some l => (signsAll fs).map (l :: ·)
theorem costs_cons {f : List Int} {fs : List (List Int)} : costs (f :: fs) = match Num.read f with
    | none => none
    | some c => (costs fs).map ((c : Int) :: ·) := by
  rw [costs]
  cases Num.read f with
  | none => rfl
  | some c => cases costs fs <;> rfl
noncomputable def run (S : Nat) (fs : List (List Int)) (tell : List (List Int) → List Int → List Int × List Rul × Bool) : Sp :=
  match signsAll (fs.take S) with
  | none => Sp.no 10
  | some ls => match costs (fs.drop S) with
    | none => Sp.no 50
    | some cs => if (tell ls cs).2.2 = true ∧ (tell ls cs).2.1.all fit = true then ⟨0, (tell ls cs).1, (tell ls cs).2.1⟩ else Sp.no 60

set_option maxRecDepth 100000 in
theorem fside_signs (f : List Int) : side f = (signs f).map fside := by
  unfold side
  by_cases h : f = [95]
  · subst h
    have h95 : signs [95] = some [95] := by
      have := signs_put (l := [95]) (by decide)
      exact this
    rw [if_pos rfl, h95]; rfl
  · rw [if_neg h]
    cases hs : signs f with
    | none => rfl
    | some l =>
      have hp := (signs_some hs).2
      have hl : l ≠ [95] := fun e => h (by rw [← hp, e]; decide)
      simp [fside, hl]
theorem told_any (ok : Bool) (rs : List Rul) : (if ok = true ∧ (if ok = true then rs else []).all fit = true then (⟨0, [], if ok = true then rs else []⟩ : Sp) else Sp.no 60) = told ok rs := by
  unfold told
  cases ok <;> simp
def tBASE (_ : List (List Int)) (cs : List Int) : List Int × List Rul × Bool := (cs, [], true)
def tREP (ls : List (List Int)) (cs : List Int) : List Int × List Rul × Bool := ([], [⟨fside (ls.getD 0 []), fside (ls.getD 1 []), cs.getD 0 0⟩], true)
def tKEY (ls : List (List Int)) (cs : List Int) : List Int × List Rul × Bool := ([], if keysOk 0 (ls.getD 0 []) = true then keysG (cs.getD 0 0) 0 0 (ls.getD 0 []) else [], keysOk 0 (ls.getD 0 []))
def tMAP (ls : List (List Int)) (cs : List Int) : List Int × List Rul × Bool := ([], if rowOk (ls.getD 0 []) = true then mapsG (cs.getD 0 0) (ls.getD 0 []) else [], rowOk (ls.getD 0 []))
theorem run_base (f : List (List Int)) (_h : (f.drop 1).length = 0 + 4) : run 0 (f.drop 1) tBASE = base f := by
  unfold run base
  simp only [List.take_zero, signsAll, List.drop_zero]
  cases costs (f.drop 1) with
  | none => rfl
  | some cs => simp [tBASE]
theorem run_rep (f : List (List Int)) (h : (f.drop 1).length = 2 + 1) : run 2 (f.drop 1) tREP = rep f := by
  obtain ⟨x, a, b, c, rfl⟩ : ∃ x a b c, f = [x, a, b, c] := by
    match f, h with
    | [x, a, b, c], _ => exact ⟨x, a, b, c, rfl⟩
  unfold run rep
  show (match signsAll [a, b] with | none => _ | some ls => _) = _
  show _ = match side a, side b with | some a, some b => last c fun c => told true [⟨a, b, c⟩] | _, _ => Sp.no 10
  rw [fside_signs, fside_signs]
  cases ha : signs a with
  | none => simp [signsAll, ha]
  | some la =>
    cases hb : signs b with
    | none => simp [signsAll, ha, hb]
    | some lb =>
      simp only [signsAll, ha, hb, Option.map_some]
      show (match costs [c] with | none => _ | some cs => _) = _
      rw [costs_cons]
      unfold last
      cases hc : Num.read c with
      | none => simp
      | some d => simp [costs, tREP, told]
theorem run_key (f : List (List Int)) (h : (f.drop 1).length = 1 + 1) : run 1 (f.drop 1) tKEY = key f := by
  obtain ⟨x, a, c, rfl⟩ : ∃ x a c, f = [x, a, c] := by
    match f, h with
    | [x, a, c], _ => exact ⟨x, a, c, rfl⟩
  unfold run key
  show (match signsAll [a] with | none => _ | some ls => _) = _
  show _ = match signs a with | some a => last c fun c => told (keysOk 0 a) (keysG c 0 0 a) | none => Sp.no 10
  cases ha : signs a with
  | none => simp [signsAll, ha]
  | some la =>
    simp only [signsAll, ha, Option.map_some]
    show (match costs [c] with | none => _ | some cs => _) = _
    rw [costs_cons]
    unfold last
    cases hc : Num.read c with
    | none => simp
    | some d => exact told_any (keysOk 0 la) (keysG (d : Int) 0 0 la)
theorem run_map (f : List (List Int)) (h : (f.drop 1).length = 1 + 1) : run 1 (f.drop 1) tMAP = map f := by
  obtain ⟨x, a, c, rfl⟩ : ∃ x a c, f = [x, a, c] := by
    match f, h with
    | [x, a, c], _ => exact ⟨x, a, c, rfl⟩
  unfold run map
  show (match signsAll [a] with | none => _ | some ls => _) = _
  show _ = match signs a with | some a => last c fun c => told (mapsOk a) (mapsG c a) | none => Sp.no 10
  cases ha : signs a with
  | none => simp [signsAll, ha]
  | some la =>
    simp only [signsAll, ha, Option.map_some]
    show (match costs [c] with | none => _ | some cs => _) = _
    rw [costs_cons]
    unfold last
    cases hc : Num.read c with
    | none => simp
    | some d =>
      simp only [maps_row]
      exact told_any (rowOk la) (mapsG (d : Int) la)
end Spec

def Formed (x : Wd) : Prop := (x.a = none ∧ x.cap = 0) ∨ ∃ b off, x.a = some ⟨b, off, none⟩
structure KindOk (S K : Nat) (fn : FuncId) (tell : List (List Int) → List Int → List Int × List Rul × Bool) : Prop where
  call : ∀ (args : Array Value) (w : World), (callFunc fn args).run Tryz.prog w = .ok (.enter fn args) w
  small : S ≤ 2 ∧ K ≤ 4
  is : ∀ (sa : Option Addr) (sc : Nat) (xs : List Wd) (ca : Option Addr) (cc : Nat) (cs : List Int) (w : World), Ws w sa S sc xs → Sl .u64 w ca K cc cs → (ca = none → cc = 0) → (∀ x ∈ xs, Formed x) → (∀ x ∈ xs, x.zs.length ≤ 5000) →
    Calls Tryz.prog fn #[.slice sa S sc, .slice ca K cc] w fun e w' => TellIs w w' e (tell (nums xs) cs).1 (tell (nums xs) cs).2.1 (tell (nums xs) cs).2.2 (fun k => ∀ z ∈ xs, Slf (some k) z.a z.n)
set_option maxRecDepth 100000 in
theorem kindOk_base : KindOk 0 4 61 Spec.tBASE where
  call := by intro args w; go_simp
  small := ⟨by omega, by omega⟩
  is := fun sa sc xs ca cc cs w _ hc hn _ _ => (tellBase_is sa 0 sc ca 4 cc cs w hc hn).mono fun _ _ h => h.weak fun _ _ => trivial
set_option maxRecDepth 100000 in
theorem kindOk_rep : KindOk 2 1 62 Spec.tREP where
  call := by intro args w; go_simp
  small := ⟨by omega, by omega⟩
  is := fun sa sc xs ca cc cs w hs hc _ _ _ => tellReplaced_is sa sc xs ca 1 cc cs _ w hs hc (by omega) rfl
theorem short0 {xs : List Wd} (h : ∀ x ∈ xs, x.zs.length ≤ 5000) : ((nums xs).getD 0 []).length ≤ 5000 := by
  cases xs with
  | nil => simp [nums]
  | cons x xs => simpa [nums] using h x (by simp)
set_option maxRecDepth 100000 in
theorem kindOk_key : KindOk 1 1 63 Spec.tKEY where
  call := by intro args w; go_simp
  small := ⟨by omega, by omega⟩
  is := fun sa sc xs ca cc cs w hs hc _ hf hl => (tellNeighbours_is sa sc xs ca 1 cc cs _ _ _ _ w hs hc (by omega) hf (short0 hl) rfl rfl rfl rfl).mono fun _ _ h => h.weak fun _ _ => trivial
set_option maxRecDepth 100000 in
theorem kindOk_map : KindOk 1 1 64 Spec.tMAP where
  call := by intro args w; go_simp
  small := ⟨by omega, by omega⟩
  is := fun sa sc xs ca cc cs w hs hc _ _ _ => (tellClass_is sa sc xs ca 1 cc cs _ _ _ _ w hs hc (by omega) rfl rfl rfl rfl).mono fun _ _ h => h.weak fun _ _ => trivial

theorem kind_cases (f : List (List Int)) : (kindOf (f.getD 0 []) = (kNone, false) ∧ Spec.byWord f = Spec.Sp.no 70) ∨
    ∃ S K fn tell, kindOf (f.getD 0 []) = (kindV (S : Nat) (K : Nat) fn, true) ∧ KindOk S K fn tell ∧ (0 < f.length → Spec.byWord f = if (f.drop 1).length = S + K then Spec.run S (f.drop 1) tell else Spec.Sp.no 71) := by
  have hd : ∀ n, 0 < f.length → (f.length = n + 1 ↔ (f.drop 1).length = n) := fun n h => by rw [List.length_drop]; omega
  unfold kindOf Spec.byWord
  by_cases h1 : f.getD 0 [] = Spec.wBASE
  · refine .inr ⟨0, 4, _, _, by rw [if_pos h1]; rfl, kindOk_base, fun h0 => ?_⟩
    rw [if_pos h1]
    by_cases hl : f.length = 5
    · rw [if_pos hl, if_pos ((hd 4 h0).1 hl), Spec.run_base f ((hd 4 h0).1 hl)]
    · rw [if_neg hl, if_neg (fun e => hl ((hd 4 h0).2 e))]
  rw [if_neg h1, if_neg h1]
  by_cases h2 : f.getD 0 [] = Spec.wREP
  · refine .inr ⟨2, 1, _, _, by rw [if_pos h2]; rfl, kindOk_rep, fun h0 => ?_⟩
    rw [if_pos h2]
    by_cases hl : f.length = 4
    · rw [if_pos hl, if_pos ((hd 3 h0).1 hl), Spec.run_rep f ((hd 3 h0).1 hl)]
    · rw [if_neg hl, if_neg (fun e => hl ((hd 3 h0).2 e))]
  rw [if_neg h2, if_neg h2]
  by_cases h3 : f.getD 0 [] = Spec.wKEY
  · refine .inr ⟨1, 1, _, _, by rw [if_pos h3]; rfl, kindOk_key, fun h0 => ?_⟩
    rw [if_pos h3]
    by_cases hl : f.length = 3
    · rw [if_pos hl, if_pos ((hd 2 h0).1 hl), Spec.run_key f ((hd 2 h0).1 hl)]
    · rw [if_neg hl, if_neg (fun e => hl ((hd 2 h0).2 e))]
  rw [if_neg h3, if_neg h3]
  by_cases h4 : f.getD 0 [] = Spec.wMAP
  · refine .inr ⟨1, 1, _, _, by rw [if_pos h4]; rfl, kindOk_map, fun h0 => ?_⟩
    rw [if_pos h4]
    by_cases hl : f.length = 3
    · rw [if_pos hl, if_pos ((hd 2 h0).1 hl), Spec.run_map f ((hd 2 h0).1 hl)]
    · rw [if_neg hl, if_neg (fun e => hl ((hd 2 h0).2 e))]
  rw [if_neg h4, if_neg h4]
  exact .inl ⟨rfl, rfl⟩

end Go.Proofs.YtjmabjeaodojeaaGreat
