/- The program's kinds of layer 7: a map of structs that hold functions. -/
import Derived.Maps.OwnSet
import Derived.Maps.Keyed
import Derived.StringKeys
import Derived.Test.YtdondndalpmdgaaPackA
import Derived.Test.YtdondndalpmdgaaGenStr
import Derived.Test.YtdondndalpmdgaaPackB
namespace Go.Proofs.Ytdondndalpmdgaa
open Go.RowKit Go.Maps

def kindV (s c : Int) (f : FuncId) : Value := .agg #[.int .i64 s, .int .i64 c, .func (.func f) #[] #[]]
def kBASE : Value := kindV 0 4 51
def kREP : Value := kindV 2 1 52
def kKEY : Value := kindV 1 1 53
def kMAP : Value := kindV 1 1 54
def kNone : Value := .agg #[.int .i64 0, .int .i64 0, .nilFunc]
open Classical in
/-- a kind, by a number -/
noncomputable def kindElem (v : Value) : Option (DataW Unit × List MemPlace) :=
  if v = kBASE then some (.lit (.int .i64 1), []) else if v = kREP then some (.lit (.int .i64 2), []) else if v = kKEY then some (.lit (.int .i64 3), []) else if v = kMAP then some (.lit (.int .i64 4), [])
  else if v = kNone then some (.lit (.int .i64 0), []) else none
set_option maxRecDepth 100000 in
theorem ne_func {s c : Int} {f g : FuncId} {s' c' : Int} (h : f ≠ g) : kindV s c f ≠ kindV s' c' g := by
  intro e
  simp only [kindV, Value.agg.injEq, Array.mk.injEq, List.cons.injEq, Value.func.injEq, Fn.func.injEq] at e
  exact h e.2.2.1.1
set_option maxRecDepth 100000 in
theorem ne_none {s c : Int} {f : FuncId} : kNone ≠ kindV s c f := by
  intro e
  simp [kindV, kNone] at e
set_option maxRecDepth 100000 in
theorem kREP_kBASE : kREP ≠ kBASE := ne_func (by decide)
set_option maxRecDepth 100000 in
theorem kKEY_kBASE : kKEY ≠ kBASE := ne_func (by decide)
set_option maxRecDepth 100000 in
theorem kKEY_kREP : kKEY ≠ kREP := ne_func (by decide)
set_option maxRecDepth 100000 in
theorem kMAP_kBASE : kMAP ≠ kBASE := ne_func (by decide)
set_option maxRecDepth 100000 in
theorem kMAP_kREP : kMAP ≠ kREP := ne_func (by decide)
set_option maxRecDepth 100000 in
theorem kMAP_kKEY : kMAP ≠ kKEY := ne_func (by decide)
set_option maxRecDepth 100000 in
theorem kNone_kBASE : kNone ≠ kBASE := ne_none
set_option maxRecDepth 100000 in
theorem kNone_kREP : kNone ≠ kREP := ne_none
set_option maxRecDepth 100000 in
theorem kNone_kKEY : kNone ≠ kKEY := ne_none
set_option maxRecDepth 100000 in
theorem kNone_kMAP : kNone ≠ kMAP := ne_none
set_option maxRecDepth 100000 in
theorem kindElem_BASE : kindElem kBASE = some (.lit (.int .i64 1), []) := by unfold kindElem; rw [if_pos rfl]
set_option maxRecDepth 100000 in
theorem kindElem_REP : kindElem kREP = some (.lit (.int .i64 2), []) := by unfold kindElem; rw [if_neg kREP_kBASE, if_pos rfl]
set_option maxRecDepth 100000 in
theorem kindElem_KEY : kindElem kKEY = some (.lit (.int .i64 3), []) := by unfold kindElem; rw [if_neg kKEY_kBASE, if_neg kKEY_kREP, if_pos rfl]
set_option maxRecDepth 100000 in
theorem kindElem_MAP : kindElem kMAP = some (.lit (.int .i64 4), []) := by unfold kindElem; rw [if_neg kMAP_kBASE, if_neg kMAP_kREP, if_neg kMAP_kKEY, if_pos rfl]
set_option maxRecDepth 100000 in
theorem kindElem_None : kindElem kNone = some (.lit (.int .i64 0), []) := by unfold kindElem; rw [if_neg kNone_kBASE, if_neg kNone_kREP, if_neg kNone_kKEY, if_neg kNone_kMAP, if_pos rfl]
set_option maxRecDepth 100000 in
theorem kindElem_inv {v : Value} {n : Int} {ps : List MemPlace} (h : kindElem v = some (.lit (.int .i64 n), ps)) : (n = 1 ∧ v = kBASE) ∨ (n = 2 ∧ v = kREP) ∨ (n = 3 ∧ v = kKEY) ∨ (n = 4 ∧ v = kMAP) ∨ (n = 0 ∧ v = kNone) := by
  unfold kindElem at h
  split at h
  · rename_i hv; simp at h; exact .inl ⟨h.1.symm, hv⟩
  split at h
  · rename_i hv; simp at h; exact .inr (.inl ⟨h.1.symm, hv⟩)
  split at h
  · rename_i hv; simp at h; exact .inr (.inr (.inl ⟨h.1.symm, hv⟩))
  split at h
  · rename_i hv; simp at h; exact .inr (.inr (.inr (.inl ⟨h.1.symm, hv⟩)))
  split at h
  · rename_i hv; simp at h; exact .inr (.inr (.inr (.inr ⟨h.1.symm, hv⟩)))
  · cases h

def keyL (l : List UInt8) : Lit := .string l
/-- all kinds -/
def kindsD : DataW Unit := .map [(keyL [66, 65, 83, 69], .lit (.int .i64 1)), (keyL [75, 69, 89], .lit (.int .i64 3)), (keyL [77, 65, 80], .lit (.int .i64 4)), (keyL [82, 69, 80], .lit (.int .i64 2))]

set_option maxRecDepth 100000 in
theorem wpList_insert_own {P : Program} (w : World) {ops : Array Oper} {rest : List Oper} {o : Oper} {a : Act} {Q : Exit → Act → World → Prop}
    (hg : o.guard = none) (m x v : Operand) (t : TypeId) (hop : o.op = Op.insert t m x v)
    (k e : TypeId) (K : Keyed P k) (ht : P.underlying t = some (.map k e)) (R : Value → Option (DataW Unit × List MemPlace)) (b n : Nat) (D : DataW Unit)
    (hm : a.eval m = .map (some b)) (hown : w.ownsMap P k R b n D) (hn : n < maxLen) (key val : Value) (kl : Lit) (hx : a.eval x = key) (hv : a.eval v = val) (hkey : keyOf P k key = some kl)
    (d : DataW Unit) (ps : List MemPlace) (hval : R val = some (d, ps))
    (hK : ∀ w', w'.ownsMap P k R b (n + 1) (D.put kl d) → w.grownBy w' (some b) → wpList P ops Q rest (a.put o.dst undef) w') :
    wpList P ops Q (o :: rest) a w := by
  refine wpList_plain hg fun K' hK' => ?_
  obtain ⟨w', hrun, r1, r2⟩ := hown.update K ht hn hkey hval
  unfold Oper.wp
  simp [execOp, hop, hm, hx, hv, hrun, Result.andThen]
  exact hK' _ _ (hK w' r1 r2)

set_option maxRecDepth 100000 in
theorem keyed_str : Keyed Try.prog 9 := string_keyed Try.underlying9
set_option maxRecDepth 100000 in
theorem key_str (l : List UInt8) (hl : l.length ≤ maxLen) : keyOf Try.prog 9 (.string ⟨l.toArray⟩) = some (keyL l) := by
  rw [WideMaps.keyOf_string_mk Try.underlying9 (by simpa [ByteArray.size] using hl)]
  rfl
set_option maxRecDepth 100000 in
theorem puts : ((((DataW.map ([] : List (Lit × DataW Unit))).put (keyL [66, 65, 83, 69]) (.lit (.int .i64 1))).put (keyL [82, 69, 80]) (.lit (.int .i64 2))).put (keyL [75, 69, 89]) (.lit (.int .i64 3))).put (keyL [77, 65, 80]) (.lit (.int .i64 4)) = kindsD := by rfl

set_option maxHeartbeats 1600000 in
set_option maxRecDepth 100000 in
theorem kinds_is (w : World) :
    Calls Try.prog 30 #[] w fun e w' => ∃ b, e = .returned (.map (some b)) ∧ w'.ownsMap Try.prog 9 kindElem b 4 kindsD ∧ w.heap.size ≤ b ∧ w.grownBy w' none := by
  have hmm := @run_makeMap Try.prog
  have H0 : Hid ((w.alloc (.map #[] 0)).ownsMap Try.prog 9 kindElem w.heap.size 0 (.map [])) := World.ownsMap_made _ _ _ _
  have HG0 : Hid (w.grownBy (w.alloc (.map #[] 0)) none) := World.grownBy_alloc _ _ _
  have step : ∀ {W W' : World}, w.grownBy W none → W.grownBy W' (some w.heap.size) → w.grownBy W' none := fun h1 h2 => ⟨h2.os.trans h1.os, h2.tape.trans h1.tape, h2.output.trans h1.output, Nat.le_trans h1.size h2.size, fun k hk _ => (h2.block k (Nat.lt_of_lt_of_le hk h1.size) (fun e => by have := Option.some.inj e; omega)).trans (h1.block k hk (by simp))⟩
  go_enter Try.func30, Try.ntmps30
  go_wp2_with (first
    | (refine wpList_insert_own _ (by rfl) (.tmp 1) _ (.tmp 2) 68 (by rfl) 9 66 keyed_str Try.underlying68 kindElem w.heap.size 0 (.map []) (by rfl) H0.out (by unfold maxLen; omega) (.string ⟨#[66, 65, 83, 69]⟩) kBASE (keyL [66, 65, 83, 69]) (by rfl) (by rfl) (key_str _ (by simp [maxLen])) _ _ kindElem_BASE ?_
       intro w1 ho1 hg1
       have H1 := Lib.hid ho1
       have HG1 := Lib.hid (step HG0.out hg1)
       clear ho1 hg1)
    | (refine wpList_insert_own _ (by rfl) (.tmp 1) _ (.tmp 3) 68 (by rfl) 9 66 keyed_str Try.underlying68 kindElem w.heap.size 1 _ (by rfl) H1.out (by unfold maxLen; omega) (.string ⟨#[82, 69, 80]⟩) kREP (keyL [82, 69, 80]) (by rfl) (by rfl) (key_str _ (by simp [maxLen])) _ _ kindElem_REP ?_
       intro w2 ho2 hg2
       have H2 := Lib.hid ho2
       have HG2 := Lib.hid (step HG1.out hg2)
       clear ho2 hg2)
    | (refine wpList_insert_own _ (by rfl) (.tmp 1) _ (.tmp 4) 68 (by rfl) 9 66 keyed_str Try.underlying68 kindElem w.heap.size 2 _ (by rfl) H2.out (by unfold maxLen; omega) (.string ⟨#[75, 69, 89]⟩) kKEY (keyL [75, 69, 89]) (by rfl) (by rfl) (key_str _ (by simp [maxLen])) _ _ kindElem_KEY ?_
       intro w3 ho3 hg3
       have H3 := Lib.hid ho3
       have HG3 := Lib.hid (step HG2.out hg3)
       clear ho3 hg3)
    | (refine wpList_insert_own _ (by rfl) (.tmp 1) _ (.tmp 5) 68 (by rfl) 9 66 keyed_str Try.underlying68 kindElem w.heap.size 3 _ (by rfl) H3.out (by unfold maxLen; omega) (.string ⟨#[77, 65, 80]⟩) kMAP (keyL [77, 65, 80]) (by rfl) (by rfl) (key_str _ (by simp [maxLen])) _ _ kindElem_MAP ?_
       intro w4 ho4 hg4
       have H4 := Lib.hid ho4
       have HG4 := Lib.hid (step HG3.out hg4)
       clear ho4 hg4))
  go_ret
  exact ⟨w.heap.size, rfl, by have := H4.out; rw [puts] at this; exact this, Nat.le_refl _, HG4.out⟩

/-- what a first field gives -/
noncomputable def kindOf (f : List Int) : Value × Bool :=
  if f = Spec.wBASE then (kBASE, true) else if f = Spec.wREP then (kREP, true) else if f = Spec.wKEY then (kKEY, true) else if f = Spec.wMAP then (kMAP, true) else (kNone, false)
set_option maxRecDepth 100000 in
theorem zero_kind (w : World) : (zeroValue 66).run Try.prog w = .ok kNone w := by
  go_simp
  rfl
set_option maxRecDepth 100000 in
theorem str_data {f g : List Int} (hf : ∀ z ∈ f, (Lit.int .u8 z).wf = true) (hg : ∀ z ∈ g, (Lit.int .u8 z).wf = true) (h : f ≠ g) : (strOfNums f).data.toList ≠ (strOfNums g).data.toList := by
  intro e
  exact h (bytes_ne hf hg (by
    rw [← Lib.mk_data (strOfNums f), ← Lib.mk_data (strOfNums g), e]))
set_option maxRecDepth 100000 in
theorem kinds_look {w : World} {b : Nat} (h : w.ownsMap Try.prog 9 kindElem b 4 kindsD) (f : List Int) (hf : ∀ z ∈ f, (Lit.int .u8 z).wf = true) (hl : f.length ≤ 1000000) :
    (Instr.lookup 68 (.map (some b)) (.string (strOfNums f)) true).run Try.prog w = .ok (.tuple #[(kindOf f).1, .bool (kindOf f).2]) w := by
  have hkey : keyOf Try.prog 9 (.string (strOfNums f)) = some (keyL (strOfNums f).data.toList) := WideMaps.keyOf_string_mk Try.underlying9 (by simp [strOfNums, ByteArray.size, maxLen]; omega)
  obtain ⟨v, ps, hrun, hv⟩ := h.look_ok keyed_str Try.underlying68 (zero_kind w) kindElem_None hkey
  rw [hrun]
  have fin : ∀ (n : Int) (ok : Bool), has kindsD (keyL (strOfNums f).data.toList) = ok → kindsD.atKey (keyL (strOfNums f).data.toList) (.lit (.int .i64 0)) = .lit (.int .i64 n) → ((n = 1 ∧ v = kBASE) ∨ (n = 2 ∧ v = kREP) ∨ (n = 3 ∧ v = kKEY) ∨ (n = 4 ∧ v = kMAP) ∨ (n = 0 ∧ v = kNone)) ∧ has kindsD (keyL (strOfNums f).data.toList) = ok := fun n ok h1 h2 => ⟨by rw [h2] at hv; exact kindElem_inv hv, h1⟩
  unfold kindOf
  by_cases h1 : f = Spec.wBASE
  · subst h1
    obtain ⟨hv, ho⟩ := fin 1 true (by rfl) (by rfl)
    rw [ho, if_pos rfl]
    rcases hv with h | h | h | h | h <;> first | (exact absurd h.1 (by decide)) | (rw [h.2])
  rw [if_neg h1]
  by_cases h2 : f = Spec.wREP
  · subst h2
    obtain ⟨hv, ho⟩ := fin 2 true (by rfl) (by rfl)
    rw [ho, if_pos rfl]
    rcases hv with h | h | h | h | h <;> first | (exact absurd h.1 (by decide)) | (rw [h.2])
  rw [if_neg h2]
  by_cases h3 : f = Spec.wKEY
  · subst h3
    obtain ⟨hv, ho⟩ := fin 3 true (by rfl) (by rfl)
    rw [ho, if_pos rfl]
    rcases hv with h | h | h | h | h <;> first | (exact absurd h.1 (by decide)) | (rw [h.2])
  rw [if_neg h3]
  by_cases h4 : f = Spec.wMAP
  · subst h4
    obtain ⟨hv, ho⟩ := fin 4 true (by rfl) (by rfl)
    rw [ho, if_pos rfl]
    rcases hv with h | h | h | h | h <;> first | (exact absurd h.1 (by decide)) | (rw [h.2])
  rw [if_neg h4]
  have n1 := str_data hf (g := Spec.wBASE) (by decide) h1
  have n2 := str_data hf (g := Spec.wREP) (by decide) h2
  have n3 := str_data hf (g := Spec.wKEY) (by decide) h3
  have n4 := str_data hf (g := Spec.wMAP) (by decide) h4
  change _ ≠ ([66, 65, 83, 69] : List UInt8) at n1
  change _ ≠ ([82, 69, 80] : List UInt8) at n2
  change _ ≠ ([75, 69, 89] : List UInt8) at n3
  change _ ≠ ([77, 65, 80] : List UInt8) at n4
  generalize (strOfNums f).data.toList = L at *
  have e1 : ([66, 65, 83, 69] == L) = false := by simpa using fun e => n1 e.symm
  have e2 : ([82, 69, 80] == L) = false := by simpa using fun e => n2 e.symm
  have e3 : ([75, 69, 89] == L) = false := by simpa using fun e => n3 e.symm
  have e4 : ([77, 65, 80] == L) = false := by simpa using fun e => n4 e.symm
  obtain ⟨hv, ho⟩ := fin 0 false (by simp [has, kindsD, keyL, Lit.sameKey, e1, e2, e3, e4]) (by simp [DataW.atKey, kindsD, keyL, Lit.sameKey, e1, e2, e3, e4])
  rw [ho]
  rcases hv with h | h | h | h | h <;> first | (exact absurd h.1 (by decide)) | (rw [h.2])

end Go.Proofs.Ytdondndalpmdgaa
