/- For every two lists of numbers, every number and every byte UtfParts answers true, and turns nothing that was there. No condition. -/
import Derived.Test.YtkamlhkieblnoaaRows
import Derived.Test.YtkamlhkieblnoaaUtfWalkK
import Derived.Laws.AppendOwnNone
import Derived.WalkKit
import Derived.ProofKit
import Derived.OpenShut
import Derived.ShutString
import Derived.ChangeOld
import Derived.Below
namespace Go.Proofs.Ytkamlhkieblnoaa.utfParts
open Go.ChangeShapes Go.WideShapes Go.ChangeAt Go.RowKit
open Go.ChangeMaps (open_string shut_string)
set_option linter.unusedVariables false

theorem own : ownKnob Try.prog.godebug = none := by kernel_rfl
theorem laidOut : laidOutB Try.prog = true := by kernel_rfl

/-- WHAT THE WALK IS TOLD OF A SLICE OF INTEGERS THAT CAME IN: it is nil; or it leads to a row of 'cap' cells, the numbers 'zs' (the first 'len' are its elements, the rest its spare room), each fitting its kind. -/
def IsRow (k : IntKind) (w : World) (a : Option Addr) (len cap : Nat) (zs : List Int) : Prop :=
  (a = none ∧ len = 0 ∧ cap = 0 ∧ zs = []) ∨
  ∃ x, a = some x ∧ len ≤ cap ∧ cap ≤ maxLen ∧ zs.length = cap ∧ (∀ i, i < zs.length → w.cell? (x.add i) = some (.int k (zs.getD i 0))) ∧ ∀ n ∈ zs, (Lit.int k n).wf = true

/-- append of any list of numbers behind a row that the call owns -/
theorem append_any {w : World} {ops : Array Oper} {rest : List Oper} {o : Oper} {act : Act} {Q : Exit → Act → World → Prop} (hgd : o.guard = none) (s x : Operand)
    (ho : o.op = .call { callee := .builtin .append, args := #[s, x], argTypes := #[22, 22] }) (base : Nat) (v : Value) (n : Nat) (xs : List Int) (hs : act.eval s = v)
    (hown : w.ownsRow base 3 1 v n (i64s xs)) (a : Option Addr) (m c : Nat) (zs : List Int) (hx : act.eval x = .slice a m c) (hz : Sl .i64 w a m c zs) (ha : a = none → c = 0)
    (h63 : (n + m) * 8 ≤ 140737488355328) (hbase : base ≤ w.heap.size)
    (h : ∀ a' c' w', w'.ownsRow base 3 1 (.slice a' (n + m) c') (n + m) (i64s (xs ++ zs)) → Below base w w' → wpList Try.prog ops Q rest (act.put o.dst (.slice a' (n + m) c')) w') :
    wpList Try.prog ops Q (o :: rest) act w := by
  obtain ⟨i0, hi, hz0, hz1, hz2⟩ := info_parts Try.info3
  have form : ∀ {w' : World} {v' : Value} {k : Nat} {l : List Value}, w'.ownsRow base 3 1 v' k l → ∃ a' c', v' = .slice a' k c' := by
    intro w' v' k l ho
    rcases ho.2 with ⟨h1, h2⟩ | ⟨g, cap, cur, h1, _⟩
    · subst h2; exact ⟨none, 0, h1⟩
    · exact ⟨_, cap, h1⟩
  cases a with
  | none =>
    obtain rfl := ha rfl
    obtain rfl : m = 0 := by have := hz.2.1; omega
    obtain rfl : zs = [] := List.eq_nil_of_length_eq_zero hz.1
    obtain ⟨a', c', rfl⟩ := form hown
    refine wpList_append_own_none hgd s x 22 ho base 3 i0 1 Try.underlying22 hi _ n (i64s xs) hs hown hx ?_
    exact h a' c' w (by simpa using hown) (Below.refl _ _)
  | some y =>
    have hnews : ∀ j u, (i64s zs)[j]? = some u → w.cell? (y.add j) = some u := by
      intro j u hj
      have hjl : j < zs.length := by
        rcases Nat.lt_or_ge j zs.length with hlt | hge
        · exact hlt
        · simp [i64s, List.getElem?_eq_none hge] at hj
      obtain ⟨b, off, hy, _, hc⟩ := hz.at (by have := hz.1; omega)
      simp only [Option.some.injEq] at hy
      subst hy
      have := hc j (by have := hz.1; omega)
      rw [show (⟨b, off, none⟩ : Addr).add j = ⟨b, off + j, none⟩ from by simp [Addr.add], this]
      simp [i64s, hjl] at hj
      rw [← hj]; simp [hjl]
    refine wpList_append_own w hgd s x 22 ho base 3 i0 (.int .i64 0) 1 8 Try.underlying22 hi hz0 hz1 hz2 rfl (by decide) v n (i64s xs) hs hown y m c (i64s zs) hx (by simp [i64s, hz.1]) hnews (ints_oneCell .i64 zs) (by unfold maxLen; omega) h63 hbase ?_
    intro v' w' hown' hgrow _
    obtain ⟨a', c', rfl⟩ := form hown'
    refine h a' c' w' (by rw [show i64s (xs ++ zs) = i64s xs ++ i64s zs from by simp [i64s]]; exact hown') ?_
    exact (Below.refl _ _).grown hgrow hbase (fun k hk => (hown.lt k hk).1)
theorem owns_none (w : World) : (w.alloc (.cells #[] 3)).ownsRow w.heap.size 3 1 (.slice (some ⟨w.heap.size, 0, none⟩) 0 0) 0 (i64s []) := by
  have h := World.ownsRow_lit (base := w.heap.size) (e := 3) (size := 1) w #[] 0 (Nat.le_refl _) (Nat.zero_le _) (by simp)
  simpa [i64s] using h
theorem cut_take (n : Int) (h : Utf.good n = true) (t : Nat) (ht : t < Utf.size n) : Utf.takeL ((Utf.enc n).take t) = none := by
  have hp : ∀ b ∈ (Utf.enc n).take t, 0 ≤ b := fun b hb => (Utf.enc_bytes n h b (List.mem_of_mem_take hb)).1
  refine Utf.takeL_of hp ?_
  intro m r hm e
  have e2 : Utf.enc m ++ (r ++ (Utf.enc n).drop t) = Utf.enc n ++ [] := by rw [← List.append_assoc, ← e, List.take_append_drop, List.append_nil]
  have := (Utf.enc_cancel m n _ _ hm h e2).2
  have hd := congrArg List.length this
  rw [List.length_append, List.length_drop, Utf.enc_length] at hd
  simp at hd
  omega
theorem cat_same (a b : List Int) : ((strOfNums (a ++ b)).toList == (strOfNums a ++ strOfNums b).toList) = true := by
  rw [Lib.toList_data, Lib.toList_data, ByteArray.data_append, strOfNums_data, Array.toList_append, strOfNums_data, strOfNums_data]
  simp

/-! ### STEP 1: THE WALK: the Go text returns true, AND WRITES NOTHING THAT WAS THERE: 'Below w.heap.size w w'' (Derived/Below.lean: '.refl', '.alloc', '.drew', '.setCell' at a new block, '.trans'). Open each 'IsRow' by 'rcases' AHEAD of 'go_enter'; part every test ahead of the walk. -/
set_option maxRecDepth 100000 in
set_option maxHeartbeats 2000000 in
theorem walk (a0 : Option Addr) (len0 cap0 : Nat) (z0 : List Int) (a1 : Option Addr) (len1 cap1 : Nat) (z1 : List Int) (a2 : Int) (a3 : Int) (w : World) (w0 : IsRow .i64 w a0 len0 cap0 z0) (w1 : IsRow .i64 w a1 len1 cap1 z1) (w2 : (Lit.int .i64 a2).wf = true) (w3 : (Lit.int .u8 a3).wf = true) :
    Calls Try.prog 6 #[.slice a0 len0 cap0, .slice a1 len1 cap1, .int .i64 a2, .int .u8 a3] w fun e w' => e = .returned (.bool true) ∧ Below w.heap.size w w' := by
  have hn00 : a0 = none → cap0 = 0 := by
    rcases w0 with ⟨_, _, h, _⟩ | ⟨x, h, _⟩
    · exact fun _ => h
    · intro h'; rw [h] at h'; cases h'
  have hn01 : a1 = none → cap1 = 0 := by
    rcases w1 with ⟨_, _, h, _⟩ | ⟨x, h, _⟩
    · exact fun _ => h
    · intro h'; rw [h] at h'; cases h'
  have HN0 := Lib.hid hn00
  have HN1 := Lib.hid hn01
  clear hn00 hn01
  have hs := Sl.of_row w0
  generalize z0.take len0 = xs at hs
  have hcm0 := hs.2.2.1
  have hnc0 := hs.2.1
  unfold maxLen at hcm0
  have HS := Lib.hid hs
  clear hs w0
  have ht := Sl.of_row w1
  generalize z1.take len1 = ys at ht
  have hcm1 := ht.2.2.1
  have hnc1 := ht.2.1
  unfold maxLen at hcm1
  have HT := Lib.hid ht
  clear ht w1
  obtain ⟨hn0, hn1⟩ := bounds_i64 w2
  obtain ⟨hc0, hc1⟩ := bounds_u8 w3
  clear w2 w3
  by_cases hbig : 1000 < len0 ∨ 1000 < len1
  · rcases hbig with h | h
    · have hi : (1000 : Int) < (len0 : Int) := by omega
      go_enter Try.func6, Try.ntmps6
      go_wp2_with (go_at_call 10; refine (awake_any _).mono ?_; rintro e w1 ⟨rfl, hb1⟩)
      go_ret
      exact ⟨rfl, hb1⟩
    · by_cases h' : 1000 < len0
      · have hi : (1000 : Int) < (len0 : Int) := by omega
        go_enter Try.func6, Try.ntmps6
        go_wp2_with (go_at_call 10; refine (awake_any _).mono ?_; rintro e w1 ⟨rfl, hb1⟩)
        go_ret
        exact ⟨rfl, hb1⟩
      · have hi : ¬ (1000 : Int) < (len0 : Int) := by omega
        have hi1 : (1000 : Int) < (len1 : Int) := by omega
        go_enter Try.func6, Try.ntmps6
        go_wp2_with (go_at_call 10; refine (awake_any _).mono ?_; rintro e w1 ⟨rfl, hb1⟩)
        go_ret
        exact ⟨rfl, hb1⟩
  · have hl0 : len0 ≤ 1000 := by omega
    have hl1 : len1 ≤ 1000 := by omega
    have hi0 : decide ((1000 : Int) < (len0 : Int)) = false := by simp; omega
    have hi1 : decide ((1000 : Int) < (len1 : Int)) = false := by simp; omega
    clear hbig
    have hwn : ∀ z ∈ [a2], (Lit.int .i64 z).wf = true := by intro z hz; simp at hz; subst hz; exact WalkArith.wf_i64 ⟨hn0, hn1⟩
    have HW := Lib.hid hwn
    obtain ⟨pa, ea, hpa⟩ := putIs_ex xs
    obtain ⟨pb, eb, hpb⟩ := putIs_ex ys
    obtain ⟨pz, ez, hpz⟩ := putIs_ex (xs ++ ys)
    have hall : (ea = 0 ∧ eb = 0 ∧ ez = 0 ∧ pz = pa ++ pb) ∨ (ea = 10 ∧ ez = 10) ∨ (ea = 0 ∧ eb = 10 ∧ ez = 10) := by
      obtain ⟨h1, rfl, rfl⟩ | ⟨h1, rfl, rfl⟩ := id hpa
      · obtain ⟨h2, rfl, rfl⟩ | ⟨h2, rfl, rfl⟩ := id hpb
        · obtain ⟨h3, rfl, rfl⟩ | ⟨h3, rfl, rfl⟩ := id hpz
          · exact .inl ⟨rfl, rfl, rfl, Utf.put_append _ _⟩
          · rw [Utf.allGood_append, h1, h2] at h3; cases h3
        · obtain ⟨h3, rfl, rfl⟩ | ⟨h3, rfl, rfl⟩ := id hpz
          · rw [Utf.allGood_append, h1, h2] at h3; cases h3
          · exact .inr (.inr ⟨rfl, rfl, rfl⟩)
      · obtain ⟨h3, rfl, rfl⟩ | ⟨h3, rfl, rfl⟩ := id hpz
        · rw [Utf.allGood_append, h1] at h3; cases h3
        · exact .inr (.inl ⟨rfl, rfl⟩)
    have hla := hpa.le
    have hlb := hpb.le
    rw [HS.out.1] at hla
    rw [HT.out.1] at hlb
    have HPA := Lib.hid hpa
    have HPB := Lib.hid hpb
    have HPZ := Lib.hid hpz
    clear hpa hpb hpz hwn
    obtain ⟨s1, hs1⟩ : ∃ s, s = strOfNums pa := ⟨_, rfl⟩
    obtain ⟨s2, hs2⟩ : ∃ s, s = strOfNums pb := ⟨_, rfl⟩
    obtain ⟨s3, hs3⟩ : ∃ s, s = strOfNums pz := ⟨_, rfl⟩
    have hz1 : s1.size ≤ 4000 := by rw [hs1, strOfNums_size]; omega
    have hz2 : s2.size ≤ 4000 := by rw [hs2, strOfNums_size]; omega
    have HS1 := Lib.hid hs1
    have HS2 := Lib.hid hs2
    have HS3 := Lib.hid hs3
    have hcat : Hid (pz = pa ++ pb → (s3.toList == (s1 ++ s2).toList) = true) := fun h => by rw [HS3.out, HS1.out, HS2.out, h]; exact cat_same pa pb
    clear hs1 hs2 hs3
    rcases hall with ⟨rfl, rfl, rfl, hpe'⟩ | ⟨rfl, rfl⟩ | ⟨rfl, rfl, rfl⟩
    · have hpe : Hid (pz = pa ++ pb) := hpe'
      clear hpe'
      go_enter Try.func6, Try.ntmps6
      go_wp2_with fail
      refine (awake_any _).mono ?_
      rintro e w1 ⟨rfl, B1⟩
      go_wp2_with fail
      refine (put_gen _ _ _ xs _ _ _ HPA.out (HS.out.below B1 (Nat.le_refl _)) (by omega)).mono ?_
      rintro e w2 ⟨a3x, c3x, rfl, P2, hb2⟩
      have B2 : Below w.heap.size w w2 := B1.trans (hb2.mono B1.size)
      clear hb2 B1
      go_wp2_with fail
      refine (put_gen _ _ _ ys _ _ _ HPB.out (HT.out.below B2 (Nat.le_refl _)) (by omega)).mono ?_
      rintro e w3 ⟨a4, c4, rfl, Q3, hb3⟩
      have B3 : Below w.heap.size w w3 := B2.trans (hb3.mono B2.size)
      have P3 := P2.below hb3 (Nat.le_refl _)
      clear hb3 B2 P2
      have hz3 := B3.size
      have HOW := Lib.hid (owns_none w3)
      go_wp2_with (first
        | (at_builtin; refine append_any rfl (.tmp 46) (.tmp 47) (by rfl) w3.heap.size _ 0 [] (by rfl) HOW.out a0 len0 cap0 xs (by rfl) ((HS.out.below B3 (Nat.le_refl _)).alloc _) HN0.out (by omega) (by simp) ?_; intro a5 c5 w4 hown1 hb4; simp only [Nat.zero_add, List.nil_append] at hown1; have B4 : Below w.heap.size w w4 := (B3.alloc hz3 _).trans (hb4.mono hz3); have T4 := HT.out.below B4 (Nat.le_refl _); have hz4 : w3.heap.size ≤ w4.heap.size := (by have := hb4.size; simp at this; omega))
        | (at_builtin; refine append_any rfl (.tmp 48) (.tmp 49) (by rfl) w3.heap.size _ _ _ (by rfl) hown1 a1 len1 cap1 ys (by rfl) T4 HN1.out (by omega) hz4 ?_; intro a6 c6 w5 hown2 hb5)
        | fail)
      have hb45 : Below w3.heap.size w3 w5 := (((Below.refl w3.heap.size w3).alloc (Nat.le_refl _) _).trans hb4).trans hb5
      have B5 : Below w.heap.size w w5 := B3.trans (hb45.mono hz3)
      have P5 := P3.below hb45 (Nat.le_refl _)
      have Q5 := Q3.below hb45 (Nat.le_refl _)
      have S5 : Sl .i64 w5 a6 (len0 + len1) c6 (xs ++ ys) := Sl.of_owns hown2 (fun z hz => by rcases List.mem_append.1 hz with h | h; exact HS.out.2.2.2.1 z h; exact HT.out.2.2.2.1 z h) (by rw [List.length_append, HS.out.1, HT.out.1])
      clear hb4 hb5 hown1 hown2 hb45 B3 P3 Q3 B4 T4 hz3 hz4 HOW
      refine (put_gen _ _ _ (xs ++ ys) _ _ _ HPZ.out S5 (by omega)).mono ?_
      rintro e w6 ⟨a7, c7, rfl, R6, hb6⟩
      have B6 : Below w.heap.size w w6 := B5.trans (hb6.mono B5.size)
      have P6 := P5.below hb6 (Nat.le_refl _)
      have Q6 := Q5.below hb6 (Nat.le_refl _)
      clear hb6 B5 P5 Q5 S5
      cases hg : Utf.good a2 with
      | false =>
        have hag : Utf.allGood [a2] = false := by simp [Utf.allGood, hg]
        have HA := Lib.hid hag
        have HG := Lib.hid hg
        clear hag hg
        go_wp2_with fail
        refine (put_bad _ _ _ [a2] _ (Sl.newi [a2] HW.out (by simp [maxLen])) (by simp) HA.out).mono ?_
        rintro e w7 ⟨rfl, hb7⟩
        have B7 := below_over B6 hb7
        have hcv1 := (P6.over hb7).str
        have hcv2 := (Q6.over hb7).str
        have hcv3 := (R6.over hb7).str
        rw [← HS1.out] at hcv1
        rw [← HS2.out] at hcv2
        rw [← HS3.out] at hcv3
        clear hb7 P6 Q6 R6
        have hct2 := hcat.out hpe.out
        go_wp2_with fail
        refine (good_is a2 false _ HG.out hn0 hn1).mono ?_
        rintro e w8 ⟨rfl, rfl⟩
        go_wp2
        go_ret
        exact ⟨rfl, B7⟩
      | true =>
        have hag : Utf.allGood [a2] = true := by simp [Utf.allGood, hg]
        have hpe2 : Utf.put [a2] = Utf.enc a2 := by simp [Utf.put]
        have hel : (Utf.enc a2).length = Utf.size a2 := Utf.enc_length a2
        have hs4 := Utf.size_le a2
        have hs0 := Utf.size_pos a2
        have htk : Utf.takeL (Utf.enc a2) = some (a2, Utf.size a2) := by have := Utf.takeL_enc a2 [] hg; rwa [List.append_nil] at this
        obtain ⟨t, ht⟩ : ∃ t : Nat, a3 % (Utf.size a2 : Int) = (t : Int) := ⟨(a3 % (Utf.size a2 : Int)).toNat, (Int.toNat_of_nonneg (Int.emod_nonneg _ (by omega))).symm⟩
        have htl : t < Utf.size a2 := by
          have := Int.emod_lt_of_pos a3 (show (0 : Int) < (Utf.size a2 : Int) from by omega)
          omega
        have hct := cut_take a2 hg t htl
        have hd1 : decide ((Utf.size a2 : Int) < 1) = false := by simp; omega
        have hd2 : decide ((4 : Int) < (Utf.size a2 : Int)) = false := by simp; omega
        have HA := Lib.hid hag
        have HG := Lib.hid hg
        have HP2 := Lib.hid hpe2
        have HE2 := Lib.hid hel
        have HTK := Lib.hid htk
        have HCT := Lib.hid hct
        clear hag hg hpe2 hel htk hct
        go_wp2_with fail
        refine (put_is _ _ _ [a2] (Utf.enc a2) (Utf.size a2) _ (Sl.newi [a2] HW.out (by simp [maxLen])) (by simp) HA.out HP2.out HE2.out).mono ?_
        rintro e w7 ⟨g7, c8, rfl, N7, hb7⟩
        have B7 := below_over B6 hb7
        have hcv1 := (P6.over hb7).str
        have hcv2 := (Q6.over hb7).str
        have hcv3 := (R6.over hb7).str
        rw [← HS1.out] at hcv1
        rw [← HS2.out] at hcv2
        rw [← HS3.out] at hcv3
        have hmc := N7.2.1
        have hmc2 := N7.2.2.1
        unfold maxLen at hmc2
        have HN7 := Lib.hid N7
        have HF7 := Lib.hid (N7.first t (by omega))
        clear hb7 P6 Q6 R6 N7
        have hct2 := hcat.out hpe.out
        go_wp2_with fail
        refine (take_not _ _ _ _ _ HF7.out HCT.out).mono ?_
        rintro e w8 ⟨rfl, hb8⟩
        have B8 : Below w.heap.size w w8 := B7.trans (hb8.mono B7.size)
        have HN8 := Lib.hid (HN7.out.below hb8 (Nat.le_refl _))
        clear hb8 hcv1 hcv2 hcv3
        go_wp2_with fail
        refine (take_is _ _ _ _ a2 (Utf.size a2) _ HN8.out HTK.out).mono ?_
        rintro e w9 ⟨rfl, hb9⟩
        have B9 : Below w.heap.size w w9 := B8.trans (hb9.mono B8.size)
        clear hb9
        go_wp2_with fail
        refine (good_is a2 true _ HG.out hn0 hn1).mono ?_
        rintro e w10 ⟨rfl, rfl⟩
        go_wp2
        go_ret
        exact ⟨rfl, B9⟩
    · skip
      go_enter Try.func6, Try.ntmps6
      go_wp2_with fail
      refine (awake_any _).mono ?_
      rintro e w1 ⟨rfl, B1⟩
      go_wp2_with fail
      refine (put_gen _ _ _ xs _ _ _ HPA.out (HS.out.below B1 (Nat.le_refl _)) (by omega)).mono ?_
      rintro e w2 ⟨a3x, c3x, rfl, P2, hb2⟩
      have B2 : Below w.heap.size w w2 := B1.trans (hb2.mono B1.size)
      clear hb2 B1
      go_wp2_with fail
      refine (put_gen _ _ _ ys _ _ _ HPB.out (HT.out.below B2 (Nat.le_refl _)) (by omega)).mono ?_
      rintro e w3 ⟨a4, c4, rfl, Q3, hb3⟩
      have B3 : Below w.heap.size w w3 := B2.trans (hb3.mono B2.size)
      have P3 := P2.below hb3 (Nat.le_refl _)
      clear hb3 B2 P2
      have hz3 := B3.size
      have HOW := Lib.hid (owns_none w3)
      go_wp2_with (first
        | (at_builtin; refine append_any rfl (.tmp 46) (.tmp 47) (by rfl) w3.heap.size _ 0 [] (by rfl) HOW.out a0 len0 cap0 xs (by rfl) ((HS.out.below B3 (Nat.le_refl _)).alloc _) HN0.out (by omega) (by simp) ?_; intro a5 c5 w4 hown1 hb4; simp only [Nat.zero_add, List.nil_append] at hown1; have B4 : Below w.heap.size w w4 := (B3.alloc hz3 _).trans (hb4.mono hz3); have T4 := HT.out.below B4 (Nat.le_refl _); have hz4 : w3.heap.size ≤ w4.heap.size := (by have := hb4.size; simp at this; omega))
        | (at_builtin; refine append_any rfl (.tmp 48) (.tmp 49) (by rfl) w3.heap.size _ _ _ (by rfl) hown1 a1 len1 cap1 ys (by rfl) T4 HN1.out (by omega) hz4 ?_; intro a6 c6 w5 hown2 hb5)
        | fail)
      have hb45 : Below w3.heap.size w3 w5 := (((Below.refl w3.heap.size w3).alloc (Nat.le_refl _) _).trans hb4).trans hb5
      have B5 : Below w.heap.size w w5 := B3.trans (hb45.mono hz3)
      have P5 := P3.below hb45 (Nat.le_refl _)
      have Q5 := Q3.below hb45 (Nat.le_refl _)
      have S5 : Sl .i64 w5 a6 (len0 + len1) c6 (xs ++ ys) := Sl.of_owns hown2 (fun z hz => by rcases List.mem_append.1 hz with h | h; exact HS.out.2.2.2.1 z h; exact HT.out.2.2.2.1 z h) (by rw [List.length_append, HS.out.1, HT.out.1])
      clear hb4 hb5 hown1 hown2 hb45 B3 P3 Q3 B4 T4 hz3 hz4 HOW
      refine (put_gen _ _ _ (xs ++ ys) _ _ _ HPZ.out S5 (by omega)).mono ?_
      rintro e w6 ⟨a7, c7, rfl, R6, hb6⟩
      have B6 : Below w.heap.size w w6 := B5.trans (hb6.mono B5.size)
      have P6 := P5.below hb6 (Nat.le_refl _)
      have Q6 := Q5.below hb6 (Nat.le_refl _)
      clear hb6 B5 P5 Q5 S5
      cases hg : Utf.good a2 with
      | false =>
        have hag : Utf.allGood [a2] = false := by simp [Utf.allGood, hg]
        have HA := Lib.hid hag
        have HG := Lib.hid hg
        clear hag hg
        go_wp2_with fail
        refine (put_bad _ _ _ [a2] _ (Sl.newi [a2] HW.out (by simp [maxLen])) (by simp) HA.out).mono ?_
        rintro e w7 ⟨rfl, hb7⟩
        have B7 := below_over B6 hb7
        clear hb7 P6 Q6 R6
        go_wp2_with fail
        refine (good_is a2 false _ HG.out hn0 hn1).mono ?_
        rintro e w8 ⟨rfl, rfl⟩
        go_wp2
        go_ret
        exact ⟨rfl, B7⟩
      | true =>
        have hag : Utf.allGood [a2] = true := by simp [Utf.allGood, hg]
        have hpe2 : Utf.put [a2] = Utf.enc a2 := by simp [Utf.put]
        have hel : (Utf.enc a2).length = Utf.size a2 := Utf.enc_length a2
        have hs4 := Utf.size_le a2
        have hs0 := Utf.size_pos a2
        have htk : Utf.takeL (Utf.enc a2) = some (a2, Utf.size a2) := by have := Utf.takeL_enc a2 [] hg; rwa [List.append_nil] at this
        obtain ⟨t, ht⟩ : ∃ t : Nat, a3 % (Utf.size a2 : Int) = (t : Int) := ⟨(a3 % (Utf.size a2 : Int)).toNat, (Int.toNat_of_nonneg (Int.emod_nonneg _ (by omega))).symm⟩
        have htl : t < Utf.size a2 := by
          have := Int.emod_lt_of_pos a3 (show (0 : Int) < (Utf.size a2 : Int) from by omega)
          omega
        have hct := cut_take a2 hg t htl
        have hd1 : decide ((Utf.size a2 : Int) < 1) = false := by simp; omega
        have hd2 : decide ((4 : Int) < (Utf.size a2 : Int)) = false := by simp; omega
        have HA := Lib.hid hag
        have HG := Lib.hid hg
        have HP2 := Lib.hid hpe2
        have HE2 := Lib.hid hel
        have HTK := Lib.hid htk
        have HCT := Lib.hid hct
        clear hag hg hpe2 hel htk hct
        go_wp2_with fail
        refine (put_is _ _ _ [a2] (Utf.enc a2) (Utf.size a2) _ (Sl.newi [a2] HW.out (by simp [maxLen])) (by simp) HA.out HP2.out HE2.out).mono ?_
        rintro e w7 ⟨g7, c8, rfl, N7, hb7⟩
        have B7 := below_over B6 hb7
        have hmc := N7.2.1
        have hmc2 := N7.2.2.1
        unfold maxLen at hmc2
        have HN7 := Lib.hid N7
        have HF7 := Lib.hid (N7.first t (by omega))
        clear hb7 P6 Q6 R6 N7
        go_wp2_with fail
        refine (take_not _ _ _ _ _ HF7.out HCT.out).mono ?_
        rintro e w8 ⟨rfl, hb8⟩
        have B8 : Below w.heap.size w w8 := B7.trans (hb8.mono B7.size)
        have HN8 := Lib.hid (HN7.out.below hb8 (Nat.le_refl _))
        clear hb8
        go_wp2_with fail
        refine (take_is _ _ _ _ a2 (Utf.size a2) _ HN8.out HTK.out).mono ?_
        rintro e w9 ⟨rfl, hb9⟩
        have B9 : Below w.heap.size w w9 := B8.trans (hb9.mono B8.size)
        clear hb9
        go_wp2_with fail
        refine (good_is a2 true _ HG.out hn0 hn1).mono ?_
        rintro e w10 ⟨rfl, rfl⟩
        go_wp2
        go_ret
        exact ⟨rfl, B9⟩
    · skip
      go_enter Try.func6, Try.ntmps6
      go_wp2_with fail
      refine (awake_any _).mono ?_
      rintro e w1 ⟨rfl, B1⟩
      go_wp2_with fail
      refine (put_gen _ _ _ xs _ _ _ HPA.out (HS.out.below B1 (Nat.le_refl _)) (by omega)).mono ?_
      rintro e w2 ⟨a3x, c3x, rfl, P2, hb2⟩
      have B2 : Below w.heap.size w w2 := B1.trans (hb2.mono B1.size)
      clear hb2 B1
      go_wp2_with fail
      refine (put_gen _ _ _ ys _ _ _ HPB.out (HT.out.below B2 (Nat.le_refl _)) (by omega)).mono ?_
      rintro e w3 ⟨a4, c4, rfl, Q3, hb3⟩
      have B3 : Below w.heap.size w w3 := B2.trans (hb3.mono B2.size)
      have P3 := P2.below hb3 (Nat.le_refl _)
      clear hb3 B2 P2
      have hz3 := B3.size
      have HOW := Lib.hid (owns_none w3)
      go_wp2_with (first
        | (at_builtin; refine append_any rfl (.tmp 46) (.tmp 47) (by rfl) w3.heap.size _ 0 [] (by rfl) HOW.out a0 len0 cap0 xs (by rfl) ((HS.out.below B3 (Nat.le_refl _)).alloc _) HN0.out (by omega) (by simp) ?_; intro a5 c5 w4 hown1 hb4; simp only [Nat.zero_add, List.nil_append] at hown1; have B4 : Below w.heap.size w w4 := (B3.alloc hz3 _).trans (hb4.mono hz3); have T4 := HT.out.below B4 (Nat.le_refl _); have hz4 : w3.heap.size ≤ w4.heap.size := (by have := hb4.size; simp at this; omega))
        | (at_builtin; refine append_any rfl (.tmp 48) (.tmp 49) (by rfl) w3.heap.size _ _ _ (by rfl) hown1 a1 len1 cap1 ys (by rfl) T4 HN1.out (by omega) hz4 ?_; intro a6 c6 w5 hown2 hb5)
        | fail)
      have hb45 : Below w3.heap.size w3 w5 := (((Below.refl w3.heap.size w3).alloc (Nat.le_refl _) _).trans hb4).trans hb5
      have B5 : Below w.heap.size w w5 := B3.trans (hb45.mono hz3)
      have P5 := P3.below hb45 (Nat.le_refl _)
      have Q5 := Q3.below hb45 (Nat.le_refl _)
      have S5 : Sl .i64 w5 a6 (len0 + len1) c6 (xs ++ ys) := Sl.of_owns hown2 (fun z hz => by rcases List.mem_append.1 hz with h | h; exact HS.out.2.2.2.1 z h; exact HT.out.2.2.2.1 z h) (by rw [List.length_append, HS.out.1, HT.out.1])
      clear hb4 hb5 hown1 hown2 hb45 B3 P3 Q3 B4 T4 hz3 hz4 HOW
      refine (put_gen _ _ _ (xs ++ ys) _ _ _ HPZ.out S5 (by omega)).mono ?_
      rintro e w6 ⟨a7, c7, rfl, R6, hb6⟩
      have B6 : Below w.heap.size w w6 := B5.trans (hb6.mono B5.size)
      have P6 := P5.below hb6 (Nat.le_refl _)
      have Q6 := Q5.below hb6 (Nat.le_refl _)
      clear hb6 B5 P5 Q5 S5
      cases hg : Utf.good a2 with
      | false =>
        have hag : Utf.allGood [a2] = false := by simp [Utf.allGood, hg]
        have HA := Lib.hid hag
        have HG := Lib.hid hg
        clear hag hg
        go_wp2_with fail
        refine (put_bad _ _ _ [a2] _ (Sl.newi [a2] HW.out (by simp [maxLen])) (by simp) HA.out).mono ?_
        rintro e w7 ⟨rfl, hb7⟩
        have B7 := below_over B6 hb7
        clear hb7 P6 Q6 R6
        go_wp2_with fail
        refine (good_is a2 false _ HG.out hn0 hn1).mono ?_
        rintro e w8 ⟨rfl, rfl⟩
        go_wp2
        go_ret
        exact ⟨rfl, B7⟩
      | true =>
        have hag : Utf.allGood [a2] = true := by simp [Utf.allGood, hg]
        have hpe2 : Utf.put [a2] = Utf.enc a2 := by simp [Utf.put]
        have hel : (Utf.enc a2).length = Utf.size a2 := Utf.enc_length a2
        have hs4 := Utf.size_le a2
        have hs0 := Utf.size_pos a2
        have htk : Utf.takeL (Utf.enc a2) = some (a2, Utf.size a2) := by have := Utf.takeL_enc a2 [] hg; rwa [List.append_nil] at this
        obtain ⟨t, ht⟩ : ∃ t : Nat, a3 % (Utf.size a2 : Int) = (t : Int) := ⟨(a3 % (Utf.size a2 : Int)).toNat, (Int.toNat_of_nonneg (Int.emod_nonneg _ (by omega))).symm⟩
        have htl : t < Utf.size a2 := by
          have := Int.emod_lt_of_pos a3 (show (0 : Int) < (Utf.size a2 : Int) from by omega)
          omega
        have hct := cut_take a2 hg t htl
        have hd1 : decide ((Utf.size a2 : Int) < 1) = false := by simp; omega
        have hd2 : decide ((4 : Int) < (Utf.size a2 : Int)) = false := by simp; omega
        have HA := Lib.hid hag
        have HG := Lib.hid hg
        have HP2 := Lib.hid hpe2
        have HE2 := Lib.hid hel
        have HTK := Lib.hid htk
        have HCT := Lib.hid hct
        clear hag hg hpe2 hel htk hct
        go_wp2_with fail
        refine (put_is _ _ _ [a2] (Utf.enc a2) (Utf.size a2) _ (Sl.newi [a2] HW.out (by simp [maxLen])) (by simp) HA.out HP2.out HE2.out).mono ?_
        rintro e w7 ⟨g7, c8, rfl, N7, hb7⟩
        have B7 := below_over B6 hb7
        have hmc := N7.2.1
        have hmc2 := N7.2.2.1
        unfold maxLen at hmc2
        have HN7 := Lib.hid N7
        have HF7 := Lib.hid (N7.first t (by omega))
        clear hb7 P6 Q6 R6 N7
        go_wp2_with fail
        refine (take_not _ _ _ _ _ HF7.out HCT.out).mono ?_
        rintro e w8 ⟨rfl, hb8⟩
        have B8 : Below w.heap.size w w8 := B7.trans (hb8.mono B7.size)
        have HN8 := Lib.hid (HN7.out.below hb8 (Nat.le_refl _))
        clear hb8
        go_wp2_with fail
        refine (take_is _ _ _ _ a2 (Utf.size a2) _ HN8.out HTK.out).mono ?_
        rintro e w9 ⟨rfl, hb9⟩
        have B9 : Below w.heap.size w w9 := B8.trans (hb9.mono B8.size)
        clear hb9
        go_wp2_with fail
        refine (good_is a2 true _ HG.out hn0 hn1).mono ?_
        rintro e w10 ⟨rfl, rfl⟩
        go_wp2
        go_ret
        exact ⟨rfl, B9⟩

/-! ### THE ROW's STEP: WRITTEN OUT: LEAVE IT -/
set_option maxRecDepth 100000 in
theorem lifted (os : Os) (started : os.Started) (H : Type) (enc : TypeId × Value → H) :
    ReturnsInHanded {} Try.checked os 6 .any (Rows.utfPartsSpec.pre6 enc Try.prog Try.f6 Rows.utfPartsRow.domain false) (Rows.utfPartsSpec.post enc Try.prog Try.f6 false true false false) := by
  refine returnsInHanded_of_change (C := Try.checked) own started (by kernel_rfl) Try.func6
    (ChangeSpec.witness6 (enc := enc) (C := Try.checked) false ⟨#[], #[.slice none 0 0, .slice none 0 0, .int .i64 0, .int .u8 0], []⟩ 8 (by kernel_rfl) (by kernel_rfl) (by kernel_rfl) (by kernel_rfl)) ?_
  intro W base args ds gs before hval0 hW hcnd _
  have hval : ∀ (j : Nat) t v, Try.f6.params[j]? = some t → args[j]? = some v → Value.okWide Try.prog W .any base t v := hval0
  have hW' := hW
  obtain ⟨p, q, hA0, hV, rfl, hfz, hnd⟩ := hW
  have hA : DataW.TrodAll enc Try.prog W 0 (fun _ => true) true Try.f6.params.toList args.toList ds p := hA0
  rw [Try.params6] at hA hval
  obtain ⟨v0, vs0, d0, ds0, p0, q0, hargs, rfl, rfl, h0, r0⟩ := trodAll_cons hA
  obtain ⟨v1, vs1, d1, ds1, p1, q1, rfl, rfl, rfl, h1, r1⟩ := trodAll_cons r0
  obtain ⟨v2, vs2, d2, ds2, p2, q2, rfl, rfl, rfl, h2, r2⟩ := trodAll_cons r1
  obtain ⟨v3, vs3, d3, ds3, p3, q3, rfl, rfl, rfl, h3, r3⟩ := trodAll_cons r2
  obtain ⟨rfl, rfl, rfl⟩ := trodAll_nil r3
  obtain rfl : args = #[v0, v1, v2, v3] := by cases args; simp_all
  obtain ⟨rfl, rfl⟩ := trodVars_none hV
  obtain ⟨a0, len0, cap0, rfl⟩ := okWide_slice Try.underlying22 (hval 0 22 v0 rfl rfl)
  have k0 := h0
  have lt0 : ∀ x ∈ p0, x.block < W.heap.size := by obtain ⟨m, hm⟩ := k0; exact DataW.trod_lt m _ _ _ hm
  obtain ⟨z0, w0⟩ : ∃ zs, IsRow .i64 W a0 len0 cap0 zs := by
    obtain ⟨fuel, hf⟩ := h0
    rcases open_ints Try.underlying22 Try.underlying3 (by kernel_rfl) hf with ⟨hcs, _⟩ | ⟨x, l, c, zs, hcs, _, hl, hm, hz, _, hcell, hwz⟩
    · simp [Value.cells] at hcs
      obtain ⟨rfl, rfl, rfl⟩ := hcs
      exact ⟨[], .inl ⟨rfl, rfl, rfl, rfl⟩⟩
    · simp [Value.cells] at hcs
      obtain ⟨rfl, rfl, rfl⟩ := hcs
      exact ⟨zs, .inr ⟨_, rfl, hl, hm, by simpa using hz, hcell, hwz⟩⟩
  obtain ⟨a1, len1, cap1, rfl⟩ := okWide_slice Try.underlying22 (hval 1 22 v1 rfl rfl)
  have k1 := h1
  have lt1 : ∀ x ∈ p1, x.block < W.heap.size := by obtain ⟨m, hm⟩ := k1; exact DataW.trod_lt m _ _ _ hm
  obtain ⟨z1, w1⟩ : ∃ zs, IsRow .i64 W a1 len1 cap1 zs := by
    obtain ⟨fuel, hf⟩ := h1
    rcases open_ints Try.underlying22 Try.underlying3 (by kernel_rfl) hf with ⟨hcs, _⟩ | ⟨x, l, c, zs, hcs, _, hl, hm, hz, _, hcell, hwz⟩
    · simp [Value.cells] at hcs
      obtain ⟨rfl, rfl, rfl⟩ := hcs
      exact ⟨[], .inl ⟨rfl, rfl, rfl, rfl⟩⟩
    · simp [Value.cells] at hcs
      obtain ⟨rfl, rfl, rfl⟩ := hcs
      exact ⟨zs, .inr ⟨_, rfl, hl, hm, by simpa using hz, hcell, hwz⟩⟩
  obtain ⟨a2, rfl, rfl, rfl, w2⟩ := open_int Try.underlying3 (hval 2 3 v2 rfl rfl) h2
  obtain ⟨a3, rfl, rfl, rfl, w3⟩ := open_int Try.underlying5 (hval 3 5 v3 rfl rfl) h3
  clear hA0 hval0
  refine (walk a0 len0 cap0 z0 a1 len1 cap1 z1 a2 a3 W w0 w1 w2 w3).mono fun e W' ⟨he, bel⟩ => ?_
  subst he
  exact ⟨_, rfl, _, _, _, [], _, [], hW', trodAll_mk1 (shut_bool Try.underlying4 _), (trodAll_cons_mk (Below.trod laidOut (by kernel_rfl) (of_decide_eq_true (by kernel_rfl)) k0 bel lt0) (trodAll_cons_mk (Below.trod laidOut (by kernel_rfl) (of_decide_eq_true (by kernel_rfl)) k1 bel lt1) (trodAll_cons_mk (shut_int Try.underlying3 w2) (trodAll_cons_mk (shut_int Try.underlying5 w3) trodAll_mk0)))), rfl, bel.frame _, fun h => by cases h⟩

theorem over : Rows.utfPartsRow.holds Try.pinned (OpenSpec.ofChange Rows.utfPartsSpec) :=
  OpenClaim.holds_of_wide 6 Try.f6 rfl rfl rfl rfl rfl rfl rfl ⟨rfl, rfl, rfl, rfl, rfl⟩ rfl rfl rfl rfl rfl (by kernel_rfl) Try.func6 (by kernel_rfl)
    (of_decide_eq_true (by kernel_rfl)) (by unfold Func.isWrapper; first | (rw [if_pos (by decide +kernel)]; kernel_rfl) | (rw [if_neg (by decide +kernel)]; exact ⟨rfl, rfl⟩))
    (fun os started H enc _ => lifted os started H enc)

/-- ████ THE STATEMENT ████ -/
theorem proved : Rows.UtfPartsSaid := over
#print axioms proved
end Go.Proofs.Ytkamlhkieblnoaa.utfParts
