/- Texts Label, LabelEq, Ref, RefPush, joined. -/
import Derived.Test.YtbljamcdaoofbaaGreatDoorBaseToPair
import Derived.Deep.DeepCutAuto
/- The program's label.Valid answers as the reference's isLabels does. -/
namespace Go.Proofs.YtbljamcdaoofbaaGreatDoor
open Go.RowKit

set_option maxHeartbeats 400000 in
theorem pLetter_any (c : Int) (w : World) :
    Calls Tryz.prog 132 #[.int .u8 c] w fun e w' => e = .returned (.bool (letterB c)) ∧ w' = w := by
  by_cases h : 97 ≤ c
  all_goals
    go_enter Tryz.func132, Tryz.ntmps132
    go_wp2
    go_ret
    exact ⟨by simp [letterB, h]; try omega, rfl⟩

set_option maxHeartbeats 400000 in
theorem pLetterOrDigit_any (c : UInt8) (w : World) :
    Calls Tryz.prog 133 #[.int .u8 c.toNat] w fun e w' => e = .returned (.bool (wordC true c)) ∧ w' = w := by
  cases h : letterB c.toNat
  all_goals
    go_enter Tryz.func133, Tryz.ntmps133
    go_wp2_with fail
    refine (pLetter_any _ _).mono ?_
    rintro e w1 ⟨rfl, rfl⟩
    rw [h]
    go_wp2
    all_goals
      go_ret
      refine ⟨?_, rfl⟩
      simp [wordC, h, digitB] <;> omega

set_option maxHeartbeats 400000 in
theorem pWordLength_any (l : List UInt8) (w : World) (hl : l.length ≤ 1048576) :
    Calls Tryz.prog 130 #[.string ⟨l.toArray⟩] w fun e w' => e = .returned (.bool (decide (1 ≤ l.length) && decide (l.length ≤ 6))) ∧ w' = w := by
  by_cases h : (1 : Int) ≤ l.length
  all_goals
    go_enter Tryz.func130, Tryz.ntmps130
    go_wp2
    go_ret
    refine ⟨ret_bool ?_, rfl⟩
    rw [Bool.eq_iff_iff]
    simp <;> omega

theorem all_snoc (f : UInt8 → Bool) (l : List UInt8) (k : Nat) (h : k < l.length) : (l.take (k + 1)).all f = ((l.take k).all f && f l[k]) := by
  rw [List.take_succ_eq_append_getElem h, List.all_append]
  simp

theorem all_bad {f : UInt8 → Bool} {l : List UInt8} {k : Nat} (h : k < l.length) (hf : f l[k] = false) : l.all f = false := by
  rw [Bool.eq_false_iff]
  intro hh
  rw [List.all_eq_true] at hh
  have := hh _ (List.getElem_mem h)
  rw [hf] at this
  cases this

set_option maxRecDepth 10000 in
set_option maxHeartbeats 400000 in
theorem pAllLetter_any (l : List UInt8) (w : World) (hl : l.length ≤ 1048576) :
    Calls Tryz.prog 131 #[.string ⟨l.toArray⟩, .func (.func 132) #[] #[]] w fun e w' => e = .returned (.bool (l.all (wordC false))) ∧ w' = w := by
  go_enter Tryz.func131, Tryz.ntmps131
  go_wp2
  go_loop [8] (fun i => ∃ k : Nat, k ≤ l.length ∧ i = .int .i64 k ∧ (l.take k).all (wordC false) = true) (fun i => l.length - (intOf i).toNat)
  case atStart => exact ⟨0, Nat.zero_le _, rfl, rfl⟩
  case round =>
    obtain ⟨k, hk, rfl, hall⟩ := hrel
    have HA := hide hall
    clear hall
    by_cases hlt : k < l.length
    · have HS := hide (all_snoc (wordC false) l k hlt)
      go_wp2_with (go_at_call 132; refine (pLetter_any _ _).mono ?_; rintro e w' ⟨rfl, rfl⟩)
      · have hw : (!letterB (l[k].toNat : Int)) = true := by assumption
        go_ret
        refine ⟨ret_bool ?_, rfl⟩
        have hw' : wordC false l[k] = false := by simpa [wordC] using hw
        rw [all_bad hlt hw']
      · have hw : (!letterB (l[k].toNat : Int)) = false := by assumption
        go_round
        case rel =>
          refine ⟨k + 1, by omega, by go_num, ?_⟩
          have hw' : wordC false l[k] = true := by simpa [wordC] using hw
          rw [unhide HS, unhide HA, hw']
          rfl
        case measure => simp [intOf]; omega
    · go_wp2
      go_ret
      refine ⟨ret_bool ?_, rfl⟩
      have h := unhide HA
      rw [List.take_of_length_le (by omega)] at h
      exact h.symm

set_option maxRecDepth 10000 in
set_option maxHeartbeats 400000 in
theorem pAllLod_any (l : List UInt8) (w : World) (hl : l.length ≤ 1048576) :
    Calls Tryz.prog 131 #[.string ⟨l.toArray⟩, .func (.func 133) #[] #[]] w fun e w' => e = .returned (.bool (l.all (wordC true))) ∧ w' = w := by
  go_enter Tryz.func131, Tryz.ntmps131
  go_wp2
  go_loop [8] (fun i => ∃ k : Nat, k ≤ l.length ∧ i = .int .i64 k ∧ (l.take k).all (wordC true) = true) (fun i => l.length - (intOf i).toNat)
  case atStart => exact ⟨0, Nat.zero_le _, rfl, rfl⟩
  case round =>
    obtain ⟨k, hk, rfl, hall⟩ := hrel
    have HA := hide hall
    clear hall
    by_cases hlt : k < l.length
    · have HS := hide (all_snoc (wordC true) l k hlt)
      go_wp2_with (go_at_call 133; refine (pLetterOrDigit_any _ _).mono ?_; rintro e w' ⟨rfl, rfl⟩)
      · have hw : (!wordC true l[k]) = true := by assumption
        go_ret
        refine ⟨ret_bool ?_, rfl⟩
        have hw' : wordC true l[k] = false := by simpa using hw
        rw [all_bad hlt hw']
      · have hw : (!wordC true l[k]) = false := by assumption
        go_round
        case rel =>
          refine ⟨k + 1, by omega, by go_num, ?_⟩
          have hw' : wordC true l[k] = true := by simpa using hw
          rw [unhide HS, unhide HA, hw']
          rfl
        case measure => simp [intOf]; omega
    · go_wp2
      go_ret
      refine ⟨ret_bool ?_, rfl⟩
      have h := unhide HA
      rw [List.take_of_length_le (by omega)] at h
      exact h.symm


set_option maxRecDepth 10000 in
set_option maxHeartbeats 400000 in
theorem pName_any (l : List UInt8) (w : World) (hl : l.length ≤ 1048576) :
    Calls Tryz.prog 104 #[.string ⟨l.toArray⟩] w fun e w' => e = .returned (.bool (wordB false l)) ∧ w' = w := by
  go_enter Tryz.func104, Tryz.ntmps104
  go_wp2_with fail
  refine (pWordLength_any l _ hl).mono ?_
  rintro e w1 ⟨rfl, rfl⟩
  cases h : (decide (1 ≤ l.length) && decide (l.length ≤ 6))
  · have HW := hide (show wordB false l = false by rw [wordB, h]; rfl)
    clear h
    go_wp2
    go_ret
    exact ⟨ret_bool (unhide HW).symm, rfl⟩
  · have HW := hide (show wordB false l = l.all (wordC false) by rw [wordB, h]; rfl)
    clear h
    go_wp2_with fail
    refine (pAllLetter_any l _ hl).mono ?_
    rintro e w2 ⟨rfl, rfl⟩
    go_wp2
    go_ret
    exact ⟨ret_bool (unhide HW).symm, rfl⟩

set_option maxRecDepth 10000 in
set_option maxHeartbeats 400000 in
theorem pValue_any (l : List UInt8) (w : World) (hl : l.length ≤ 1048576) :
    Calls Tryz.prog 105 #[.string ⟨l.toArray⟩] w fun e w' => e = .returned (.bool (wordB true l)) ∧ w' = w := by
  go_enter Tryz.func105, Tryz.ntmps105
  go_wp2_with fail
  refine (pWordLength_any l _ hl).mono ?_
  rintro e w1 ⟨rfl, rfl⟩
  cases h : (decide (1 ≤ l.length) && decide (l.length ≤ 6))
  · have HW := hide (show wordB true l = false by rw [wordB, h]; rfl)
    clear h
    go_wp2
    go_ret
    exact ⟨ret_bool (unhide HW).symm, rfl⟩
  · have HW := hide (show wordB true l = l.all (wordC true) by rw [wordB, h]; rfl)
    clear h
    go_wp2_with fail
    refine (pAllLod_any l _ hl).mono ?_
    rintro e w2 ⟨rfl, rfl⟩
    go_wp2
    go_ret
    exact ⟨ret_bool (unhide HW).symm, rfl⟩

/-- the program's own look at labels: so many pairs yet, the name ahead, the text -/
def validGo : Nat → List UInt8 → List UInt8 → Bool
  | 0, _, _ => false
  | n + 1, prev, text =>
    if (!(cut1 61 (cut1 44 text).1).2.2 || !wordB false (cut1 61 (cut1 44 text).1).1 || !wordB true (cut1 61 (cut1 44 text).1).2.1) = true then false
    else if (Op.bytesLess (cut1 61 (cut1 44 text).1).1 prev || ((cut1 61 (cut1 44 text).1).1 == prev)) = true then false
    else if (!(cut1 44 text).2.2) = true then true
    else validGo n (cut1 61 (cut1 44 text).1).1 (cut1 44 text).2.1

def validStep (m : Nat) (prev : List UInt8) (P Q : List UInt8 × List UInt8 × Bool) : Bool :=
  if (!Q.2.2 || !wordB false Q.1 || !wordB true Q.2.1) = true then false
  else if (Op.bytesLess Q.1 prev || (Q.1 == prev)) = true then false
  else if (!P.2.2) = true then true
  else validGo m Q.1 P.2.1
theorem validGo_succ (m : Nat) (prev text : List UInt8) : validGo (m + 1) prev text = validStep m prev (cut1 44 text) (cut1 61 (cut1 44 text).1) := rfl

theorem validStep_bad {m : Nat} {prev p1 p2 q1 q2 : List UInt8} {p3 : Bool} (h1 : wordB false q1 = true) (h2 : wordB true q2 = true) (hb : Op.bytesLess q1 prev = true ∨ (q1 == prev) = true) : validStep m prev (p1, p2, p3) (q1, q2, true) = false := by
  unfold validStep
  rw [if_neg (by simp [h1, h2]), if_pos (by rcases hb with hb | hb <;> simp only [hb] <;> simp)]
theorem validStep_end {m : Nat} {prev p1 p2 q1 q2 : List UInt8} (h1 : wordB false q1 = true) (h2 : wordB true q2 = true) (hb : Op.bytesLess q1 prev = false ∧ (q1 == prev) = false) : validStep m prev (p1, p2, false) (q1, q2, true) = true := by
  unfold validStep
  rw [if_neg (by simp [h1, h2]), if_neg (by simp only [hb.1, hb.2]; simp), if_pos (by rfl)]
theorem validStep_more {m : Nat} {prev p1 p2 q1 q2 : List UInt8} (h1 : wordB false q1 = true) (h2 : wordB true q2 = true) (hb : Op.bytesLess q1 prev = false ∧ (q1 == prev) = false) : validStep m prev (p1, p2, true) (q1, q2, true) = validGo m q1 p2 := by
  unfold validStep
  rw [if_neg (by simp [h1, h2]), if_neg (by simp only [hb.1, hb.2]; simp), if_neg (by simp)]

theorem cut1_len (c : UInt8) (l : List UInt8) : (cut1 c l).1.length ≤ l.length ∧ (cut1 c l).2.1.length ≤ l.length := by
  induction l with
  | nil => simp [cut1]
  | cons x r ih =>
    unfold cut1
    split
    · simp
    · simp; omega

set_option maxRecDepth 10000 in
set_option maxHeartbeats 2000000 in
theorem pValid_any (l : List UInt8) (w : World) (hl : l.length ≤ 1048576) :
    Calls Tryz.prog 73 #[.string ⟨l.toArray⟩] w fun e w' => e = .returned (.bool (validGo 4 [] l)) ∧ ∃ n, w' = w.drewN n := by
  go_enter Tryz.func73, Tryz.ntmps73
  go_wp2
  go_loopw [0, 3, 10] (fun tx pv i wr => ∃ (k : Nat) (text prev : List UInt8), k ≤ 4 ∧ i = .int .i64 k ∧ tx = .string ⟨text.toArray⟩ ∧ pv = .string ⟨prev.toArray⟩ ∧ text.length ≤ 1048576 ∧ validGo 4 [] l = validGo (4 - k) prev text ∧ ∃ n, wr = w.drewN n)
    (fun _ _ i _ => 4 - (intOf i).toNat)
  case atStart => exact ⟨0, l, [], by omega, rfl, rfl, rfl, hl, rfl, 0, rfl⟩
  case round =>
    obtain ⟨k, text, prev, hk, rfl, rfl, rfl, htl, hgo, n, rfl⟩ := hrel
    have HG := hide hgo
    clear hgo
    by_cases hlt : k < 4
    · have hcl := cut1_len 44 text
      have hcl2 := cut1_len 61 (cut1 44 text).1
      have HV := hide (show validGo (4 - k) prev text = validGo (3 - k + 1) prev text by rw [show 4 - k = 3 - k + 1 by omega])
      go_wp2_with fail
      refine (cut_one text 44 _ htl).mono ?_
      rintro e w1 ⟨rfl, n1, rfl⟩
      go_wp2_with fail
      refine (cut_one (cut1 44 text).1 61 _ (by omega)).mono ?_
      rintro e w2 ⟨rfl, n2, rfl⟩
      have HV2 := hide (validGo_succ (3 - k) prev text)
      generalize cut1 44 text = P at *
      generalize cut1 61 P.1 = Q at *
      obtain ⟨p1, p2, p3⟩ := P
      obtain ⟨q1, q2, q3⟩ := Q
      simp only at HV2 hcl hcl2 ⊢
      cases q3 with
      | false =>
        go_wp2
        go_ret
        refine ⟨ret_bool ?_, n + n1 + n2, by simp [World.drewN, Nat.add_assoc]⟩
        rw [unhide HG, unhide HV, unhide HV2]; simp [validStep]
      | true =>
        go_wp2_with fail
        refine (pName_any q1 _ (by omega)).mono ?_
        rintro e w3 ⟨rfl, rfl⟩
        cases h1 : wordB false q1 with
        | false =>
          have H1 := hide h1
          clear h1
          go_wp2
          go_ret
          refine ⟨ret_bool ?_, n + n1 + n2, by simp [World.drewN, Nat.add_assoc]⟩
          rw [unhide HG, unhide HV, unhide HV2]; simp [validStep, unhide H1]
        | true =>
          have H1 := hide h1
          clear h1
          go_wp2_with fail
          refine (pValue_any q2 _ (by omega)).mono ?_
          rintro e w4 ⟨rfl, rfl⟩
          cases h2 : wordB true q2 with
          | false =>
            have H2 := hide h2
            clear h2
            go_wp2
            go_ret
            refine ⟨ret_bool ?_, n + n1 + n2, by simp [World.drewN, Nat.add_assoc]⟩
            rw [unhide HG, unhide HV, unhide HV2]; simp [validStep, unhide H1, unhide H2]
          | true =>
            have H2 := hide h2
            clear h2
            cases p3
            all_goals go_wp2
            · have hb : Op.bytesLess q1 prev = true ∨ (q1 == prev) = true := by assumption
              go_ret
              refine ⟨ret_bool ?_, n + n1 + n2, by simp [World.drewN, Nat.add_assoc]⟩
              rw [unhide HG, unhide HV, unhide HV2, validStep_bad (unhide H1) (unhide H2) hb]
            · have hb : Op.bytesLess q1 prev = false ∧ (q1 == prev) = false := by assumption
              go_ret
              refine ⟨ret_bool ?_, n + n1 + n2, by simp [World.drewN, Nat.add_assoc]⟩
              rw [unhide HG, unhide HV, unhide HV2, validStep_end (unhide H1) (unhide H2) hb]
            · have hb : Op.bytesLess q1 prev = true ∨ (q1 == prev) = true := by assumption
              go_ret
              refine ⟨ret_bool ?_, n + n1 + n2, by simp [World.drewN, Nat.add_assoc]⟩
              rw [unhide HG, unhide HV, unhide HV2, validStep_bad (unhide H1) (unhide H2) hb]
            · have hb : Op.bytesLess q1 prev = false ∧ (q1 == prev) = false := by assumption
              go_roundw
              case rel =>
                refine ⟨k + 1, p2, q1, by omega, by go_num, rfl, rfl, by omega, ?_, n + n1 + n2, by simp [World.drewN, Nat.add_assoc]⟩
                rw [unhide HG, unhide HV, unhide HV2, validStep_more (unhide H1) (unhide H2) hb]
                rw [show 4 - (k + 1) = 3 - k by omega]
              case measure => simp [intOf]; omega
    · go_wp2
      go_ret
      refine ⟨ret_bool ?_, n, rfl⟩
      rw [unhide HG, show 4 - k = 0 by omega, validGo]

end Go.Proofs.YtbljamcdaoofbaaGreatDoor

/- The program's look at labels and the reference's come to one. -/
namespace Go.Proofs.YtbljamcdaoofbaaGreatDoor

theorem foldl_cut (c : UInt8) (l : List UInt8) : ∀ (d : List (List UInt8)) (cur : List UInt8),
    l.foldl (fun st x => if x = c then (st.1 ++ [st.2], []) else (st.1, st.2 ++ [x])) (d, cur) =
      (d ++ (match cutSt c l with | ([], _) => ([] : List (List UInt8)) | (x :: xs, _) => (cur ++ x) :: xs), match cutSt c l with | ([], y) => cur ++ y | (_ :: _, y) => y) := by
  induction l with
  | nil => intro d cur; simp [cutSt]
  | cons x l ih =>
    intro d cur
    rw [List.foldl_cons]
    by_cases h : x = c
    · rw [if_pos h, ih]
      have h2 : cutSt c (x :: l) = ([] :: (match cutSt c l with | ([], _) => ([] : List (List UInt8)) | (x :: xs, _) => ([] ++ x) :: xs), match cutSt c l with | ([], y) => [] ++ y | (_ :: _, y) => y) := by
        rw [cutSt, List.foldl_cons, if_pos h, ih]; simp
      rw [h2]
      simp
    · rw [if_neg h, ih]
      have h2 : cutSt c (x :: l) = ((match cutSt c l with | ([], _) => ([] : List (List UInt8)) | (z :: xs, _) => ([x] ++ z) :: xs), match cutSt c l with | ([], y) => [x] ++ y | (_ :: _, y) => y) := by
        rw [cutSt, List.foldl_cons, if_neg h, ih]; simp
      rw [h2]
      rcases cutSt c l with ⟨_ | ⟨z, xs⟩, y⟩ <;> simp

/-- the pieces of a text: the first one, and those of what is behind it -/
theorem cutL_cons_hit (c : UInt8) (l : List UInt8) : cutL c (c :: l) = [] :: cutL c l := by
  have h2 : cutSt c (c :: l) = ([] :: (match cutSt c l with | ([], _) => ([] : List (List UInt8)) | (x :: xs, _) => ([] ++ x) :: xs), match cutSt c l with | ([], y) => [] ++ y | (_ :: _, y) => y) := by
    rw [cutSt, List.foldl_cons, if_pos rfl, foldl_cut]; simp
  rw [cutL, cutL, h2]
  rcases cutSt c l with ⟨_ | ⟨z, xs⟩, y⟩ <;> simp
theorem cutL_cons_miss (c x : UInt8) (l : List UInt8) (h : x ≠ c) : cutL c (x :: l) = match cutL c l with | [] => [] | y :: ys => (x :: y) :: ys := by
  have h2 : cutSt c (x :: l) = ((match cutSt c l with | ([], _) => ([] : List (List UInt8)) | (z :: xs, _) => ([x] ++ z) :: xs), match cutSt c l with | ([], y) => [x] ++ y | (_ :: _, y) => y) := by
    rw [cutSt, List.foldl_cons, if_neg h, foldl_cut]; simp
  rw [cutL, cutL, h2]
  rcases cutSt c l with ⟨_ | ⟨z, xs⟩, y⟩ <;> simp

theorem cutL_cut1 (c : UInt8) (l : List UInt8) : cutL c l = (cut1 c l).1 :: (if (cut1 c l).2.2 then cutL c (cut1 c l).2.1 else []) := by
  induction l with
  | nil => simp [cut1, cutL, cutSt]
  | cons x l ih =>
    by_cases h : x = c
    · subst h
      rw [cutL_cons_hit]
      simp [cut1]
    · rw [cutL_cons_miss c x l h, ih]
      simp [cut1, h]

/-- what stands behind a sign that may not be in a value: it is none, if that sign stands there again -/
theorem cut1_not_word (c : UInt8) (l : List UInt8) (hc : wordC true c = false) (h : (cut1 c l).2.2 = true) : wordB true l = false := by
  have hm : ∀ l : List UInt8, (cut1 c l).2.2 = true → c ∈ l := by
    intro l
    induction l with
    | nil => simp [cut1]
    | cons x l ih =>
      intro h
      by_cases e : x = c
      · simp [e]
      · simp [cut1, e] at h
        exact List.mem_cons_of_mem _ (ih h)
  have : l.all (wordC true) = false := by
    rw [Bool.eq_false_iff]
    intro hh
    rw [List.all_eq_true] at hh
    have := hh _ (hm l h)
    rw [hc] at this; cases this
  simp [wordB, this]

theorem pairL_eq (p : List UInt8) : (pairL p).2.2 = ((cut1 61 p).2.2 && wordB false (cut1 61 p).1 && wordB true (cut1 61 p).2.1) ∧ ((pairL p).2.2 = true → (pairL p).1 = (cut1 61 p).1) := by
  unfold pairL
  rw [cutL_cut1]
  generalize hq : cut1 61 p = q
  obtain ⟨q1, q2, q3⟩ := q
  cases q3
  · simp
  · simp only [if_true]
    rw [cutL_cut1]
    cases h : (cut1 61 q2).2.2
    · have hr : (cut1 61 q2).1 = q2 := by
        rcases cut1_index 61 q2 with ⟨_, h2⟩ | ⟨i, _, _, h3⟩
        · rw [h2]
        · rw [h3] at h; cases h
      simp [hr]
    · have hn := cut1_not_word 61 q2 (by decide) h
      have hne : ∃ z zs, cutL 61 (cut1 61 q2).2.1 = z :: zs := ⟨_, _, cutL_cut1 _ _⟩
      obtain ⟨z, zs, hz⟩ := hne
      simp [hz, hn]

theorem less_nil (a : List UInt8) : Op.bytesLess a [] = false := by cases a <;> rfl

theorem wordB_ne {dg : Bool} {a : List UInt8} (h : wordB dg a = true) : (a == ([] : List UInt8)) = false := by
  cases a with
  | nil => simp [wordB] at h
  | cons x a => rfl

/-- with n pairs yet: the program's look is the reference's, and that there are not more -/
theorem valid_eq (n : Nat) : ∀ (first : Bool) (prev text : List UInt8), (first = true → prev = []) →
    validGo n prev text = (labelsGo first prev (cutL 44 text) && decide ((cutL 44 text).length ≤ n)) := by
  induction n with
  | zero =>
    intro first prev text _
    have : ¬ (cutL 44 text).length ≤ 0 := by simp [cutL]
    simp [validGo, this]
  | succ n ih =>
    intro first prev text hf
    rw [validGo_succ, cutL_cut1 44 text]
    generalize cut1 44 text = P
    obtain ⟨p1, p2, p3⟩ := P
    obtain ⟨e1, e2⟩ := pairL_eq p1
    simp only [labelsGo]
    generalize cut1 61 p1 = Q at *
    obtain ⟨q1, q2, q3⟩ := Q
    simp only at e1 e2
    cases hok : (pairL p1).2.2
    · rw [hok] at e1
      have : validStep n prev (p1, p2, p3) (q1, q2, q3) = false := by
        unfold validStep
        rw [if_pos]
        revert e1
        cases q3 <;> cases wordB false q1 <;> cases wordB true q2 <;> simp
      rw [this]
      simp
    · rw [hok] at e1
      have hn := e2 hok
      have h3 : q3 = true := by revert e1; cases q3 <;> simp
      have h1 : wordB false q1 = true := by revert e1; cases wordB false q1 <;> simp
      have h2 : wordB true q2 = true := by revert e1; cases wordB true q2 <;> simp
      subst h3
      rw [hn]
      by_cases hb : (Op.bytesLess q1 prev || (q1 == prev)) = true
      · have hff : first = false := by
          cases first with
          | false => rfl
          | true =>
            rw [hf rfl, less_nil, wordB_ne h1] at hb
            cases hb
        rw [validStep_bad h1 h2 (by simpa using hb), if_pos (by rw [hff]; simp [hb])]
        simp
      · have hb' : Op.bytesLess q1 prev = false ∧ (q1 == prev) = false := by
          revert hb
          cases Op.bytesLess q1 prev <;> cases (q1 == prev) <;> simp
        rw [if_neg (by rw [hb'.1, hb'.2]; simp)]
        cases p3
        · rw [validStep_end h1 h2 hb']
          simp [labelsGo]
        · rw [validStep_more h1 h2 hb', ih false q1 p2 (by simp)]
          simp

theorem valid_labels (l : List UInt8) : validGo 4 [] l = labelsB l := valid_eq 4 true [] l (fun _ => rfl)

end Go.Proofs.YtbljamcdaoofbaaGreatDoor

/- The reference's store in memory, and what its calls do to it. -/
namespace Go.Proofs.YtbljamcdaoofbaaGreatDoor
open Go.RowKit

abbrev Strm := List UInt8 × Int
abbrev Rw := List UInt8 × Int × List UInt8
def cellsS (x : Strm) : List Value := [SV x.1, .int .i64 x.2]
def cellsR (x : Rw) : List Value := [SV x.1, .int .i64 x.2.1, SV x.2.2]

/-- The reference's store lies at block p: its streams S, its lines L; all its blocks are among F. -/
structure RefAt (w : World) (F : Nat → Prop) (p : Nat) (S : List Strm) (L : List Rw) (vS vL : Value) : Prop where
  block : w.heap[p]? = some (.cells #[vS, vL] 114 (0, 0))
  rowS : w.ownsRow 0 155 2 vS S.length (S.flatMap cellsS)
  rowL : w.ownsRow 0 38 3 vL L.length (L.flatMap cellsR)
  inF : F p
  inS : ∀ g, vS.ownBlock = some g → F g
  inL : ∀ g, vL.ownBlock = some g → F g

theorem cellsS_at (S : List Strm) (k : Nat) (h : k < S.length) : (S.flatMap cellsS)[k * 2]? = some (SV S[k].1) ∧ (S.flatMap cellsS)[k * 2 + 1]? = some (.int .i64 S[k].2) := by
  induction S generalizing k with
  | nil => simp at h
  | cons x S ih =>
    rw [List.flatMap_cons]
    cases k with
    | zero => simp [cellsS]
    | succ k =>
      have := ih k (by simpa using h)
      simp only [cellsS, List.cons_append, List.nil_append, Nat.add_mul, Nat.one_mul, List.getElem?_cons_succ, List.getElem_cons_succ] at this ⊢
      exact this

theorem cellsR_at (L : List Rw) (k : Nat) (h : k < L.length) : (L.flatMap cellsR)[k * 3]? = some (SV L[k].1) ∧ (L.flatMap cellsR)[k * 3 + 1]? = some (.int .i64 L[k].2.1) ∧ (L.flatMap cellsR)[k * 3 + 2]? = some (SV L[k].2.2) := by
  induction L generalizing k with
  | nil => simp at h
  | cons x S ih =>
    rw [List.flatMap_cons]
    cases k with
    | zero => simp [cellsR]
    | succ k =>
      have := ih k (by simpa using h)
      simp only [cellsR, List.cons_append, List.nil_append, Nat.add_mul, Nat.one_mul, List.getElem?_cons_succ, List.getElem_cons_succ] at this ⊢
      exact this

def timeB (t : Int) : Bool := decide (0 ≤ t) && decide (t ≤ 1000000)

set_option maxRecDepth 10000 in
set_option maxHeartbeats 400000 in
theorem times_any (t : Int) (w : World) :
    Calls Tryz.prog 89 #[.int .i64 t] w fun e w' => e = .returned (.bool (timeB t)) ∧ w' = w := by
  by_cases h : 0 ≤ t
  all_goals
    go_enter Tryz.func89, Tryz.ntmps89
    go_wp2
    go_ret
    exact ⟨by simp [timeB, h]; try omega, rfl⟩

/-- the place of a stream among some; their number: it is not there -/
def at_ (S : List Strm) (l : List UInt8) : Nat := S.findIdx (fun y => y.1 == l)
def whereI (S : List Strm) (l : List UInt8) : Int := if at_ S l < S.length then at_ S l else -1

theorem cell_of_block2 {w : World} {p : Nat} {v0 v1 : Value} {t : TypeId} (h : w.heap[p]? = some (.cells #[v0, v1] t (0, 0))) :
    w.cell? ⟨p, 0, none⟩ = some v0 ∧ w.cell? ⟨p, 1, none⟩ = some v1 ∧ (∀ j, w.frozen? ⟨p, j, none⟩ = false) := by
  refine ⟨by simp [World.cell?, h], by simp [World.cell?, h], fun j => by simp [World.frozen?, h]⟩

set_option maxRecDepth 10000 in
set_option maxHeartbeats 1000000 in
theorem where_any {F : Nat → Prop} {p : Nat} {S : List Strm} {L : List Rw} {vS vL : Value} (l : List UInt8) (w : World) (hr : RefAt w F p S L vS vL) (hS : S.length ≤ 6) :
    Calls Tryz.prog 90 #[.pointer (some ⟨p, 0, none⟩), .string ⟨l.toArray⟩] w fun e w' => e = .returned (.int .i64 (whereI S l)) ∧ w' = w := by
  obtain ⟨ao, cap, rfl, hnc, hcm, hnil, hao, hcell, hfz⟩ := owns_form hr.rowS
  have hb := hr.block
  obtain ⟨c0, -, -⟩ := cell_of_block2 hb
  clear hb hr hfz
  go_enter Tryz.func90, Tryz.ntmps90
  go_wp2
  go_loop [5] (fun i => ∃ k : Nat, k ≤ S.length ∧ i = .int .i64 k ∧ (∀ j (h : j < S.length), j < k → (S[j].1 == l) = false)) (fun i => S.length - (intOf i).toNat)
  case atStart => exact ⟨0, Nat.zero_le _, rfl, fun j _ h => by omega⟩
  case round =>
    obtain ⟨k, hk, rfl, hno⟩ := hrel
    have HN := hide hno
    clear hno
    by_cases hlt : k < S.length
    · obtain ⟨⟨g, o, sp⟩, rfl⟩ : ∃ a, ao = some a := by
        cases ao with
        | none => have := (hnil rfl).1; omega
        | some a => exact ⟨a, rfl⟩
      obtain ⟨ho, hsp, -, hgw⟩ := hao _ rfl
      simp only at ho hsp hgw
      subst ho hsp
      have hc := hcell _ rfl (k * 2) (by omega)
      rw [(cellsS_at S k hlt).1] at hc
      clear hcell hao hnil
      go_wp2
      · go_ret
        refine ⟨ret_int ?_, rfl⟩
        have hf : at_ S l = k := by
          unfold at_
          rw [List.findIdx_eq hlt]
          exact ⟨‹(S[k].1 == l) = true›, fun j hj => unhide HN j (by omega) hj⟩
        rw [whereI, hf, if_pos hlt]
      · go_round
        case rel =>
          refine ⟨k + 1, by omega, by go_num, fun j hj hjk => ?_⟩
          by_cases e : j = k
          · subst e; assumption
          · exact unhide HN j hj (by omega)
        case measure => simp [intOf]; omega
    · go_wp2
      go_ret
      refine ⟨ret_int ?_, rfl⟩
      have hf : at_ S l = S.length := by
        unfold at_
        rw [List.findIdx_eq_length]
        intro x hx
        obtain ⟨j, hj, rfl⟩ := List.getElem_of_mem hx
        exact unhide HN j hj (by omega)
      rw [whereI, hf, if_neg (by omega)]

end Go.Proofs.YtbljamcdaoofbaaGreatDoor

/- The reference's Push: what it answers, and what it leaves in memory. -/
namespace Go.Proofs.YtbljamcdaoofbaaGreatDoor
open Go.RowKit

theorem Tryz.info155 : (Tryz.prog.info? 155).map (fun i => (i.zero, i.size, i.bytes)) = some (some (.agg #[.string ByteArray.empty, .int .i64 0]), 2, 24) := by kernel_rfl
theorem Tryz.info38 : (Tryz.prog.info? 38).map (fun i => (i.zero, i.size, i.bytes)) = some (some (.agg #[.string ByteArray.empty, .int .i64 0, .string ByteArray.empty]), 3, 40) := by kernel_rfl

/-- a row stays where its block stays -/
theorem ownsRow_same {w w' : World} {base : Nat} {e : TypeId} {size : Nat} {v : Value} {n : Nat} {xs : List Value} (h : w.ownsRow base e size v n xs)
    (hb : ∀ g, v.ownBlock = some g → w'.heap[g]? = w.heap[g]?) : w'.ownsRow base e size v n xs := by
  refine ⟨h.1, ?_⟩
  rcases h.2 with h2 | ⟨g, cap, cur, rfl, hg, hh, r⟩
  · exact .inl h2
  · exact .inr ⟨g, cap, cur, rfl, hg, by rw [hb g rfl]; exact hh, r⟩

theorem ownsRow_type {w : World} {base : Nat} {e : TypeId} {size : Nat} {v : Value} {n : Nat} {xs : List Value} (h : w.ownsRow base e size v n xs) {g : Nat} (hv : v.ownBlock = some g) :
    g < w.heap.size ∧ ∃ cur, w.heap[g]? = some (.cells cur e (0, 0)) := by
  rcases h.2 with ⟨rfl, _⟩ | ⟨g', cap, cur, rfl, hg, hh, r⟩
  · simp [Value.ownBlock] at hv
  · simp [Value.ownBlock] at hv
    subst hv
    exact ⟨(Array.getElem?_eq_some_iff.1 hh).1, cur, hh⟩

/-- two rows, or a row and a block, of different types lie in different blocks -/
theorem ne_of_type {w : World} {a b : Nat} {c c' : Array Value} {e e' : TypeId} {f f' : Nat × Nat} (ha : w.heap[a]? = some (.cells c e f)) (hb : w.heap[b]? = some (.cells c' e' f')) (h : e ≠ e') : a ≠ b := by
  intro hab
  subst hab
  rw [ha] at hb
  simp at hb
  exact h hb.2.1

theorem RefAt.keep {w w' : World} {F : Nat → Prop} {p : Nat} {S : List Strm} {L : List Rw} {vS vL : Value} (h : RefAt w F p S L vS vL)
    (hk : ∀ b, b < w.heap.size → F b → w'.heap[b]? = w.heap[b]?) : RefAt w' F p S L vS vL := by
  refine ⟨?_, ?_, ?_, h.inF, h.inS, h.inL⟩
  · rw [hk p (Array.getElem?_eq_some_iff.1 h.block).1 h.inF]; exact h.block
  · exact ownsRow_same h.rowS fun g hg => hk g (ownsRow_type h.rowS hg).1 (h.inS g hg)
  · exact ownsRow_same h.rowL fun g hg => hk g (ownsRow_type h.rowL hg).1 (h.inL g hg)

theorem RefAt.weaken {w : World} {F G : Nat → Prop} {p : Nat} {S : List Strm} {L : List Rw} {vS vL : Value} (h : RefAt w F p S L vS vL) (hFG : ∀ b, F b → G b) : RefAt w G p S L vS vL :=
  ⟨h.block, h.rowS, h.rowL, hFG _ h.inF, fun g hg => hFG _ (h.inS g hg), fun g hg => hFG _ (h.inL g hg)⟩

/-- one cell of a block of two is written -/
theorem block2_set0 {w : World} {p : Nat} {v0 v1 : Value} {t : TypeId} (h : w.heap[p]? = some (.cells #[v0, v1] t (0, 0))) (u : Value) :
    (w.setCell ⟨p, 0, none⟩ u).heap[p]? = some (.cells #[u, v1] t (0, 0)) := by
  simp [World.setCell, Array.getElem?_modify, h]
theorem block2_set1 {w : World} {p : Nat} {v0 v1 : Value} {t : TypeId} (h : w.heap[p]? = some (.cells #[v0, v1] t (0, 0))) (u : Value) :
    (w.setCell ⟨p, 1, none⟩ u).heap[p]? = some (.cells #[v0, u] t (0, 0)) := by
  simp [World.setCell, Array.getElem?_modify, h]

/-- F, and all that is new -/
def Plus (F : Nat → Prop) (w : World) : Nat → Prop := fun b => F b ∨ w.heap.size ≤ b

theorem RefAt.appS {w w2 : World} {F : Nat → Prop} {p : Nat} {S : List Strm} {L : List Rw} {vS vL v' : Value} {o : Obj} {y : Strm} (h : RefAt w F p S L vS vL)
    (hg : (w.alloc o).grownBy w2 vS.ownBlock) (ho : w2.ownsRow 0 155 2 v' (S.length + 1) (S.flatMap cellsS ++ cellsS y))
    (hw : v'.ownBlock = vS.ownBlock ∨ v'.ownBlock = some (w.alloc o).heap.size) :
    RefAt (w2.setCell ⟨p, 0, none⟩ v') (Plus F w) p (S ++ [y]) L v' vL ∧ w2.cell? ⟨p, 0, none⟩ = some vS ∧ w2.frozen? ⟨p, 0, none⟩ = false ∧ Moved F w (w2.setCell ⟨p, 0, none⟩ v') := by
  have hpl := (Array.getElem?_eq_some_iff.1 h.block).1
  have hm : Moved F w w2 := ((Moved.refl F w).alloc o).grown hg (fun k hk => .inl (h.inS k hk))
  have hp2 : w2.heap[p]? = some (.cells #[vS, vL] 114 (0, 0)) := by
    rw [hg.block p (by simp; omega) (fun e => ?_), Go.RowKit.Below.heap_alloc w o p hpl, h.block]
    obtain ⟨_, cur, hc⟩ := ownsRow_type h.rowS e.symm
    exact ne_of_type hc h.block (by decide) rfl
  obtain ⟨c0, _, hf⟩ := cell_of_block2 hp2
  have hL2 : w2.ownsRow 0 38 3 vL L.length (L.flatMap cellsR) := ownsRow_same h.rowL fun g hgL => by
    obtain ⟨hgl, cur, hc⟩ := ownsRow_type h.rowL hgL
    rw [hg.block g (by simp; omega) (fun e => ?_), Go.RowKit.Below.heap_alloc w o g hgl]
    obtain ⟨_, cur', hc'⟩ := ownsRow_type h.rowS e.symm
    exact ne_of_type hc hc' (by decide) rfl
  refine ⟨⟨block2_set0 hp2 v', ?_, ?_, .inl h.inF, ?_, fun g hg => .inl (h.inL g hg)⟩, c0, hf 0, hm.setCell (.inl h.inF) _⟩
  · rw [List.flatMap_append, List.length_append, List.length_singleton]
    simp only [List.flatMap_cons, List.flatMap_nil, List.append_nil]
    refine ownsRow_same ho fun g hgo => Below.heap_setCell _ _ _ _ ?_
    obtain ⟨_, cur, hc⟩ := ownsRow_type ho hgo
    exact ne_of_type hc hp2 (by decide)
  · refine ownsRow_same hL2 fun g hgo => Below.heap_setCell _ _ _ _ ?_
    obtain ⟨_, cur, hc⟩ := ownsRow_type hL2 hgo
    exact ne_of_type hc hp2 (by decide)
  · intro g hgo
    rcases hw with hw | hw
    · exact .inl (h.inS g (hw ▸ hgo))
    · rw [hgo] at hw
      simp at hw
      right; omega

theorem RefAt.appL {w w2 : World} {F : Nat → Prop} {p : Nat} {S : List Strm} {L : List Rw} {vS vL v' : Value} {o : Obj} {y : Rw} (h : RefAt w F p S L vS vL)
    (hg : (w.alloc o).grownBy w2 vL.ownBlock) (ho : w2.ownsRow 0 38 3 v' (L.length + 1) (L.flatMap cellsR ++ cellsR y))
    (hw : v'.ownBlock = vL.ownBlock ∨ v'.ownBlock = some (w.alloc o).heap.size) :
    RefAt (w2.setCell ⟨p, 1, none⟩ v') (Plus F w) p S (L ++ [y]) vS v' ∧ w2.cell? ⟨p, 1, none⟩ = some vL ∧ w2.frozen? ⟨p, 1, none⟩ = false ∧ Moved F w (w2.setCell ⟨p, 1, none⟩ v') := by
  have hpl := (Array.getElem?_eq_some_iff.1 h.block).1
  have hm : Moved F w w2 := ((Moved.refl F w).alloc o).grown hg (fun k hk => .inl (h.inL k hk))
  have hp2 : w2.heap[p]? = some (.cells #[vS, vL] 114 (0, 0)) := by
    rw [hg.block p (by simp; omega) (fun e => ?_), Go.RowKit.Below.heap_alloc w o p hpl, h.block]
    obtain ⟨_, cur, hc⟩ := ownsRow_type h.rowL e.symm
    exact ne_of_type hc h.block (by decide) rfl
  obtain ⟨_, c1, hf⟩ := cell_of_block2 hp2
  have hS2 : w2.ownsRow 0 155 2 vS S.length (S.flatMap cellsS) := ownsRow_same h.rowS fun g hgL => by
    obtain ⟨hgl, cur, hc⟩ := ownsRow_type h.rowS hgL
    rw [hg.block g (by simp; omega) (fun e => ?_), Go.RowKit.Below.heap_alloc w o g hgl]
    obtain ⟨_, cur', hc'⟩ := ownsRow_type h.rowL e.symm
    exact ne_of_type hc hc' (by decide) rfl
  refine ⟨⟨block2_set1 hp2 v', ?_, ?_, .inl h.inF, fun g hg => .inl (h.inS g hg), ?_⟩, c1, hf 1, hm.setCell (.inl h.inF) _⟩
  · refine ownsRow_same hS2 fun g hgo => Below.heap_setCell _ _ _ _ ?_
    obtain ⟨_, cur, hc⟩ := ownsRow_type hS2 hgo
    exact ne_of_type hc hp2 (by decide)
  · rw [List.flatMap_append, List.length_append, List.length_singleton]
    simp only [List.flatMap_cons, List.flatMap_nil, List.append_nil]
    refine ownsRow_same ho fun g hgo => Below.heap_setCell _ _ _ _ ?_
    obtain ⟨_, cur, hc⟩ := ownsRow_type ho hgo
    exact ne_of_type hc hp2 (by decide)
  · intro g hgo
    rcases hw with hw | hw
    · exact .inl (h.inL g (hw ▸ hgo))
    · rw [hgo] at hw
      simp at hw
      right; omega

theorem cellsS_set (S : List Strm) (k : Nat) (t : Int) (h : k < S.length) : (S.flatMap cellsS).set (k * 2 + 1) (.int .i64 t) = (S.set k (S[k].1, t)).flatMap cellsS := by
  induction S generalizing k with
  | nil => simp at h
  | cons x S ih =>
    cases k with
    | zero => simp [cellsS]
    | succ k =>
      have := ih k (by simpa using h)
      simp only [List.flatMap_cons, cellsS, List.cons_append, List.nil_append, Nat.add_mul, Nat.one_mul, List.set_cons_succ, List.getElem_cons_succ] at this ⊢
      rw [this]

theorem RefAt.setLast {w : World} {F : Nat → Prop} {p g cap n : Nat} {S : List Strm} {L : List Rw} {vL : Value} {k : Nat} (t : Int) (h : RefAt w F p S L (.slice (some ⟨g, 0, none⟩) n cap) vL) (hk : k < S.length) :
    RefAt (w.setCell ⟨g, k * 2 + 1, none⟩ (.int .i64 t)) F p (S.set k (S[k].1, t)) L (.slice (some ⟨g, 0, none⟩) n cap) vL ∧ Moved F w (w.setCell ⟨g, k * 2 + 1, none⟩ (.int .i64 t)) := by
  obtain ⟨hgl, cur, hc⟩ := ownsRow_type h.rowS (g := g) rfl
  have hn : n = S.length := by
    rcases h.rowS.2 with ⟨h', _⟩ | ⟨g', cap', cur', h', _⟩
    · simp at h'
    · simp at h'; exact h'.2.1
  subst hn
  refine ⟨⟨?_, ?_, ?_, h.inF, h.inS, h.inL⟩, (Moved.refl F w).setCell (.inl (h.inS g rfl)) _⟩
  · rw [Go.RowKit.Below.heap_setCell _ _ _ _ (ne_of_type h.block hc (by decide))]; exact h.block
  · have := (h.rowS.stored (k * 2 + 1) (.int .i64 t)).1
    rw [cellsS_set S k t hk] at this
    simpa using this
  · refine ownsRow_same h.rowL fun g' hgo => Go.RowKit.Below.heap_setCell _ _ _ _ ?_
    obtain ⟨_, cur', hc'⟩ := ownsRow_type h.rowL hgo
    exact ne_of_type hc' hc (by decide)

def pushR (S : List Strm) (L : List Rw) (l : List UInt8) (t : Int) (x : List UInt8) : Int × List Strm × List Rw :=
  if labelsB l = false then (1, S, L)
  else if timeB t = false then (2, S, L)
  else if 40 < x.length then (3, S, L)
  else if h : at_ S l < S.length then
    if t < S[at_ S l].2 then (4, S, L)
    else if 300 ≤ L.length then (6, S, L)
    else (0, S.set (at_ S l) (S[at_ S l].1, t), L ++ [(l, t, x)])
  else if 6 ≤ S.length then (5, S, L)
  else if 300 ≤ L.length then (6, S, L)
  else (0, S ++ [(l, t)], L ++ [(l, t, x)])

theorem Plus.up {F : Nat → Prop} {w W : World} (h : w.heap.size ≤ W.heap.size) : ∀ b, Plus F W b → Plus F w b := by
  rintro b (hb | hb)
  · exact .inl hb
  · exact .inr (by omega)

set_option maxRecDepth 10000 in
set_option maxHeartbeats 4000000 in
theorem refPush_any {F : Nat → Prop} {p : Nat} {S : List Strm} {L : List Rw} {vS vL : Value} (l x : List UInt8) (t : Int) (w : World) (hr : RefAt w F p S L vS vL) (hS : S.length ≤ 6) (hL : L.length ≤ 300) (hl : l.length ≤ 1048576) (hx : x.length ≤ 1048576) :
    Calls Tryz.prog 56 #[.pointer (some ⟨p, 0, none⟩), .string ⟨l.toArray⟩, .int .i64 t, .string ⟨x.toArray⟩] w fun e w' =>
      e = .returned (.int .i64 (pushR S L l t x).1) ∧ (∃ vS' vL', RefAt w' (Plus F w) p (pushR S L l t x).2.1 (pushR S L l t x).2.2 vS' vL') ∧ Moved F w w' := by
  generalize hres : pushR S L l t x = res
  have HR := hide hres
  clear hres
  go_enter Tryz.func56, Tryz.ntmps56
  go_wp2_with fail
  refine (isLabels_l l _ hl).mono ?_
  rintro e w1 ⟨rfl, hb1⟩
  have hm1 : Moved F w w1 := Moved.of_below hb1
  have hr1 : RefAt w1 F p S L vS vL := hr.keep fun b hb _ => hb1.block b hb
  go_wp2_with fail
  refine (times_any t _).mono ?_
  rintro e w2 ⟨rfl, rfl⟩
  go_wp2_with fail
  refine (where_any l _ hr1 hS).mono ?_
  rintro e w3 ⟨rfl, rfl⟩
  have hr1p := hr1.weaken (G := Plus F w) (fun b hb => .inl hb)
  cases h1 : labelsB l with
  | false =>
    go_wp2
    go_ret
    rw [← unhide HR, pushR, if_pos h1]
    exact ⟨rfl, ⟨_, _, hr1p⟩, hm1⟩
  | true =>
    cases h2 : timeB t with
    | false =>
      go_wp2
      go_ret
      rw [← unhide HR, pushR, if_neg (by simp [h1]), if_pos h2]
      exact ⟨rfl, ⟨_, _, hr1p⟩, hm1⟩
    | true =>
      by_cases h3 : (40 : Int) < x.length
      · go_wp2
        go_ret
        rw [← unhide HR, pushR, if_neg (by simp [h1]), if_neg (by simp [h2]), if_pos (by omega)]
        exact ⟨rfl, ⟨_, _, hr1p⟩, hm1⟩
      · obtain ⟨i0, hi0, hz0, hs0, hb0⟩ := info_parts Tryz.info155
        obtain ⟨i1, hi1, hz1, hs1, hb1'⟩ := info_parts Tryz.info38
        obtain ⟨c0, c1, fp⟩ := cell_of_block2 hr1.block
        obtain ⟨aL, capL, rfl, -, -, -, -, -, -⟩ := owns_form hr1.rowL
        by_cases hk : at_ S l < S.length
        · have hpos : 0 < S.length := by omega
          obtain ⟨g, cap, rfl, -, hgw, hnc, hcm, hcell, hfz⟩ := owns_open hr1.rowS hpos
          have hw : whereI S l = (at_ S l : Int) := by rw [whereI, if_pos hk]
          rw [hw]
          clear hw
          have hres : pushR S L l t x = if t < S[at_ S l].2 then (4, S, L) else if 300 ≤ L.length then (6, S, L) else (0, S.set (at_ S l) (S[at_ S l].1, t), L ++ [(l, t, x)]) := by
            rw [pushR, if_neg (by simp [h1]), if_neg (by simp [h2]), if_neg (by omega), dif_pos hk]
          have HR2 := hide (hres.symm.trans (unhide HR))
          clear hres HR
          generalize at_ S l = k at *
          have hc := hcell (k * 2 + 1) (by omega)
          rw [(cellsS_at S k hk).2] at hc
          have hf := hfz (k * 2 + 1)
          clear hcell hfz
          by_cases h4 : t < S[k].2
          · go_wp2
            go_ret
            rw [← unhide HR2, if_pos h4]
            exact ⟨rfl, ⟨_, _, hr1p⟩, hm1⟩
          · by_cases h6 : (300 : Int) ≤ L.length
            · go_wp2
              go_ret
              rw [← unhide HR2, if_neg (by omega), if_pos (by omega)]
              exact ⟨rfl, ⟨_, _, hr1p⟩, hm1⟩
            · go_upto_region 20 with fail
              obtain ⟨hrW, hmW⟩ := hr1.setLast t hk
              generalize w3.setCell ⟨g, k * 2 + 1, none⟩ (.int .i64 t) = W at *
              obtain ⟨cW0, cW1, fW⟩ := cell_of_block2 hrW.block
              go_wp2_with (at_builtin; refine wpList_append_here _ rfl (.tmp 92) (.tmp 97) 28 rfl 38 i1 (.agg #[.string ByteArray.empty, .int .i64 0, .string ByteArray.empty]) 3 40 Tryz.underlying28 hi1 hz1 hs1 hb1' rfl (by decide) _ _ _ rfl (hrW.rowL.alloc _) (some ⟨W.heap.size, 0, none⟩) 1 1 (cellsR (l, t, x)) rfl rfl (by intro e; cases e) (cells_new W _ _) (by intro u hu; simp [cellsR] at hu; rcases hu with rfl | rfl | rfl <;> rfl) (by unfold maxLen; omega) (by omega) ?_; intro v2 w4 hown4 hgrow4 hwh4; obtain ⟨a2, cap2, rfl, -, -, -, -, -, -⟩ := owns_form hown4; obtain ⟨hrf, cL, fL, hmf⟩ := hrW.appL hgrow4 hown4 hwh4; clear hgrow4 hown4 hwh4)
              go_ret
              rw [← unhide HR2, if_neg (by omega), if_neg (by omega)]
              exact ⟨rfl, ⟨_, _, hrf.weaken (Plus.up (by have := hm1.size; have := hmW.size; omega))⟩, (hm1.trans hmW (fun _ h => .inl h)).trans hmf (fun _ h => .inl h)⟩
        · have hw : whereI S l = -1 := by rw [whereI, if_neg hk]
          rw [hw]
          clear hw
          have hres : pushR S L l t x = if 6 ≤ S.length then (5, S, L) else if 300 ≤ L.length then (6, S, L) else (0, S ++ [(l, t)], L ++ [(l, t, x)]) := by
            rw [pushR, if_neg (by simp [h1]), if_neg (by simp [h2]), if_neg (by omega), dif_neg hk]
          have HR2 := hide (hres.symm.trans (unhide HR))
          clear hres HR hk
          obtain ⟨aS, capS, rfl, -, -, -, -, -, -⟩ := owns_form hr1.rowS
          by_cases h5 : (6 : Int) ≤ S.length
          · go_wp2
            go_ret
            rw [← unhide HR2, if_pos (by omega)]
            exact ⟨rfl, ⟨_, _, hr1p⟩, hm1⟩
          · by_cases h6 : (300 : Int) ≤ L.length
            · go_wp2
              go_ret
              rw [← unhide HR2, if_neg (by omega), if_pos (by omega)]
              exact ⟨rfl, ⟨_, _, hr1p⟩, hm1⟩
            · go_upto_region 19 with (at_builtin; refine wpList_append_here _ rfl (.tmp 73) (.tmp 76) 112 rfl 155 i0 (.agg #[.string ByteArray.empty, .int .i64 0]) 2 24 Tryz.underlying112 hi0 hz0 hs0 hb0 rfl (by decide) _ _ _ rfl (hr1.rowS.alloc _) (some ⟨w3.heap.size, 0, none⟩) 1 1 (cellsS (l, 0)) rfl rfl (by intro e; cases e) (cells_new w3 _ _) (by intro u hu; simp [cellsS] at hu; rcases hu with rfl | rfl <;> rfl) (by unfold maxLen; omega) (by omega) ?_; intro v2 w4 hown4 hgrow4 hwh4; obtain ⟨g, cap, rfl, -, -, -, -, -, -⟩ := owns_open hown4 (by omega); obtain ⟨hrU, cS, fS, hmU⟩ := hr1.appS hgrow4 hown4 hwh4; clear hgrow4 hown4 hwh4)
              have hUf := cell_of_block2 hrU.block
              generalize w4.setCell ⟨p, 0, none⟩ (.slice (some ⟨g, 0, none⟩) (S.length + 1) cap) = U at *
              obtain ⟨cU0, cU1, fU⟩ := hUf
              have hkU : S.length < (S ++ [(l, (0 : Int))]).length := by simp
              have hcU : U.cell? ⟨g, S.length * 2 + 1, none⟩ = some (.int .i64 0) := by
                have hlen : (S ++ [(l, (0 : Int))]).length = S.length + 1 := by simp
                have hrS := hrU.rowS
                rw [hlen] at hrS
                rw [hrS.cellAt (S.length * 2 + 1) (by omega), (cellsS_at _ _ hkU).2]
                simp
              have hfU : U.frozen? ⟨g, S.length * 2 + 1, none⟩ = false := by
                have hlen : (S ++ [(l, (0 : Int))]).length = S.length + 1 := by simp
                have hrS := hrU.rowS
                rw [hlen] at hrS
                exact hrS.frozenAt _
              go_upto_region 20 with fail
              obtain ⟨hrW, hmW⟩ := hrU.setLast t hkU
              generalize U.setCell ⟨g, S.length * 2 + 1, none⟩ (.int .i64 t) = W at *
              have hset : (S ++ [(l, (0 : Int))]).set S.length ((S ++ [(l, (0 : Int))])[S.length].1, t) = S ++ [(l, t)] := by simp
              rw [hset] at hrW
              clear hset
              obtain ⟨cW0, cW1, fW⟩ := cell_of_block2 hrW.block
              go_wp2_with (at_builtin; refine wpList_append_here _ rfl (.tmp 92) (.tmp 97) 28 rfl 38 i1 (.agg #[.string ByteArray.empty, .int .i64 0, .string ByteArray.empty]) 3 40 Tryz.underlying28 hi1 hz1 hs1 hb1' rfl (by decide) _ _ _ rfl (hrW.rowL.alloc _) (some ⟨W.heap.size, 0, none⟩) 1 1 (cellsR (l, t, x)) rfl rfl (by intro e; cases e) (cells_new W _ _) (by intro u hu; simp [cellsR] at hu; rcases hu with rfl | rfl | rfl <;> rfl) (by unfold maxLen; omega) (by omega) ?_; intro v2 w4 hown4 hgrow4 hwh4; obtain ⟨a2, cap2, rfl, -, -, -, -, -, -⟩ := owns_form hown4; obtain ⟨hrf, cL, fL, hmf⟩ := hrW.appL hgrow4 hown4 hwh4; clear hgrow4 hown4 hwh4)
              go_ret
              rw [← unhide HR2, if_neg (by omega), if_neg (by omega)]
              exact ⟨rfl, ⟨_, _, hrf.weaken (fun b hb => Plus.up hm1.size b (by rcases hb with hb | hb; exact hb; exact .inr (by have := hmU.size; have := hmW.size; omega)))⟩,
                (hm1.trans (hmU.trans hmW (fun _ h => h)) (fun _ h => .inl h)).trans hmf (fun _ h => by rcases h with h | h; exact .inl h; exact .inr (by have := hm1.size; omega))⟩

end Go.Proofs.YtbljamcdaoofbaaGreatDoor
