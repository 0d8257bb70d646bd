/- The program's label.Valid answers as the reference's isLabels does. -/
import Derived.Test.YtbljamcdaoofbaaGreatDoorClone
import Derived.Test.YtbljamcdaoofbaaGreatDoorPair
namespace Go.Proofs.YtbljamcdaoofbaaGreatDoor
open Go.RowKit

set_option maxHeartbeats 400000 in
theorem pLetter_any (c : Int) (w : World) :
    Calls Tryz.prog 132 #[.int .u8 c] w fun e w' => e = .returned (.bool (letterB c)) ∧ w' = w := by
  by_cases h : 97 ≤ c
  all_goals
    go_enter Tryz.func132, Tryz.ntmps132
    go_wp2
    go_ret
    exact ⟨by simp [letterB, h]; try omega, rfl⟩

set_option maxHeartbeats 400000 in
theorem pLetterOrDigit_any (c : UInt8) (w : World) :
    Calls Tryz.prog 133 #[.int .u8 c.toNat] w fun e w' => e = .returned (.bool (wordC true c)) ∧ w' = w := by
  cases h : letterB c.toNat
  all_goals
    go_enter Tryz.func133, Tryz.ntmps133
    go_wp2_with fail
    refine (pLetter_any _ _).mono ?_
    rintro e w1 ⟨rfl, rfl⟩
    rw [h]
    go_wp2
    all_goals
      go_ret
      refine ⟨?_, rfl⟩
      simp [wordC, h, digitB] <;> omega

set_option maxHeartbeats 400000 in
theorem pWordLength_any (l : List UInt8) (w : World) (hl : l.length ≤ 1048576) :
    Calls Tryz.prog 130 #[.string ⟨l.toArray⟩] w fun e w' => e = .returned (.bool (decide (1 ≤ l.length) && decide (l.length ≤ 6))) ∧ w' = w := by
  by_cases h : (1 : Int) ≤ l.length
  all_goals
    go_enter Tryz.func130, Tryz.ntmps130
    go_wp2
    go_ret
    refine ⟨ret_bool ?_, rfl⟩
    rw [Bool.eq_iff_iff]
    simp <;> omega

theorem all_snoc (f : UInt8 → Bool) (l : List UInt8) (k : Nat) (h : k < l.length) : (l.take (k + 1)).all f = ((l.take k).all f && f l[k]) := by
  rw [List.take_succ_eq_append_getElem h, List.all_append]
  simp

theorem all_bad {f : UInt8 → Bool} {l : List UInt8} {k : Nat} (h : k < l.length) (hf : f l[k] = false) : l.all f = false := by
  rw [Bool.eq_false_iff]
  intro hh
  rw [List.all_eq_true] at hh
  have := hh _ (List.getElem_mem h)
  rw [hf] at this
  cases this

set_option maxRecDepth 10000 in
set_option maxHeartbeats 400000 in
theorem pAllLetter_any (l : List UInt8) (w : World) (hl : l.length ≤ 1048576) :
    Calls Tryz.prog 131 #[.string ⟨l.toArray⟩, .func (.func 132) #[] #[]] w fun e w' => e = .returned (.bool (l.all (wordC false))) ∧ w' = w := by
  go_enter Tryz.func131, Tryz.ntmps131
  go_wp2
  go_loop [8] (fun i => ∃ k : Nat, k ≤ l.length ∧ i = .int .i64 k ∧ (l.take k).all (wordC false) = true) (fun i => l.length - (intOf i).toNat)
  case atStart => exact ⟨0, Nat.zero_le _, rfl, rfl⟩
  case round =>
    obtain ⟨k, hk, rfl, hall⟩ := hrel
    have HA := hide hall
    clear hall
    by_cases hlt : k < l.length
    · have HS := hide (all_snoc (wordC false) l k hlt)
      go_wp2_with (go_at_call 132; refine (pLetter_any _ _).mono ?_; rintro e w' ⟨rfl, rfl⟩)
      · have hw : (!letterB (l[k].toNat : Int)) = true := by assumption
        go_ret
        refine ⟨ret_bool ?_, rfl⟩
        have hw' : wordC false l[k] = false := by simpa [wordC] using hw
        rw [all_bad hlt hw']
      · have hw : (!letterB (l[k].toNat : Int)) = false := by assumption
        go_round
        case rel =>
          refine ⟨k + 1, by omega, by go_num, ?_⟩
          have hw' : wordC false l[k] = true := by simpa [wordC] using hw
          rw [unhide HS, unhide HA, hw']
          rfl
        case measure => simp [intOf]; omega
    · go_wp2
      go_ret
      refine ⟨ret_bool ?_, rfl⟩
      have h := unhide HA
      rw [List.take_of_length_le (by omega)] at h
      exact h.symm

set_option maxRecDepth 10000 in
set_option maxHeartbeats 400000 in
theorem pAllLod_any (l : List UInt8) (w : World) (hl : l.length ≤ 1048576) :
    Calls Tryz.prog 131 #[.string ⟨l.toArray⟩, .func (.func 133) #[] #[]] w fun e w' => e = .returned (.bool (l.all (wordC true))) ∧ w' = w := by
  go_enter Tryz.func131, Tryz.ntmps131
  go_wp2
  go_loop [8] (fun i => ∃ k : Nat, k ≤ l.length ∧ i = .int .i64 k ∧ (l.take k).all (wordC true) = true) (fun i => l.length - (intOf i).toNat)
  case atStart => exact ⟨0, Nat.zero_le _, rfl, rfl⟩
  case round =>
    obtain ⟨k, hk, rfl, hall⟩ := hrel
    have HA := hide hall
    clear hall
    by_cases hlt : k < l.length
    · have HS := hide (all_snoc (wordC true) l k hlt)
      go_wp2_with (go_at_call 133; refine (pLetterOrDigit_any _ _).mono ?_; rintro e w' ⟨rfl, rfl⟩)
      · have hw : (!wordC true l[k]) = true := by assumption
        go_ret
        refine ⟨ret_bool ?_, rfl⟩
        have hw' : wordC true l[k] = false := by simpa using hw
        rw [all_bad hlt hw']
      · have hw : (!wordC true l[k]) = false := by assumption
        go_round
        case rel =>
          refine ⟨k + 1, by omega, by go_num, ?_⟩
          have hw' : wordC true l[k] = true := by simpa using hw
          rw [unhide HS, unhide HA, hw']
          rfl
        case measure => simp [intOf]; omega
    · go_wp2
      go_ret
      refine ⟨ret_bool ?_, rfl⟩
      have h := unhide HA
      rw [List.take_of_length_le (by omega)] at h
      exact h.symm


set_option maxRecDepth 10000 in
set_option maxHeartbeats 400000 in
theorem pName_any (l : List UInt8) (w : World) (hl : l.length ≤ 1048576) :
    Calls Tryz.prog 104 #[.string ⟨l.toArray⟩] w fun e w' => e = .returned (.bool (wordB false l)) ∧ w' = w := by
  go_enter Tryz.func104, Tryz.ntmps104
  go_wp2_with fail
  refine (pWordLength_any l _ hl).mono ?_
  rintro e w1 ⟨rfl, rfl⟩
  cases h : (decide (1 ≤ l.length) && decide (l.length ≤ 6))
  · have HW := hide (show wordB false l = false by rw [wordB, h]; rfl)
    clear h
    go_wp2
    go_ret
    exact ⟨ret_bool (unhide HW).symm, rfl⟩
  · have HW := hide (show wordB false l = l.all (wordC false) by rw [wordB, h]; rfl)
    clear h
    go_wp2_with fail
    refine (pAllLetter_any l _ hl).mono ?_
    rintro e w2 ⟨rfl, rfl⟩
    go_wp2
    go_ret
    exact ⟨ret_bool (unhide HW).symm, rfl⟩

set_option maxRecDepth 10000 in
set_option maxHeartbeats 400000 in
theorem pValue_any (l : List UInt8) (w : World) (hl : l.length ≤ 1048576) :
    Calls Tryz.prog 105 #[.string ⟨l.toArray⟩] w fun e w' => e = .returned (.bool (wordB true l)) ∧ w' = w := by
  go_enter Tryz.func105, Tryz.ntmps105
  go_wp2_with fail
  refine (pWordLength_any l _ hl).mono ?_
  rintro e w1 ⟨rfl, rfl⟩
  cases h : (decide (1 ≤ l.length) && decide (l.length ≤ 6))
  · have HW := hide (show wordB true l = false by rw [wordB, h]; rfl)
    clear h
    go_wp2
    go_ret
    exact ⟨ret_bool (unhide HW).symm, rfl⟩
  · have HW := hide (show wordB true l = l.all (wordC true) by rw [wordB, h]; rfl)
    clear h
    go_wp2_with fail
    refine (pAllLod_any l _ hl).mono ?_
    rintro e w2 ⟨rfl, rfl⟩
    go_wp2
    go_ret
    exact ⟨ret_bool (unhide HW).symm, rfl⟩

/-- the program's own look at labels: so many pairs yet, the name ahead, the text -/
def validGo : Nat → List UInt8 → List UInt8 → Bool
  | 0, _, _ => false
  | n + 1, prev, text =>
    if (!(cut1 61 (cut1 44 text).1).2.2 || !wordB false (cut1 61 (cut1 44 text).1).1 || !wordB true (cut1 61 (cut1 44 text).1).2.1) = true then false
    else if (Op.bytesLess (cut1 61 (cut1 44 text).1).1 prev || ((cut1 61 (cut1 44 text).1).1 == prev)) = true then false
    else if (!(cut1 44 text).2.2) = true then true
    else validGo n (cut1 61 (cut1 44 text).1).1 (cut1 44 text).2.1

def validStep (m : Nat) (prev : List UInt8) (P Q : List UInt8 × List UInt8 × Bool) : Bool :=
  if (!Q.2.2 || !wordB false Q.1 || !wordB true Q.2.1) = true then false
  else if (Op.bytesLess Q.1 prev || (Q.1 == prev)) = true then false
  else if (!P.2.2) = true then true
  else validGo m Q.1 P.2.1
theorem validGo_succ (m : Nat) (prev text : List UInt8) : validGo (m + 1) prev text = validStep m prev (cut1 44 text) (cut1 61 (cut1 44 text).1) := rfl

theorem validStep_bad {m : Nat} {prev p1 p2 q1 q2 : List UInt8} {p3 : Bool} (h1 : wordB false q1 = true) (h2 : wordB true q2 = true) (hb : Op.bytesLess q1 prev = true ∨ (q1 == prev) = true) : validStep m prev (p1, p2, p3) (q1, q2, true) = false := by
  unfold validStep
  rw [if_neg (by simp [h1, h2]), if_pos (by rcases hb with hb | hb <;> simp only [hb] <;> simp)]
theorem validStep_end {m : Nat} {prev p1 p2 q1 q2 : List UInt8} (h1 : wordB false q1 = true) (h2 : wordB true q2 = true) (hb : Op.bytesLess q1 prev = false ∧ (q1 == prev) = false) : validStep m prev (p1, p2, false) (q1, q2, true) = true := by
  unfold validStep
  rw [if_neg (by simp [h1, h2]), if_neg (by simp only [hb.1, hb.2]; simp), if_pos (by rfl)]
theorem validStep_more {m : Nat} {prev p1 p2 q1 q2 : List UInt8} (h1 : wordB false q1 = true) (h2 : wordB true q2 = true) (hb : Op.bytesLess q1 prev = false ∧ (q1 == prev) = false) : validStep m prev (p1, p2, true) (q1, q2, true) = validGo m q1 p2 := by
  unfold validStep
  rw [if_neg (by simp [h1, h2]), if_neg (by simp only [hb.1, hb.2]; simp), if_neg (by simp)]

theorem cut1_len (c : UInt8) (l : List UInt8) : (cut1 c l).1.length ≤ l.length ∧ (cut1 c l).2.1.length ≤ l.length := by
  induction l with
  | nil => simp [cut1]
  | cons x r ih =>
    unfold cut1
    split
    · simp
    · simp; omega

set_option maxRecDepth 10000 in
set_option maxHeartbeats 2000000 in
theorem pValid_any (l : List UInt8) (w : World) (hl : l.length ≤ 1048576) :
    Calls Tryz.prog 73 #[.string ⟨l.toArray⟩] w fun e w' => e = .returned (.bool (validGo 4 [] l)) ∧ ∃ n, w' = w.drewN n := by
  go_enter Tryz.func73, Tryz.ntmps73
  go_wp2
  go_loopw [0, 3, 10] (fun tx pv i wr => ∃ (k : Nat) (text prev : List UInt8), k ≤ 4 ∧ i = .int .i64 k ∧ tx = .string ⟨text.toArray⟩ ∧ pv = .string ⟨prev.toArray⟩ ∧ text.length ≤ 1048576 ∧ validGo 4 [] l = validGo (4 - k) prev text ∧ ∃ n, wr = w.drewN n)
    (fun _ _ i _ => 4 - (intOf i).toNat)
  case atStart => exact ⟨0, l, [], by omega, rfl, rfl, rfl, hl, rfl, 0, rfl⟩
  case round =>
    obtain ⟨k, text, prev, hk, rfl, rfl, rfl, htl, hgo, n, rfl⟩ := hrel
    have HG := hide hgo
    clear hgo
    by_cases hlt : k < 4
    · have hcl := cut1_len 44 text
      have hcl2 := cut1_len 61 (cut1 44 text).1
      have HV := hide (show validGo (4 - k) prev text = validGo (3 - k + 1) prev text by rw [show 4 - k = 3 - k + 1 by omega])
      go_wp2_with fail
      refine (cut_one text 44 _ htl).mono ?_
      rintro e w1 ⟨rfl, n1, rfl⟩
      go_wp2_with fail
      refine (cut_one (cut1 44 text).1 61 _ (by omega)).mono ?_
      rintro e w2 ⟨rfl, n2, rfl⟩
      have HV2 := hide (validGo_succ (3 - k) prev text)
      generalize cut1 44 text = P at *
      generalize cut1 61 P.1 = Q at *
      obtain ⟨p1, p2, p3⟩ := P
      obtain ⟨q1, q2, q3⟩ := Q
      simp only at HV2 hcl hcl2 ⊢
      cases q3 with
      | false =>
        go_wp2
        go_ret
        refine ⟨ret_bool ?_, n + n1 + n2, by simp [World.drewN, Nat.add_assoc]⟩
        rw [unhide HG, unhide HV, unhide HV2]; simp [validStep]
      | true =>
        go_wp2_with fail
        refine (pName_any q1 _ (by omega)).mono ?_
        rintro e w3 ⟨rfl, rfl⟩
        cases h1 : wordB false q1 with
        | false =>
          have H1 := hide h1
          clear h1
          go_wp2
          go_ret
          refine ⟨ret_bool ?_, n + n1 + n2, by simp [World.drewN, Nat.add_assoc]⟩
          rw [unhide HG, unhide HV, unhide HV2]; simp [validStep, unhide H1]
        | true =>
          have H1 := hide h1
          clear h1
          go_wp2_with fail
          refine (pValue_any q2 _ (by omega)).mono ?_
          rintro e w4 ⟨rfl, rfl⟩
          cases h2 : wordB true q2 with
          | false =>
            have H2 := hide h2
            clear h2
            go_wp2
            go_ret
            refine ⟨ret_bool ?_, n + n1 + n2, by simp [World.drewN, Nat.add_assoc]⟩
            rw [unhide HG, unhide HV, unhide HV2]; simp [validStep, unhide H1, unhide H2]
          | true =>
            have H2 := hide h2
            clear h2
            cases p3
            all_goals go_wp2
            · have hb : Op.bytesLess q1 prev = true ∨ (q1 == prev) = true := by assumption
              go_ret
              refine ⟨ret_bool ?_, n + n1 + n2, by simp [World.drewN, Nat.add_assoc]⟩
              rw [unhide HG, unhide HV, unhide HV2, validStep_bad (unhide H1) (unhide H2) hb]
            · have hb : Op.bytesLess q1 prev = false ∧ (q1 == prev) = false := by assumption
              go_ret
              refine ⟨ret_bool ?_, n + n1 + n2, by simp [World.drewN, Nat.add_assoc]⟩
              rw [unhide HG, unhide HV, unhide HV2, validStep_end (unhide H1) (unhide H2) hb]
            · have hb : Op.bytesLess q1 prev = true ∨ (q1 == prev) = true := by assumption
              go_ret
              refine ⟨ret_bool ?_, n + n1 + n2, by simp [World.drewN, Nat.add_assoc]⟩
              rw [unhide HG, unhide HV, unhide HV2, validStep_bad (unhide H1) (unhide H2) hb]
            · have hb : Op.bytesLess q1 prev = false ∧ (q1 == prev) = false := by assumption
              go_roundw
              case rel =>
                refine ⟨k + 1, p2, q1, by omega, by go_num, rfl, rfl, by omega, ?_, n + n1 + n2, by simp [World.drewN, Nat.add_assoc]⟩
                rw [unhide HG, unhide HV, unhide HV2, validStep_more (unhide H1) (unhide H2) hb]
                rw [show 4 - (k + 1) = 3 - k by omega]
              case measure => simp [intOf]; omega
    · go_wp2
      go_ret
      refine ⟨ret_bool ?_, n, rfl⟩
      rw [unhide HG, show 4 - k = 0 by omega, validGo]

end Go.Proofs.YtbljamcdaoofbaaGreatDoor
