/- The small functions of loamref on bytes and words answer as plain functions on bytes do. -/
import Derived.Test.YtbljamcdaoofbaaGreatDoorBase
namespace Go.Proofs.YtbljamcdaoofbaaGreatDoor
open Go.RowKit

def letterB (c : Int) : Bool := decide (97 ≤ c) && decide (c ≤ 122)
def digitB (c : Int) : Bool := decide (48 ≤ c) && decide (c ≤ 57)

set_option maxHeartbeats 400000 in
theorem letter_any (c : Int) (w : World) :
    Calls Tryz.prog 169 #[.int .u8 c] w fun e w' => e = .returned (.bool (letterB c)) ∧ w' = w := by
  by_cases h : 97 ≤ c
  all_goals
    go_enter Tryz.func169, Tryz.ntmps169
    go_wp2
    go_ret
    exact ⟨by simp [letterB, h]; try omega, rfl⟩

set_option maxHeartbeats 400000 in
theorem digit_any (c : Int) (w : World) :
    Calls Tryz.prog 170 #[.int .u8 c] w fun e w' => e = .returned (.bool (digitB c)) ∧ w' = w := by
  by_cases h : 48 ≤ c
  all_goals
    go_enter Tryz.func170, Tryz.ntmps170
    go_wp2
    go_ret
    exact ⟨by simp [digitB, h]; try omega, rfl⟩

/-- may this byte stand in a word? -/
def wordC (dg : Bool) (c : UInt8) : Bool := letterB c.toNat || (dg && digitB c.toNat)
/-- the document's name (dg = false) and value (dg = true) -/
def wordB (dg : Bool) (s : List UInt8) : Bool := decide (1 ≤ s.length) && decide (s.length ≤ 6) && s.all (wordC dg)

theorem take_all_succ (dg : Bool) (s : ByteArray) (k : Nat) (h : k < s.size) :
    (s.data.toList.take (k + 1)).all (wordC dg) = ((s.data.toList.take k).all (wordC dg) && wordC dg s[k]) := by
  rw [List.take_succ_eq_append_getElem (by simpa using h), List.all_append]
  simp
  rfl

theorem wordB_bad (dg : Bool) (s : ByteArray) (k : Nat) (h : k < s.size) (hc : wordC dg s[k] = false) : wordB dg s.data.toList = false := by
  have hm : s[k] ∈ s.data.toList := by
    have : s.data.toList[k]'(by simpa using h) = s[k] := rfl
    rw [← this]; exact List.getElem_mem _
  have : s.data.toList.all (wordC dg) = false := by
    rw [Bool.eq_false_iff]; intro hh
    rw [List.all_eq_true] at hh
    have := hh _ hm
    rw [hc] at this; cases this
  simp [wordB, this]

theorem wordB_good (dg : Bool) (s : ByteArray) (k : Nat) (h : ¬ k < s.size) (h1 : 1 ≤ (s.size : Int)) (h2 : (s.size : Int) ≤ 6) (hall : (s.data.toList.take k).all (wordC dg) = true) : wordB dg s.data.toList = true := by
  have hl : s.data.toList.length = s.size := by simp
  rw [List.take_of_length_le (by omega)] at hall
  simp only [wordB, hall, Bool.and_true, Bool.and_eq_true, decide_eq_true_eq]
  omega

set_option maxHeartbeats 800000 in
theorem isWord_any (s : ByteArray) (dg : Bool) (w : World) (hs : s.size ≤ maxLen) :
    Calls Tryz.prog 142 #[.string s, .bool dg] w fun e w' => e = .returned (.bool (wordB dg s.data.toList)) ∧ w' = w := by
  unfold maxLen at hs
  have hl : s.data.toList.length = s.size := by simp
  have HL : Hid (s.data.toList.length = s.size) := hl
  clear hl
  by_cases h1 : (s.size : Int) < 1
  · go_enter Tryz.func142, Tryz.ntmps142
    go_wp2
    go_ret
    refine ⟨?_, rfl⟩
    have := HL.out
    simp [wordB]; omega
  · by_cases h2 : (6 : Int) < s.size
    · go_enter Tryz.func142, Tryz.ntmps142
      go_wp2
      go_ret
      refine ⟨?_, rfl⟩
      have := HL.out
      simp [wordB]; omega
    · go_enter Tryz.func142, Tryz.ntmps142
      go_wp2
      go_loop [5] (fun i => ∃ k : Nat, k ≤ s.size ∧ i = .int .i64 k ∧ (s.data.toList.take k).all (wordC dg) = true) (fun i => s.size - (intOf i).toNat)
      case atStart => exact ⟨0, Nat.zero_le _, rfl, rfl⟩
      case round =>
        obtain ⟨k, hk, rfl, hall⟩ := hrel
        have HA : Hid ((s.data.toList.take k).all (wordC dg) = true) := hall
        clear hall
        by_cases hlt : k < s.size
        · have HS : Hid _ := take_all_succ dg s k hlt
          go_wp2_with (first | (go_at_call 169; refine (letter_any _ _).mono ?_; rintro e w' ⟨rfl, rfl⟩) | (go_at_call 170; refine (digit_any _ _).mono ?_; rintro e w' ⟨rfl, rfl⟩))
          all_goals first
            | (go_ret
               exact ⟨ret_bool (wordB_bad dg s k hlt (by cases dg <;> simp_all [wordC])).symm, rfl⟩)
            | (go_round
               case rel => exact ⟨k + 1, by omega, by go_num, by rw [HS.out, HA.out]; cases dg <;> simp_all [wordC]⟩
               case measure => simp [intOf]; omega)
        · go_wp2
          go_ret
          exact ⟨ret_bool (wordB_good dg s k hlt h1 h2 HA.out).symm, rfl⟩

theorem isWord_l (l : List UInt8) (dg : Bool) (w : World) (hs : l.length ≤ 1048576) :
    Calls Tryz.prog 142 #[.string ⟨l.toArray⟩, .bool dg] w fun e w' => e = .returned (.bool (wordB dg l)) ∧ w' = w := by
  have h := isWord_any ⟨l.toArray⟩ dg w (by unfold maxLen; simp [ByteArray.size]; omega)
  simpa using h

end Go.Proofs.YtbljamcdaoofbaaGreatDoor
