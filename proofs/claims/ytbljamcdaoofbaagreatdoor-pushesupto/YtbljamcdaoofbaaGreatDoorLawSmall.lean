/- The law's small helpers. -/
import Derived.Test.YtbljamcdaoofbaaGreatDoorRelPush
namespace Go.Proofs.YtbljamcdaoofbaaGreatDoor
open Go.RowKit

set_option maxHeartbeats 400000 in
theorem num_any (n : Int) (w : World) : Calls Tryz.prog 57 #[.int .i64 n] w fun e w' => e = .returned (.int .i64 n) ∧ w' = w := by
  go_enter Tryz.func57, Tryz.ntmps57
  go_wp2
  go_ret
  exact ⟨rfl, rfl⟩

theorem tmod_nat {c n : Int} (h0 : 0 ≤ c) (hn : 0 < n) : ∃ k : Nat, c.tmod n = k ∧ (k : Int) < n := by
  refine ⟨(c % n).toNat, ?_, ?_⟩
  · rw [Int.tmod_eq_emod_of_nonneg h0]
    have := Int.emod_nonneg c (show n ≠ 0 by omega)
    omega
  · have h1 := Int.emod_nonneg c (show n ≠ 0 by omega)
    have h2 := Int.emod_lt_of_pos c hn
    omega

set_option maxRecDepth 10000 in
set_option maxHeartbeats 400000 in
theorem pick_any (c : Int) (n : Nat) (w : World) (h1 : -9223372036854775808 ≤ c) (h2 : c ≤ 9223372036854775807) (hn : 0 < n) (hn2 : n ≤ 4194304) :
    Calls Tryz.prog 33 #[.int .i64 c, .int .i64 n] w fun e w' => (∃ k : Nat, k < n ∧ e = .returned (.int .i64 k)) ∧ w' = w := by
  have hnz : ((n : Int) == 0) = false := by simp; omega
  by_cases hc : c < 0
  · go_enter Tryz.func33, Tryz.ntmps33
    go_wp2
    go_ret
    obtain ⟨k, h3, h4⟩ := tmod_nat (c := -(c + 1)) (n := n) (by omega) (by omega)
    refine ⟨⟨k, by omega, ret_int ?_⟩, rfl⟩
    rw [← h3, Int.neg_tmod]
  · go_enter Tryz.func33, Tryz.ntmps33
    go_wp2
    go_ret
    have h3 := Int.emod_nonneg c (show (n : Int) ≠ 0 by omega)
    have h4 := Int.emod_lt_of_pos c (show (0 : Int) < n by omega)
    exact ⟨⟨(c % n).toNat, by omega, ret_int (by omega)⟩, rfl⟩

theorem convert_one (w : World) (c : Int) : (convert 95 9 (.slice (some ⟨w.heap.size, 0, none⟩) 1 1)).run Tryz.prog (w.alloc (.cells #[.int .u8 c] 5)) = .ok (.string ⟨#[UInt8.ofNat c.toNat]⟩) (w.alloc (.cells #[.int .u8 c] 5)) := by
  have hl : (loadCells ⟨w.heap.size, 0, none⟩ 1).run Tryz.prog (w.alloc (.cells #[.int .u8 c] 5)) = .ok (([c] : List Int).map (Value.int .u8)).toArray (w.alloc (.cells #[.int .u8 c] 5)) := by
    have := run_loadCells_list (P := Tryz.prog) (w.alloc (.cells #[.int .u8 c] 5)) ⟨w.heap.size, 0, none⟩ [.int .u8 c] (fun j v hj => cells_new w [.int .u8 c] 5 _ rfl j v hj)
    simpa using this
  rw [run_convert_bytes_string _ 95 9 5 _ 1 1 Tryz.underlying95 Tryz.underlying5 Tryz.underlying9, run_bytesToString _ _ 1 1 [c] hl]
  rfl

theorem digit_byte (k : Nat) : UInt8.ofNat ((48 + (k : Int) % 10)).toNat = 48 + UInt8.ofNat (k % 10) := by
  have h : (48 + (k : Int) % 10).toNat = 48 + k % 10 := by omega
  rw [h, UInt8.ofNat_add]
  rfl

theorem bytes_append (a l : List UInt8) : (⟨a.toArray⟩ : ByteArray) ++ (⟨l.toArray⟩ : ByteArray) = ⟨(a ++ l).toArray⟩ := by
  apply ByteArray.ext
  simp [ByteArray.data_append]

def emptyOf : Value → Nat
  | .string b => if b.size = 0 then 1 else 0
  | _ => 0

/-- the digits of a number ahead of some bytes -/
def wordGo : Nat → Nat → List UInt8 → List UInt8
  | 0, _, s => s
  | f + 1, n, s => if 0 < n ∨ s = [] then wordGo f (n / 10) ((48 + UInt8.ofNat (n % 10)) :: s) else s
def wordL (n : Nat) : List UInt8 := [109, 97, 114, 107, 32] ++ wordGo (n + 2) n []

set_option maxRecDepth 10000 in
set_option maxHeartbeats 1000000 in
theorem word_any (n : Nat) (w : World) (hn : n ≤ 4194304) :
    Calls Tryz.prog 62 #[.int .i64 n] w fun e w' => e = .returned (SV (wordL n)) ∧ Below w.heap.size w w' := by
  go_enter Tryz.func62, Tryz.ntmps62
  go_wp2
  go_loopw [0, 3] (fun m s wr => ∃ (k f : Nat) (l : List UInt8), k ≤ n ∧ k < f ∧ m = .int .i64 k ∧ s = .string ⟨l.toArray⟩ ∧ l.length + f ≤ n + 2 ∧ wordGo (n + 2) n [] = wordGo f k l ∧ (l = [] → 1 < f) ∧ Below w.heap.size w wr) (fun m s _ => 2 * (intOf m).toNat + emptyOf s)
  case atStart => exact ⟨n, n + 2, [], by omega, by omega, rfl, rfl, by simp, rfl, fun _ => by omega, Below.refl _ _⟩
  case round =>
    obtain ⟨k, f, l, hk, hkf, rfl, rfl, hlf, hgo, hl1, hbel⟩ := hrel
    have HG := hide hgo
    have HL := hide hl1
    clear hgo hl1
    by_cases hp : 0 < k
    · have hcv := convert_one wr (48 + (k : Int) % 10)
      rw [digit_byte] at hcv
      obtain ⟨f', rfl⟩ : ∃ f', f = f' + 1 := ⟨f - 1, by omega⟩
      go_wp2
      go_roundw
      case rel =>
        refine ⟨k / 10, f', (48 + UInt8.ofNat (k % 10)) :: l, by omega, by omega, by go_num, ?_, by simp; omega, ?_, fun e => by simp at e, hbel.alloc hbel.size _⟩
        · rw [show (⟨#[48 + UInt8.ofNat (k % 10)]⟩ : ByteArray) = ⟨[48 + UInt8.ofNat (k % 10)].toArray⟩ from rfl, bytes_append]
          rfl
        · rw [unhide HG, wordGo, if_pos (.inl hp)]
      case measure =>
        have e0 : emptyOf (.string (⟨#[48 + UInt8.ofNat (k % 10)]⟩ ++ ⟨l.toArray⟩)) = 0 := by
          rw [show (⟨#[48 + UInt8.ofNat (k % 10)]⟩ : ByteArray) = ⟨[48 + UInt8.ofNat (k % 10)].toArray⟩ from rfl, bytes_append]
          simp [emptyOf, ByteArray.size]
        rw [e0]
        simp [intOf]
        omega
    · have hk0 : k = 0 := by omega
      subst hk0
      by_cases hl0 : l = []
      · subst hl0
        have hf := unhide HL rfl
        obtain ⟨f', rfl⟩ : ∃ f', f = f' + 1 := ⟨f - 1, by omega⟩
        have hcv := convert_one wr 48
        rw [show UInt8.ofNat (48 : Int).toNat = 48 from rfl] at hcv
        go_wp2
        go_roundw
        case rel =>
          refine ⟨0, f', [48], by omega, by omega, rfl, ?_, by simp at hlf ⊢; omega, ?_, fun e => by simp at e, hbel.alloc hbel.size _⟩
          · first | rfl | (rw [show (⟨#[48]⟩ : ByteArray) = ⟨[48].toArray⟩ from rfl, show (⟨#[]⟩ : ByteArray) = ⟨([] : List UInt8).toArray⟩ from rfl, bytes_append]; rfl)
          · rw [unhide HG, wordGo, if_pos (.inr rfl)]; rfl
        case measure => simp [intOf, emptyOf, ByteArray.size]
      · have hle : (l == ([] : List UInt8)) = false := by simpa using hl0
        obtain ⟨f', rfl⟩ : ∃ f', f = f' + 1 := ⟨f - 1, by omega⟩
        have HW := hide (show wordL n = [109, 97, 114, 107, 32] ++ l by rw [wordL, unhide HG, wordGo, if_neg (by simp [hl0])])
        clear hl0
        go_wp2
        go_ret
        refine ⟨?_, hbel⟩
        rw [unhide HW]
        show Ending.returned (.string (⟨[109, 97, 114, 107, 32].toArray⟩ ++ ⟨l.toArray⟩)) = _
        rw [bytes_append]

end Go.Proofs.YtbljamcdaoofbaaGreatDoor
