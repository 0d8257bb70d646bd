/- Texts LawSmall, KBase, KStore, KOrd, joined. -/
import Derived.Test.YtbljamcdaoofbaaGreatDoorRelPushToAsked
import Derived.Test.YtbljamcdaoofbaaGreatDoorRefRowsToPRowsAll
import Derived.Deep.RegionLaw
import Derived.Deep.RegionWith
import Derived.Deep.RegionHeld
import Derived.Deep.CutRange
import Derived.Test.YtbljamcdaoofbaaGreatDoorGlobToOwnGlob
import Derived.Deep.CutBlock
/- The law's small helpers. -/
namespace Go.Proofs.YtbljamcdaoofbaaGreatDoor
open Go.RowKit

set_option maxHeartbeats 400000 in
theorem num_any (n : Int) (w : World) : Calls Tryz.prog 57 #[.int .i64 n] w fun e w' => e = .returned (.int .i64 n) ∧ w' = w := by
  go_enter Tryz.func57, Tryz.ntmps57
  go_wp2
  go_ret
  exact ⟨rfl, rfl⟩

theorem tmod_nat {c n : Int} (h0 : 0 ≤ c) (hn : 0 < n) : ∃ k : Nat, c.tmod n = k ∧ (k : Int) < n := by
  refine ⟨(c % n).toNat, ?_, ?_⟩
  · rw [Int.tmod_eq_emod_of_nonneg h0]
    have := Int.emod_nonneg c (show n ≠ 0 by omega)
    omega
  · have h1 := Int.emod_nonneg c (show n ≠ 0 by omega)
    have h2 := Int.emod_lt_of_pos c hn
    omega

set_option maxRecDepth 10000 in
set_option maxHeartbeats 400000 in
theorem pick_any (c : Int) (n : Nat) (w : World) (h1 : -9223372036854775808 ≤ c) (h2 : c ≤ 9223372036854775807) (hn : 0 < n) (hn2 : n ≤ 4194304) :
    Calls Tryz.prog 33 #[.int .i64 c, .int .i64 n] w fun e w' => (∃ k : Nat, k < n ∧ e = .returned (.int .i64 k)) ∧ w' = w := by
  have hnz : ((n : Int) == 0) = false := by simp; omega
  by_cases hc : c < 0
  · go_enter Tryz.func33, Tryz.ntmps33
    go_wp2
    go_ret
    obtain ⟨k, h3, h4⟩ := tmod_nat (c := -(c + 1)) (n := n) (by omega) (by omega)
    refine ⟨⟨k, by omega, ret_int ?_⟩, rfl⟩
    rw [← h3, Int.neg_tmod]
  · go_enter Tryz.func33, Tryz.ntmps33
    go_wp2
    go_ret
    have h3 := Int.emod_nonneg c (show (n : Int) ≠ 0 by omega)
    have h4 := Int.emod_lt_of_pos c (show (0 : Int) < n by omega)
    exact ⟨⟨(c % n).toNat, by omega, ret_int (by omega)⟩, rfl⟩

theorem convert_one (w : World) (c : Int) : (convert 95 9 (.slice (some ⟨w.heap.size, 0, none⟩) 1 1)).run Tryz.prog (w.alloc (.cells #[.int .u8 c] 5)) = .ok (.string ⟨#[UInt8.ofNat c.toNat]⟩) (w.alloc (.cells #[.int .u8 c] 5)) := by
  have hl : (loadCells ⟨w.heap.size, 0, none⟩ 1).run Tryz.prog (w.alloc (.cells #[.int .u8 c] 5)) = .ok (([c] : List Int).map (Value.int .u8)).toArray (w.alloc (.cells #[.int .u8 c] 5)) := by
    have := run_loadCells_list (P := Tryz.prog) (w.alloc (.cells #[.int .u8 c] 5)) ⟨w.heap.size, 0, none⟩ [.int .u8 c] (fun j v hj => cells_new w [.int .u8 c] 5 _ rfl j v hj)
    simpa using this
  rw [run_convert_bytes_string _ 95 9 5 _ 1 1 Tryz.underlying95 Tryz.underlying5 Tryz.underlying9, run_bytesToString _ _ 1 1 [c] hl]
  rfl

theorem digit_byte (k : Nat) : UInt8.ofNat ((48 + (k : Int) % 10)).toNat = 48 + UInt8.ofNat (k % 10) := by
  have h : (48 + (k : Int) % 10).toNat = 48 + k % 10 := by omega
  rw [h, UInt8.ofNat_add]
  rfl

theorem bytes_append (a l : List UInt8) : (⟨a.toArray⟩ : ByteArray) ++ (⟨l.toArray⟩ : ByteArray) = ⟨(a ++ l).toArray⟩ := by
  apply ByteArray.ext
  simp [ByteArray.data_append]

def emptyOf : Value → Nat
  | .string b => if b.size = 0 then 1 else 0
  | _ => 0

/-- the digits of a number ahead of some bytes -/
def wordGo : Nat → Nat → List UInt8 → List UInt8
  | 0, _, s => s
  | f + 1, n, s => if 0 < n ∨ s = [] then wordGo f (n / 10) ((48 + UInt8.ofNat (n % 10)) :: s) else s
def wordL (n : Nat) : List UInt8 := [109, 97, 114, 107, 32] ++ wordGo (n + 2) n []

set_option maxRecDepth 10000 in
set_option maxHeartbeats 1000000 in
theorem word_any (n : Nat) (w : World) (hn : n ≤ 4194304) :
    Calls Tryz.prog 62 #[.int .i64 n] w fun e w' => e = .returned (SV (wordL n)) ∧ Below w.heap.size w w' := by
  go_enter Tryz.func62, Tryz.ntmps62
  go_wp2
  go_loopw [0, 3] (fun m s wr => ∃ (k f : Nat) (l : List UInt8), k ≤ n ∧ k < f ∧ m = .int .i64 k ∧ s = .string ⟨l.toArray⟩ ∧ l.length + f ≤ n + 2 ∧ wordGo (n + 2) n [] = wordGo f k l ∧ (l = [] → 1 < f) ∧ Below w.heap.size w wr) (fun m s _ => 2 * (intOf m).toNat + emptyOf s)
  case atStart => exact ⟨n, n + 2, [], by omega, by omega, rfl, rfl, by simp, rfl, fun _ => by omega, Below.refl _ _⟩
  case round =>
    obtain ⟨k, f, l, hk, hkf, rfl, rfl, hlf, hgo, hl1, hbel⟩ := hrel
    have HG := hide hgo
    have HL := hide hl1
    clear hgo hl1
    by_cases hp : 0 < k
    · have hcv := convert_one wr (48 + (k : Int) % 10)
      rw [digit_byte] at hcv
      obtain ⟨f', rfl⟩ : ∃ f', f = f' + 1 := ⟨f - 1, by omega⟩
      go_wp2
      go_roundw
      case rel =>
        refine ⟨k / 10, f', (48 + UInt8.ofNat (k % 10)) :: l, by omega, by omega, by go_num, ?_, by simp; omega, ?_, fun e => by simp at e, hbel.alloc hbel.size _⟩
        · rw [show (⟨#[48 + UInt8.ofNat (k % 10)]⟩ : ByteArray) = ⟨[48 + UInt8.ofNat (k % 10)].toArray⟩ from rfl, bytes_append]
          rfl
        · rw [unhide HG, wordGo, if_pos (.inl hp)]
      case measure =>
        have e0 : emptyOf (.string (⟨#[48 + UInt8.ofNat (k % 10)]⟩ ++ ⟨l.toArray⟩)) = 0 := by
          rw [show (⟨#[48 + UInt8.ofNat (k % 10)]⟩ : ByteArray) = ⟨[48 + UInt8.ofNat (k % 10)].toArray⟩ from rfl, bytes_append]
          simp [emptyOf, ByteArray.size]
        rw [e0]
        simp [intOf]
        omega
    · have hk0 : k = 0 := by omega
      subst hk0
      by_cases hl0 : l = []
      · subst hl0
        have hf := unhide HL rfl
        obtain ⟨f', rfl⟩ : ∃ f', f = f' + 1 := ⟨f - 1, by omega⟩
        have hcv := convert_one wr 48
        rw [show UInt8.ofNat (48 : Int).toNat = 48 from rfl] at hcv
        go_wp2
        go_roundw
        case rel =>
          refine ⟨0, f', [48], by omega, by omega, rfl, ?_, by simp at hlf ⊢; omega, ?_, fun e => by simp at e, hbel.alloc hbel.size _⟩
          · first | rfl | (rw [show (⟨#[48]⟩ : ByteArray) = ⟨[48].toArray⟩ from rfl, show (⟨#[]⟩ : ByteArray) = ⟨([] : List UInt8).toArray⟩ from rfl, bytes_append]; rfl)
          · rw [unhide HG, wordGo, if_pos (.inr rfl)]; rfl
        case measure => simp [intOf, emptyOf, ByteArray.size]
      · have hle : (l == ([] : List UInt8)) = false := by simpa using hl0
        obtain ⟨f', rfl⟩ : ∃ f', f = f' + 1 := ⟨f - 1, by omega⟩
        have HW := hide (show wordL n = [109, 97, 114, 107, 32] ++ l by rw [wordL, unhide HG, wordGo, if_neg (by simp [hl0])])
        clear hl0
        go_wp2
        go_ret
        refine ⟨?_, hbel⟩
        rw [unhide HW]
        show Ending.returned (.string (⟨[109, 97, 114, 107, 32].toArray⟩ ++ ⟨l.toArray⟩)) = _
        rw [bytes_append]

end Go.Proofs.YtbljamcdaoofbaaGreatDoor

/- The small helpers of loamkeep. -/
namespace Go.Proofs.YtbljamcdaoofbaaGreatDoor
open Go.RowKit

/-- which of n things a number speaks of -/
def pickN (c : Int) (n : Nat) : Nat := if c < 0 then ((-(c + 1)) % n).toNat else (c % n).toNat

theorem pickN_lt (c : Int) {n : Nat} (hn : 0 < n) : pickN c n < n := by
  unfold pickN
  split
  · have h1 := Int.emod_nonneg (-(c + 1)) (show (n : Int) ≠ 0 by omega)
    have h2 := Int.emod_lt_of_pos (-(c + 1)) (show (0 : Int) < n by omega)
    omega
  · have h1 := Int.emod_nonneg c (show (n : Int) ≠ 0 by omega)
    have h2 := Int.emod_lt_of_pos c (show (0 : Int) < n by omega)
    omega

set_option maxRecDepth 10000 in
set_option maxHeartbeats 400000 in
theorem kpick_any (c : Int) (n : Nat) (w : World) (h1 : -9223372036854775808 ≤ c) (h2 : c ≤ 9223372036854775807) (hn : 0 < n) (hn2 : n ≤ 4194304) :
    Calls Tryz.prog 19 #[.int .i64 c, .int .i64 n] w fun e w' => e = .returned (.int .i64 (pickN c n)) ∧ w' = w := by
  have hnz : ((n : Int) == 0) = false := by simp; omega
  by_cases hc : c < 0
  · have HP := hide (show (pickN c n : Int) = Int.tmod (-(c + 1)) n by
      unfold pickN
      rw [if_pos hc, Int.tmod_eq_emod_of_nonneg (by omega)]
      have h1 := Int.emod_nonneg (-(c + 1)) (show (n : Int) ≠ 0 by omega)
      omega)
    go_enter Tryz.func19, Tryz.ntmps19
    go_wp2
    go_ret
    refine ⟨ret_int ?_, rfl⟩
    rw [unhide HP, Int.neg_tmod]
  · have HP := hide (show (pickN c n : Int) = c % n by
      unfold pickN
      rw [if_neg hc]
      have h1 := Int.emod_nonneg c (show (n : Int) ≠ 0 by omega)
      omega)
    go_enter Tryz.func19, Tryz.ntmps19
    go_wp2
    go_ret
    exact ⟨ret_int (unhide HP).symm, rfl⟩

/-- a number's digits -/
def digL (n : Nat) : List UInt8 := wordGo (n + 2) n []

set_option maxRecDepth 10000 in
set_option maxHeartbeats 1000000 in
theorem digits_any (n : Nat) (w : World) (hn : n ≤ 4194304) :
    Calls Tryz.prog 25 #[.int .i64 n] w fun e w' => e = .returned (SV (digL n)) ∧ Below w.heap.size w w' := by
  go_enter Tryz.func25, Tryz.ntmps25
  go_wp2
  go_loopw [0, 3] (fun m s wr => ∃ (k f : Nat) (l : List UInt8), k ≤ n ∧ k < f ∧ m = .int .i64 k ∧ s = .string ⟨l.toArray⟩ ∧ l.length + f ≤ n + 2 ∧ wordGo (n + 2) n [] = wordGo f k l ∧ (l = [] → 1 < f) ∧ Below w.heap.size w wr) (fun m s _ => 2 * (intOf m).toNat + emptyOf s)
  case atStart => exact ⟨n, n + 2, [], by omega, by omega, rfl, rfl, by simp, rfl, fun _ => by omega, Below.refl _ _⟩
  case round =>
    obtain ⟨k, f, l, hk, hkf, rfl, rfl, hlf, hgo, hl1, hbel⟩ := hrel
    have HG := hide hgo
    have HL := hide hl1
    clear hgo hl1
    by_cases hp : 0 < k
    · have hcv := convert_one wr (48 + (k : Int) % 10)
      rw [digit_byte] at hcv
      obtain ⟨f', rfl⟩ : ∃ f', f = f' + 1 := ⟨f - 1, by omega⟩
      go_wp2
      go_roundw
      case rel =>
        refine ⟨k / 10, f', (48 + UInt8.ofNat (k % 10)) :: l, by omega, by omega, by go_num, ?_, by simp; omega, ?_, fun e => by simp at e, hbel.alloc hbel.size _⟩
        · rw [show (⟨#[48 + UInt8.ofNat (k % 10)]⟩ : ByteArray) = ⟨[48 + UInt8.ofNat (k % 10)].toArray⟩ from rfl, bytes_append]
          rfl
        · rw [unhide HG, wordGo, if_pos (.inl hp)]
      case measure =>
        have e0 : emptyOf (.string (⟨#[48 + UInt8.ofNat (k % 10)]⟩ ++ ⟨l.toArray⟩)) = 0 := by
          rw [show (⟨#[48 + UInt8.ofNat (k % 10)]⟩ : ByteArray) = ⟨[48 + UInt8.ofNat (k % 10)].toArray⟩ from rfl, bytes_append]
          simp [emptyOf, ByteArray.size]
        rw [e0]
        simp [intOf]
        omega
    · have hk0 : k = 0 := by omega
      subst hk0
      by_cases hl0 : l = []
      · subst hl0
        have hf := unhide HL rfl
        obtain ⟨f', rfl⟩ : ∃ f', f = f' + 1 := ⟨f - 1, by omega⟩
        have hcv := convert_one wr 48
        rw [show UInt8.ofNat (48 : Int).toNat = 48 from rfl] at hcv
        go_wp2
        go_roundw
        case rel =>
          refine ⟨0, f', [48], by omega, by omega, rfl, ?_, by simp at hlf ⊢; omega, ?_, fun e => by simp at e, hbel.alloc hbel.size _⟩
          · first | rfl | (rw [show (⟨#[48]⟩ : ByteArray) = ⟨[48].toArray⟩ from rfl, show (⟨#[]⟩ : ByteArray) = ⟨([] : List UInt8).toArray⟩ from rfl, bytes_append]; rfl)
          · rw [unhide HG, wordGo, if_pos (.inr rfl)]; rfl
        case measure => simp [intOf, emptyOf, ByteArray.size]
      · have hle : (l == ([] : List UInt8)) = false := by simpa using hl0
        obtain ⟨f', rfl⟩ : ∃ f', f = f' + 1 := ⟨f - 1, by omega⟩
        have HW := hide (show digL n = l by rw [digL, unhide HG, wordGo, if_neg (by simp [hl0])])
        clear hl0
        go_wp2
        go_ret
        refine ⟨?_, hbel⟩
        rw [unhide HW]
        rfl

theorem wordGo_len : ∀ (f n : Nat) (s : List UInt8), (wordGo f n s).length ≤ s.length + f
  | 0, n, s => by simp [wordGo]
  | f + 1, n, s => by
    unfold wordGo
    split
    · have := wordGo_len f (n / 10) ((48 + UInt8.ofNat (n % 10)) :: s)
      simp at this
      omega
    · omega

theorem wordGo_small : ∀ (f n d : Nat) (s : List UInt8), n < 10 ^ d → s ≠ [] → (wordGo f n s).length ≤ s.length + d
  | 0, n, d, s, _, _ => by simp [wordGo]
  | f + 1, n, d, s, h, hs => by
    unfold wordGo
    split
    · rename_i hc
      have hn : 0 < n := by rcases hc with hc | hc; exact hc; exact absurd hc hs
      cases d with
      | zero => simp at h; omega
      | succ d =>
        have := wordGo_small f (n / 10) d ((48 + UInt8.ofNat (n % 10)) :: s) (by rw [Nat.pow_succ] at h; omega) (by simp)
        simp at this
        omega
    · omega

theorem digL_len (n d : Nat) (h : n < 10 ^ (d + 1)) : (digL n).length ≤ d + 1 := by
  unfold digL wordGo
  rw [if_pos (.inr rfl)]
  have := wordGo_small (n + 1) (n / 10) d [48 + UInt8.ofNat (n % 10)] (by rw [Nat.pow_succ] at h; omega) (by simp)
  simp at this
  omega

/-- the five streams' labels -/
def five : List (List UInt8) := [[97, 112, 112, 61, 119, 101, 98, 44, 122, 111, 110, 101, 61, 97], [97, 112, 112, 61, 119, 101, 98, 44, 122, 111, 110, 101, 61, 98], [97, 112, 112, 61, 100, 98], [97, 112, 112, 61, 100, 98, 44, 107, 105, 110, 100, 61, 120, 44, 122, 111, 110, 101, 61, 97], [122, 111, 110, 101, 61, 98]]

def labK (c : Int) : List UInt8 := five.getD (pickN c 5) []
theorem labK_mem (c : Int) : labK c ∈ five := by
  have h : pickN c 5 < five.length := pickN_lt c (by omega)
  unfold labK
  rw [List.getD_eq_getElem?_getD, List.getElem?_eq_getElem h]
  exact List.getElem_mem h

theorem row_at {w : World} (L : List (List UInt8)) (k : Nat) (h : k < L.length) : (w.alloc (.cells (L.map SV).toArray 9)).cell? ⟨w.heap.size, k, none⟩ = some (SV (L.getD k [])) := by
  rw [cell_of_row _ w.heap.size k _ 9 (0, 0) (heap_alloc_new w _)]
  simp [h]

set_option maxRecDepth 10000 in
set_option maxHeartbeats 1000000 in
theorem labels_any (c : Int) (w : World) (h1 : -9223372036854775808 ≤ c) (h2 : c ≤ 9223372036854775807) :
    Calls Tryz.prog 36 #[.int .i64 c] w fun e w' => e = .returned (SV (labK c)) ∧ Below w.heap.size w w' := by
  have hb := (Below.refl w.heap.size w).alloc (Nat.le_refl _) (.cells (five.map SV).toArray 9)
  have hc := row_at (w := w) five (pickN c 5) (pickN_lt c (by omega))
  have hlt : (pickN c 5 : Int) < 5 := by have := pickN_lt c (n := 5) (by omega); omega
  have HL := hide (show labK c = five.getD (pickN c 5) [] from rfl)
  have hp := fun W => kpick_any c 5 W h1 h2 (by omega) (by omega)
  generalize labK c = lab at *
  generalize pickN c 5 = k at *
  rw [← unhide HL] at hc
  go_enter Tryz.func36, Tryz.ntmps36
  go_upto_region 2 with fail
  change Code.wp _ _ _ _ (w.alloc (.cells (five.map SV).toArray 9))
  generalize w.alloc (.cells (five.map SV).toArray 9) = W at *
  go_wp2_with fail
  refine (hp _).mono ?_
  rintro e w' ⟨rfl, hww⟩
  rw [hww]
  clear hww w'
  go_wp2_with fail
  go_ret
  exact ⟨rfl, hb⟩

/-- what a line of loamkeep's may begin with -/
def eight : List (List UInt8) := [[103, 101, 116, 32], [112, 117, 116, 32], [], [45], [120], [97, 32, 34, 98, 34, 32], [0, 255], [49]]

theorem tdiv8 (c : Int) (h1 : -9223372036854775808 ≤ c) (h2 : c ≤ 9223372036854775807) : -9223372036854775808 ≤ c.tdiv 8 ∧ c.tdiv 8 ≤ 9223372036854775807 := by
  by_cases h : 0 ≤ c
  · rw [Int.tdiv_eq_ediv_of_nonneg h]
    omega
  · have e : c.tdiv 8 = -((-c) / 8) := by
      have h2 : (-c).tdiv 8 = (-c) / 8 := Int.tdiv_eq_ediv_of_nonneg (by omega)
      have h3 : (-c).tdiv 8 = -(c.tdiv 8) := Int.neg_tdiv ..
      omega
    rw [e]
    omega

def saysK (c : Int) : List UInt8 := eight.getD (pickN c 8) [] ++ digL (pickN (c.tdiv 8) 1000)

theorem saysK_len (c : Int) : (saysK c).length ≤ 40 := by
  unfold saysK
  rw [List.length_append]
  have h1 := digL_len (pickN (c.tdiv 8) 1000) 2 (pickN_lt _ (by omega))
  have h2 : ∀ k, k < 8 → (eight.getD k []).length ≤ 6 := by decide
  have := h2 (pickN c 8) (pickN_lt c (by omega))
  omega

set_option maxRecDepth 10000 in
set_option maxHeartbeats 2000000 in
theorem says_any (c : Int) (w : World) (h1 : -9223372036854775808 ≤ c) (h2 : c ≤ 9223372036854775807) :
    Calls Tryz.prog 37 #[.int .i64 c] w fun e w' => e = .returned (SV (saysK c)) ∧ Below w.heap.size w w' := by
  have hb := (Below.refl w.heap.size w).alloc (Nat.le_refl _) (.cells (eight.map SV).toArray 9)
  have hc := row_at (w := w) eight (pickN c 8) (pickN_lt c (by omega))
  have hlt : (pickN c 8 : Int) < 8 := by have := pickN_lt c (n := 8) (by omega); omega
  have hk := pickN_lt (c.tdiv 8) (n := 1000) (by omega)
  have HL := hide (show saysK c = eight.getD (pickN c 8) [] ++ digL (pickN (c.tdiv 8) 1000) from rfl)
  have hp := fun W => kpick_any c 8 W h1 h2 (by omega) (by omega)
  have hp2 := fun W => kpick_any (c.tdiv 8) 1000 W (tdiv8 c h1 h2).1 (tdiv8 c h1 h2).2 (by omega) (by omega)
  have hdg := fun W => digits_any (pickN (c.tdiv 8) 1000) W (by omega)
  have hsz : w.heap.size < (w.alloc (.cells (eight.map SV).toArray 9)).heap.size := by simp
  have hl1 : (eight.getD (pickN c 8) []).length ≤ 6 := by
    have h2 : ∀ k, k < 8 → (eight.getD k []).length ≤ 6 := by decide
    exact h2 (pickN c 8) (pickN_lt c (by omega))
  have hl2 := digL_len (pickN (c.tdiv 8) 1000) 2 (pickN_lt _ (by omega))
  generalize saysK c = line at *
  generalize pickN (c.tdiv 8) 1000 = m at *
  generalize pickN c 8 = k at *
  generalize eight.getD k [] = pre at *
  generalize digL m = dg at *
  go_enter Tryz.func37, Tryz.ntmps37
  go_wp2_with fail
  refine (hp2 _).mono ?_
  rintro e w' ⟨rfl, hww⟩
  rw [hww]
  clear hww w' hp2
  go_upto_region 3 with fail
  change Code.wp _ _ _ _ (w.alloc (.cells (eight.map SV).toArray 9))
  generalize w.alloc (.cells (eight.map SV).toArray 9) = W at *
  generalize hbn : w.heap.size = b at *
  have HC : Hid (W.drew.cell? ⟨b, k, none⟩ = some (SV pre)) := hc
  clear hc
  go_region_held (fun X => X.cell? ⟨b, k, none⟩ = some (SV pre)) (first | exact unhide HC | exact unhide HC2)
    (first | (go_at_call 19; refine (hp _).mono ?_; rintro e w' ⟨rfl, hww⟩; rw [hww]; clear hww w') | (go_at_call 25; refine (hdg _).mono ?_; rintro e w3 ⟨rfl, hb3⟩; have HC2 := hide ((hb3.cell (p := ⟨b, k, none⟩) hsz).trans (unhide HC))))
  all_goals
    have hfin : Below b w w3 := hb.trans ⟨hb3.os, hb3.tape, hb3.output, hb3.size, fun j hj => hb3.block j (Nat.lt_trans hj hsz)⟩
    rw [← hbn] at hfin
    have HFI := hide hfin
    clear hfin hb3 hb
    go_wp2_with fail
    go_ret
    refine ⟨?_, unhide HFI⟩
    rw [unhide HL]
    exact congrArg (fun x => Ending.returned (.string x)) (bytes_append pre dg)

end Go.Proofs.YtbljamcdaoofbaaGreatDoor

/- A store of loamkeep's in memory: the program's, with the document's state beside it as a ghost. -/
namespace Go.Proofs.YtbljamcdaoofbaaGreatDoor
open Go.RowKit

theorem StoreAt.refootK {w : World} {F G : Nat → Prop} {p : Nat} {ns : List Node} {va : Value} (h : StoreAt w F p ns va) (hFG : ∀ b, b < w.heap.size → F b → G b) : StoreAt w G p ns va :=
  ⟨h.block, h.row, h.nodes, h.apart, hFG _ h.lt h.inF, fun g hg => hFG _ (ownsRow_type h.row hg).1 (h.inA g hg), fun n hn => ⟨hFG _ (h.nodes n hn).lt (h.inN n hn).1, fun g hg => hFG _ (ownsRow_type (h.nodes n hn).row hg).1 ((h.inN n hn).2 g hg)⟩⟩

/-- The program's store lies at block p, on blocks F, all of them newer than w0; its state is that of the document's (S, L). -/
structure KeepAt (w0 w : World) (F : Nat → Prop) (p : Nat) (S : List Strm) (L : List Rw) : Prop where
  st : ∃ ns va, StoreAt w F p ns va ∧ RelA (ns.map absN) S L
  fine : Fine S L
  high : ∀ b, F b → w0.heap.size ≤ b ∧ b < w.heap.size
  bel : Below w0.heap.size w0 w

theorem KeepAt.moved {w0 w w' : World} {F G : Nat → Prop} {p : Nat} {S : List Strm} {L : List Rw} (h : KeepAt w0 w F p S L) (hm : Moved G w w') (hG : ∀ b, F b → ¬ G b) (hl : ∀ b, b < w0.heap.size → ¬ G b) : KeepAt w0 w' F p S L := by
  obtain ⟨ns, va, hst, hrel⟩ := h.st
  refine ⟨⟨ns, va, hst.keep (fun b hb hf => hm.block b hb (hG b hf)), hrel⟩, h.fine, fun b hb => ⟨(h.high b hb).1, Nat.lt_of_lt_of_le (h.high b hb).2 hm.size⟩, ?_⟩
  exact h.bel.trans ⟨hm.os, hm.tape, hm.output, hm.size, fun b hb => hm.block b (Nat.lt_of_lt_of_le hb h.bel.size) (hl b hb)⟩

theorem KeepAt.below {w0 w w' : World} {F : Nat → Prop} {p : Nat} {S : List Strm} {L : List Rw} (h : KeepAt w0 w F p S L) (hb : Below w.heap.size w w') : KeepAt w0 w' F p S L :=
  h.moved (G := fun _ => False) ⟨hb.os, hb.tape, hb.output, hb.size, fun b hb' _ => hb.block b hb'⟩ (fun _ _ g => g) (fun _ _ g => g)

theorem KeepAt.rebase {w00 w0 w : World} {F : Nat → Prop} {p : Nat} {S : List Strm} {L : List Rw} (h : KeepAt w0 w F p S L) (hb : Below w00.heap.size w00 w0) : KeepAt w00 w F p S L :=
  ⟨h.st, h.fine, fun b hf => ⟨Nat.le_trans hb.size (h.high b hf).1, (h.high b hf).2⟩, hb.trans (h.bel.mono hb.size)⟩

theorem Glob.base {w0 w : World} (h : Glob w0) (hb : Below w0.heap.size w0 w) : Glob w := h.below hb

def NewP (w : World) (e : Ending) (w' : World) : Prop := e = .returned (.pointer (some ⟨w.heap.size, 0, none⟩)) ∧ KeepAt w w' (fun b => b = w.heap.size) w.heap.size [] []

theorem knew_any (w : World) : Calls Tryz.prog 30 #[] w (NewP w) := by
  refine (new_any w).mono ?_
  rintro e w' ⟨rfl, rfl⟩
  refine ⟨rfl, ⟨⟨[], .slice none 0 0, ⟨heap_alloc_new w _, World.ownsRow_nil _ _ _ _, fun n hn => (by simp at hn), List.Pairwise.nil, rfl, fun g hg => (by cases hg), fun n hn => (by simp at hn)⟩, RelA.empty⟩, Fine.empty, ?_, (Below.refl _ w).alloc (Nat.le_refl _) _⟩⟩
  rintro b rfl
  simp

/-- what a push leaves -/
def PushP (w0 w : World) (F : Nat → Prop) (p : Nat) (S : List Strm) (L : List Rw) (l : List UInt8) (t : Int) (x : List UInt8) (e : Ending) (w' : World) : Prop :=
  e = .returned (.int .i64 (pushR S L l t x).1) ∧ ∃ F', KeepAt w0 w' F' p (pushR S L l t x).2.1 (pushR S L l t x).2.2 ∧ Moved F w w' ∧ (∀ b, F' b → F b ∨ w.heap.size ≤ b)

theorem kpush_any {w0 w : World} {F : Nat → Prop} {p : Nat} {S : List Strm} {L : List Rw} (l x : List UInt8) (t : Int) (h : KeepAt w0 w F p S L) (hl : l.length ≤ 1048576) (hx : x.length ≤ 1048576) :
    Calls Tryz.prog 23 #[.pointer (some ⟨p, 0, none⟩), .string ⟨l.toArray⟩, .int .i64 t, .string ⟨x.toArray⟩] w (PushP w0 w F p S L l t x) := by
  obtain ⟨ns, va, hst, hrel⟩ := h.st
  refine (push_any l x t hst (by rw [hrel.len']; exact hrel.six) hrel.rising (by rw [hrel.total]; exact hrel.many) hl hx).mono ?_
  rintro e w' ⟨rfl, ⟨ns', va', hst', hab⟩, hm⟩
  refine ⟨by rw [hrel.code], fun b => (F b ∨ w.heap.size ≤ b) ∧ b < w'.heap.size, ⟨⟨ns', va', hst'.refootK (fun b hb hf => ⟨hf, hb⟩), by rw [hab]; exact hrel.push l t x⟩, h.fine.push l t x hl, ?_, ?_⟩, hm, fun b hb => hb.1⟩
  · rintro b ⟨hb | hb, hlt⟩
    · exact ⟨(h.high b hb).1, hlt⟩
    · exact ⟨Nat.le_trans h.bel.size hb, hlt⟩
  · exact h.bel.trans ⟨hm.os, hm.tape, hm.output, hm.size, fun b hb => hm.block b (Nat.lt_of_lt_of_le hb h.bel.size) (fun hf => by have := (h.high b hf).1; omega)⟩

def DropP (w0 w : World) (F : Nat → Prop) (p : Nat) (S : List Strm) (L : List Rw) (b : Int) (e : Ending) (w' : World) : Prop :=
  e = .returned (.tuple #[.int .i64 (dropR L b).1, .int .i64 (dropR L b).2.1]) ∧ ∃ F', KeepAt w0 w' F' p S (dropR L b).2.2 ∧ Moved F w w' ∧ (∀ b, F' b → F b ∨ w.heap.size ≤ b)

theorem kdrop_any {w0 w : World} {F : Nat → Prop} {p : Nat} {S : List Strm} {L : List Rw} (b : Int) (h : KeepAt w0 w F p S L) :
    Calls Tryz.prog 22 #[.pointer (some ⟨p, 0, none⟩), .int .i64 b] w (DropP w0 w F p S L b) := by
  obtain ⟨ns, va, hst, hrel⟩ := h.st
  refine (drop_any b hst (by rw [hrel.len']; exact hrel.six) (by rw [hrel.total]; exact hrel.many) (fun n hn => hrel.order _ (List.mem_map_of_mem hn))).mono ?_
  rintro e w' ⟨rfl, ⟨ns', va', hst', hab⟩, hm⟩
  have hd := hrel.drop b
  refine ⟨by rw [hd.1, hd.2.1], fun b => (F b ∨ w.heap.size ≤ b) ∧ b < w'.heap.size, ⟨⟨ns', va', hst'.refootK (fun b hb hf => ⟨hf, hb⟩), by rw [hab]; exact hd.2.2⟩, h.fine.drop b, ?_, ?_⟩, hm, fun b hb => hb.1⟩
  · rintro b ⟨hb | hb, hlt⟩
    · exact ⟨(h.high b hb).1, hlt⟩
    · exact ⟨Nat.le_trans h.bel.size hb, hlt⟩
  · exact h.bel.trans ⟨hm.os, hm.tape, hm.output, hm.size, fun b hb => hm.block b (Nat.lt_of_lt_of_le hb h.bel.size) (fun hf => by have := (h.high b hf).1; omega)⟩

def StrmP (w : World) (S : List Strm) (e : Ending) (w' : World) : Prop :=
  ∃ v, e = .returned v ∧ w'.ownsRow w.heap.size 9 1 v (streamsR S).length ((streamsR S).map SV) ∧ Below w.heap.size w w'

theorem kstreams_any {w0 w : World} {F : Nat → Prop} {p : Nat} {S : List Strm} {L : List Rw} (h : KeepAt w0 w F p S L) :
    Calls Tryz.prog 16 #[.pointer (some ⟨p, 0, none⟩)] w (StrmP w S) := by
  obtain ⟨ns, va, hst, hrel⟩ := h.st
  refine (streams_any hst (by rw [hrel.len']; exact hrel.six)).mono ?_
  rintro e w' ⟨v, rfl, hown, hb⟩
  have hs : streamsR S = ns.map (fun n => n.lab) := by
    rw [← hrel.streams, List.map_map]
    rfl
  exact ⟨v, rfl, by rw [hs, List.length_map]; exact hown, hb⟩

theorem krows_any {w0 w : World} {F : Nat → Prop} {p : Nat} {S : List Strm} {L : List Rw} (l : List UInt8) (fr tt lim : Int) (bw : Bool) (h : KeepAt w0 w F p S L) (hl : l.length ≤ 1048576) (hg : Glob w0) :
    Calls Tryz.prog 20 #[.pointer (some ⟨p, 0, none⟩), .string ⟨l.toArray⟩, .int .i64 fr, .int .i64 tt, .int .i64 lim, .bool bw] w (RowsP3 w (rowsA l fr tt lim bw L) (rowsE l fr tt lim).1 (rowsE l fr tt lim).2) := by
  obtain ⟨ns, va, hst, hrel⟩ := h.st
  have hg' := hg.base h.bel
  exact pRows_any l fr tt lim bw hst hrel h.fine hl hg'.1 hg'.2.1 hg'.2.2

end Go.Proofs.YtbljamcdaoofbaaGreatDoor

/- Rows in order, as loamkeep puts them. -/
namespace Go.Proofs.YtbljamcdaoofbaaGreatDoor
open Go.RowKit

/-- rows in their order -/
def ordLs (L : List Rw) : List Rw := L.foldl insR []
theorem ordLs_snoc (L : List Rw) (k : Nat) (h : k < L.length) : ordLs (L.take (k + 1)) = insR (ordLs (L.take k)) L[k] := by
  rw [List.take_succ_eq_append_getElem h, ordLs, List.foldl_append]
  rfl
theorem ordLs_len (L : List Rw) : (ordLs L).length = L.length := by
  have h : ∀ (L : List Rw) (o : List Rw), (L.foldl insR o).length = o.length + L.length := by
    intro L
    induction L with
    | nil => intro o; simp
    | cons x L ih =>
      intro o
      rw [List.foldl_cons, ih, insR_len]
      simp
      omega
  have := h L []
  simpa [ordLs] using this

set_option maxRecDepth 10000 in
set_option maxHeartbeats 4000000 in
theorem ordered_any {w : World} {v : Value} {L : List Rw} (h : w.ownsRow 0 38 3 v L.length (L.flatMap cellsR)) (hL : L.length ≤ 300) :
    Calls Tryz.prog 17 #[v] w (RowsP w (ordLs L)) := by
  obtain ⟨i0, hi, hz0, hz1, hz2⟩ := info_parts Tryz.info38
  obtain ⟨aL, capL, rfl, hncL, hcmL, nilL, aoL, cellL, -⟩ := owns_form h
  have HNL := hide nilL
  have HAL := hide aoL
  have HCL := hide cellL
  clear h nilL aoL cellL
  unfold maxLen at hcmL
  go_enter Tryz.func17, Tryz.ntmps17
  go_wp2_with fail
  go_loopw [3, 4] (fun v i wr => ∃ k : Nat, k ≤ L.length ∧ i = .int .i64 k ∧ wr.ownsRow w.heap.size 38 3 v (ordLs (L.take k)).length ((ordLs (L.take k)).flatMap cellsR) ∧ Below w.heap.size w wr) (fun _ i _ => L.length - (intOf i).toNat)
  case atStart => exact ⟨0, Nat.zero_le _, rfl, World.ownsRow_nil _ _ _ _, Below.refl _ _⟩
  case round =>
    obtain ⟨k, hk, rfl, hown, hbr⟩ := hrel
    have hszr := hbr.size
    by_cases hlt : k < L.length
    · obtain ⟨⟨g, o, sp⟩, rfl⟩ : ∃ a, aL = some a := by
        cases aL with
        | none => have := (unhide HNL rfl).1; omega
        | some a => exact ⟨a, rfl⟩
      obtain ⟨ho, hsp, -, hgw⟩ := unhide HAL _ rfl
      simp only at ho hsp hgw
      subst ho hsp
      obtain ⟨e0, e1, e2⟩ := cellsR_at L k hlt
      have y0 := ((hbr.cell (p := ⟨g, k * 3, none⟩) hgw).trans (unhide HCL _ rfl _ (by omega))).trans e0
      have y1 := ((hbr.cell (p := ⟨g, k * 3 + 1, none⟩) hgw).trans (unhide HCL _ rfl _ (by omega))).trans e1
      have y2 := ((hbr.cell (p := ⟨g, k * 3 + 2, none⟩) hgw).trans (unhide HCL _ rfl _ (by omega))).trans e2
      clear e0 e1 e2
      have HS := hide (ordLs_snoc L k hlt)
      have HLE := hide (ordLs_len (L.take k))
      have hown5 := hown
      have hbw5 := hbr
      have hsz5 := hszr
      have hlen := unhide HLE
      rw [List.length_take] at hlen
      clear hown HLE hbr hszr
      generalize ordLs (L.take k) = O at *
      generalize L[k] = r at *
      obtain ⟨lab, t, line⟩ := r
      simp only at y0 y1 y2 HS ⊢
      generalize wr = w5 at *
      have HBW := hide hbw5
      have HS2 := HS
      clear HS
      obtain ⟨aO, capO, rfl, hncO, hcmO, nilO, aoO, cellO, -⟩ := owns_form hown5
      unfold maxLen at hcmO
      have HNO := hide nilO
      have HAO := hide aoO
      have HCO := hide cellO
      have HOW := hide hown5
      clear nilO aoO cellO hown5
      have hO3 : O.length ≤ 300 := by omega
      clear hlen
      have hIP := insPos_le O (lab, t, line) O.length
      have hki : (k : Int) < (L.length : Int) := by omega
      go_upto_block 2 with fail
      go_cut [5] from 15 to 60 (fun a wx => a = .int .i64 (insPos O (lab, t, line) O.length) ∧ ∃ n, wx = w5.drewN n)
      case first =>
        go_wp2_with fail
        go_loopw [5] (fun a wx => ∃ m : Nat, m ≤ O.length ∧ a = .int .i64 m ∧ insPos O (lab, t, line) O.length = insPos O (lab, t, line) m ∧ ∃ n, wx = w5.drewN n) (fun a _ => (intOf a).toNat)
        case atStart => exact ⟨O.length, Nat.le_refl _, rfl, rfl, 0, rfl⟩
        case round =>
          obtain ⟨m, hm, rfl, hpos, n, rfl⟩ := hrel
          have HP := hide hpos
          clear hpos
          cases m with
          | zero =>
            go_wp2_with fail
            go_quiet (fail)
            go_wp2
            go_meet
            exact ⟨by rw [unhide HP]; rfl, (by first | exact ⟨_, rfl⟩ | exact ⟨_, drewN_more _ _ _⟩)⟩
          | succ m =>
            have hml : m < O.length := by omega
            have HP2 := hide (show insPos O (lab, t, line) (m + 1) = if gtR (O.getD m ([], 0, [])) (lab, t, line) = true then insPos O (lab, t, line) m else m + 1 from rfl)
            have hgd : O.getD m ([], 0, []) = O[m] := by simp [List.getD_eq_getElem?_getD, hml]
            rw [hgd] at HP2
            obtain ⟨⟨g2, o, sp⟩, rfl⟩ : ∃ a, aO = some a := by
              cases aO with
              | none => have := (unhide HNO rfl).1; omega
              | some a => exact ⟨a, rfl⟩
            obtain ⟨ho, hsp, -, hgw⟩ := unhide HAO _ rfl
            simp only at ho hsp hgw
            subst ho hsp
            obtain ⟨e0, e1, -⟩ := cellsR_at O m hml
            have q0 := (unhide HCO _ rfl (m * 3) (by omega)).trans e0
            have q1 := (unhide HCO _ rfl (m * 3 + 1) (by omega)).trans e1
            clear e0 e1
            have HG := hide (show gtR O[m] (lab, t, line) = if t = O[m].2.1 then Op.bytesLess lab O[m].1 else decide (t < O[m].2.1) from rfl)
            generalize O[m] = y at *
            obtain ⟨yl, yt, yx⟩ := y
            simp only at q0 q1 HG
            have hmi : (m : Int) < O.length := by omega
            have hm0 : (0 : Int) ≤ (m : Int) := by omega
            by_cases h3 : t < yt
            · have hg1 : gtR (yl, yt, yx) (lab, t, line) = true := by rw [unhide HG, if_neg (by omega)]; simp [h3]
              have HG1 := hide hg1
              clear hg1
              go_wp2_with fail
              go_quiet (fail)
              go_wp2
              go_roundw
              case rel =>
                refine ⟨m, by omega, by go_num, ?_, (by first | exact ⟨_, rfl⟩ | exact ⟨_, drewN_more _ _ _⟩)⟩
                rw [unhide HP, unhide HP2, if_pos (unhide HG1)]
              case measure => simp [intOf]
            · by_cases h4 : t = yt
              · subst h4
                have h33 : ¬ t < t := by omega
                have h44 : (t == t) = true := by simp
                cases h5 : Op.bytesLess lab yl with
                | true =>
                  have hg1 : gtR (yl, t, yx) (lab, t, line) = true := by rw [unhide HG, if_pos rfl]; exact h5
                  have HG1 := hide hg1
                  have f1 : Op.bytesLess yl lab = false := less_asymm h5
                  have f2 : (yl == lab) = false := by simpa using (less_ne h5).symm
                  clear hg1
                  go_wp2_with fail
                  go_quiet (fail)
                  go_wp2
                  go_roundw
                  case rel =>
                    refine ⟨m, by omega, by go_num, ?_, (by first | exact ⟨_, rfl⟩ | exact ⟨_, drewN_more _ _ _⟩)⟩
                    rw [unhide HP, unhide HP2, if_pos (unhide HG1)]
                  case measure => simp [intOf]
                | false =>
                  have hg1 : gtR (yl, t, yx) (lab, t, line) = false := by rw [unhide HG, if_pos rfl]; exact h5
                  have HG1 := hide hg1
                  clear hg1
                  rcases less_total _ _ h5 with e | f1
                  · have f1 : Op.bytesLess yl lab = false := by rw [e]; exact less_irrefl _
                    have f2 : (yl == lab) = true := by simp [e]
                    clear e
                    go_wp2_with fail
                    go_quiet (fail)
                    go_wp2
                    go_meet
                    exact ⟨by rw [unhide HP, unhide HP2, if_neg (by rw [unhide HG1]; simp)]; go_num, (by first | exact ⟨_, rfl⟩ | exact ⟨_, drewN_more _ _ _⟩)⟩
                  · go_wp2_with fail
                    go_quiet (fail)
                    go_wp2
                    go_meet
                    exact ⟨by rw [unhide HP, unhide HP2, if_neg (by rw [unhide HG1]; simp)]; go_num, (by first | exact ⟨_, rfl⟩ | exact ⟨_, drewN_more _ _ _⟩)⟩
              · have hg1 : gtR (yl, yt, yx) (lab, t, line) = false := by rw [unhide HG, if_neg h4]; simp; omega
                have HG1 := hide hg1
                have h6 : ¬ yt = t := fun e => h4 e.symm
                have h7 : (yt == t) = false := by simpa using h6
                have h8 : decide (t < yt) = false := by simp; omega
                have h9 : decide (yt = t) = false := by simpa using h6
                have h10 : yt < t := by omega
                clear hg1
                go_wp2_with fail
                go_quiet (fail)
                go_wp2
                go_meet
                exact ⟨by rw [unhide HP, unhide HP2, if_neg (by rw [unhide HG1]; simp)]; go_num, (by first | exact ⟨_, rfl⟩ | exact ⟨_, drewN_more _ _ _⟩)⟩
      case rest =>
        obtain ⟨rfl, n5, rfl⟩ := hcut
        have HOW2 : Hid ((w5.drewN n5).ownsRow w.heap.size 38 3 (.slice aO O.length capO) O.length (O.flatMap cellsR)) := HOW
        have hbW : Below w.heap.size w (w5.drewN n5) := Below.drawn (unhide HBW) n5
        have HI2 := hide (show insR O (lab, t, line) = O.take (insPos O (lab, t, line) O.length) ++ [(lab, t, line)] ++ O.drop (insPos O (lab, t, line) O.length) from rfl)
        have y0' : (w5.drewN n5).cell? ⟨g, k * 3, none⟩ = some (SV lab) := y0
        have y1' : (w5.drewN n5).cell? ⟨g, k * 3 + 1, none⟩ = some (.int .i64 t) := y1
        have y2' : (w5.drewN n5).cell? ⟨g, k * 3 + 2, none⟩ = some (SV line) := y2
        have hwrW : g < (w5.drewN n5).heap.size := World.block_lt_of_cell? _ _ y0'
        have HAO2 : Hid (∀ a, aO = some a → a.off = 0 ∧ a.spot = none ∧ w.heap.size ≤ a.block ∧ a.block < (w5.drewN n5).heap.size) := HAO
        have HCO2 : Hid (∀ a, aO = some a → ∀ j, j < O.length * 3 → (w5.drewN n5).cell? ⟨a.block, j, none⟩ = (O.flatMap cellsR)[j]?) := HCO
        clear y0 y1 y2 HOW HBW HAO HCO hbw5 hsz5
        generalize w5.drewN n5 = W at *
        generalize insPos O (lab, t, line) O.length = a at *
        clear w5
        have hsW := hbW.size
        cases aO with
        | none =>
          have hO0 : O = [] := List.eq_nil_of_length_eq_zero (unhide HNO rfl).1
          have hc0 : capO = 0 := (unhide HNO rfl).2
          subst hO0 hc0
          have ha0 : a = 0 := by simpa using hIP
          subst ha0
          go_upto_region 10 with (at_builtin; refine wpList_append_at _ rfl _ _ 28 rfl w.heap.size 38 i0 _ 3 40 Tryz.underlying28 hi hz0 hz1 hz2 rfl (by decide) (.slice none 0 0) _ _ rfl (World.ownsRow_nil _ _ _ _) none 0 0 [] rfl rfl (fun _ => ⟨rfl, rfl⟩) (by intro _ e; cases e) (by intro u hu; cases hu) (by unfold maxLen; omega) (by omega) hsW ?_; intro v1 w1 hown1 hgrow1 hwh1)
          simp only [Nat.zero_add, List.nil_append] at hown1
          have hb1 : Below w.heap.size w w1 := hbW.grown hgrow1 hsW (fun k hk => by simp [Value.ownBlock] at hk)
          have x0 : w1.cell? ⟨g, k * 3, none⟩ = some (SV lab) := (World.cell?_of_block (a := ⟨g, k * 3, none⟩) (hgrow1.block _ hwrW (by simp [Value.ownBlock]))).trans y0'
          have x1 : w1.cell? ⟨g, k * 3 + 1, none⟩ = some (.int .i64 t) := (World.cell?_of_block (a := ⟨g, k * 3 + 1, none⟩) (hgrow1.block _ hwrW (by simp [Value.ownBlock]))).trans y1'
          have x2 : w1.cell? ⟨g, k * 3 + 2, none⟩ = some (SV line) := (World.cell?_of_block (a := ⟨g, k * 3 + 2, none⟩) (hgrow1.block _ hwrW (by simp [Value.ownBlock]))).trans y2'
          clear hgrow1 hwh1 y0' y1' y2'
          have hs1 := hb1.size
          go_upto_region 11 with (at_builtin; refine wpList_append_at _ rfl _ _ 28 rfl w.heap.size 38 i0 _ 3 40 Tryz.underlying28 hi hz0 hz1 hz2 rfl (by decide) v1 _ _ rfl (hown1.alloc _) (some ⟨w1.heap.size, 0, none⟩) 1 1 [SV lab, .int .i64 t, SV line] rfl rfl (by intro e; cases e) (cells_new w1 _ _) (by intro u hu; simp at hu; rcases hu with rfl | rfl | rfl <;> rfl) (by unfold maxLen; omega) (by omega) (by simp; omega) ?_; intro v2 w2 hown2 hgrow2 hwh2)
          have hb2 : Below w.heap.size w w2 := (hb1.alloc hs1 _).grown hgrow2 (by simp; omega) (fun k hk => (hown1.lt k hk).1)
          clear hgrow2 hwh2 x0 x1 x2
          have hs2 := hb2.size
          go_wp2_with (at_builtin; refine wpList_append_at _ rfl _ _ 28 rfl w.heap.size 38 i0 _ 3 40 Tryz.underlying28 hi hz0 hz1 hz2 rfl (by decide) v2 _ _ rfl hown2 none 0 0 [] rfl rfl (fun _ => ⟨rfl, rfl⟩) (by intro _ e; cases e) (by intro u hu; cases hu) (by unfold maxLen; omega) (by omega) (by omega) ?_; intro v3 w3 hown3 hgrow3 hwh3)
          go_roundw
          case rel =>
            refine ⟨k + 1, by omega, by go_num, ?_, hb2.grown hgrow3 hs2 (fun k hk => (hown2.lt k hk).1)⟩
            rw [unhide HS2, unhide HI2]
            exact hown3
          case measure => simp [intOf]; omega
        | some ad =>
          obtain ⟨go, o, sp⟩ := ad
          obtain ⟨ho, hsp, hBg, hgoW⟩ := unhide HAO2 _ rfl
          simp only at ho hsp hBg hgoW
          subst ho hsp
          have hcO := unhide HCO2 _ rfl
          simp only at hcO
          have HCC := hide hcO
          clear hcO HCO2 HAO2 HNO
          go_upto_region 10 with (at_builtin; refine wpList_append_at _ rfl _ _ 28 rfl w.heap.size 38 i0 _ 3 40 Tryz.underlying28 hi hz0 hz1 hz2 rfl (by decide) (.slice none 0 0) _ _ rfl (World.ownsRow_nil _ _ _ _) (some ⟨go, 0, none⟩) a capO ((O.take a).flatMap cellsR) rfl (by rw [flat3_len, List.length_take, Nat.min_eq_left hIP]) (by intro e; cases e) (row_take (unhide HCC) a) (flat3_one _) (by unfold maxLen; omega) (by omega) hsW ?_; intro v1 w1 hown1 hgrow1 hwh1)
          simp only [Nat.zero_add, List.nil_append] at hown1
          have hb1 : Below w.heap.size w w1 := hbW.grown hgrow1 hsW (fun k hk => by simp [Value.ownBlock] at hk)
          have x0 : w1.cell? ⟨g, k * 3, none⟩ = some (SV lab) := (World.cell?_of_block (a := ⟨g, k * 3, none⟩) (hgrow1.block _ hwrW (by simp [Value.ownBlock]))).trans y0'
          have x1 : w1.cell? ⟨g, k * 3 + 1, none⟩ = some (.int .i64 t) := (World.cell?_of_block (a := ⟨g, k * 3 + 1, none⟩) (hgrow1.block _ hwrW (by simp [Value.ownBlock]))).trans y1'
          have x2 : w1.cell? ⟨g, k * 3 + 2, none⟩ = some (SV line) := (World.cell?_of_block (a := ⟨g, k * 3 + 2, none⟩) (hgrow1.block _ hwrW (by simp [Value.ownBlock]))).trans y2'
          have g1 : w1.heap[go]? = W.heap[go]? := hgrow1.block _ hgoW (by simp [Value.ownBlock])
          have hgo1 : go < w1.heap.size := Nat.lt_of_lt_of_le hgoW hgrow1.size
          have hv1 : v1.ownBlock ≠ some go := by
            rcases hwh1 with e | e
            · rw [e]; simp [Value.ownBlock]
            · rw [e]; simp; omega
          clear hgrow1 hwh1 y0' y1' y2'
          have hs1 := hb1.size
          go_upto_region 11 with (at_builtin; refine wpList_append_at _ rfl _ _ 28 rfl w.heap.size 38 i0 _ 3 40 Tryz.underlying28 hi hz0 hz1 hz2 rfl (by decide) v1 _ _ rfl (hown1.alloc _) (some ⟨w1.heap.size, 0, none⟩) 1 1 [SV lab, .int .i64 t, SV line] rfl rfl (by intro e; cases e) (cells_new w1 _ _) (by intro u hu; simp at hu; rcases hu with rfl | rfl | rfl <;> rfl) (by unfold maxLen; omega) (by omega) (by simp; omega) ?_; intro v2 w2 hown2 hgrow2 hwh2)
          have hb2 : Below w.heap.size w w2 := (hb1.alloc hs1 _).grown hgrow2 (by simp; omega) (fun k hk => (hown1.lt k hk).1)
          have g2 : w2.heap[go]? = W.heap[go]? := (hgrow2.block _ (by simp; omega) (fun e => hv1 e.symm)).trans ((Go.RowKit.Below.heap_alloc _ _ _ hgo1).trans g1)
          have HC2 := hide (show ∀ j, j < O.length * 3 → w2.cell? ⟨go, j, none⟩ = (O.flatMap cellsR)[j]? from fun j hj => (World.cell?_of_block (a := ⟨go, j, none⟩) g2).trans (unhide HCC j hj))
          clear hgrow2 hwh2 x0 x1 x2 g1 g2 HCC
          have hs2 := hb2.size
          go_wp2_with (at_builtin; refine wpList_append_at _ rfl _ _ 28 rfl w.heap.size 38 i0 _ 3 40 Tryz.underlying28 hi hz0 hz1 hz2 rfl (by decide) v2 _ _ rfl hown2 _ _ _ ((O.drop a).flatMap cellsR) rfl ?c1 ?c2 ?c3 (flat3_one _) (by unfold maxLen; omega) (by omega) (by omega) ?_; rotate_right; intro v3 w3 hown3 hgrow3 hwh3)
          · go_roundw
            case rel =>
              refine ⟨k + 1, by omega, by go_num, ?_, hb2.grown hgrow3 hs2 (fun k hk => (hown2.lt k hk).1)⟩
              rw [unhide HS2, unhide HI2]
              have hn : (O.take a ++ [(lab, t, line)] ++ O.drop a).length = a + 1 + (O.length - a) := by simp; omega
              rw [hn, List.flatMap_append, List.flatMap_append]
              exact hown3
            case measure => simp [intOf]; omega
          · have := flat3_len (O.drop a)
            rw [List.length_drop, List.length_flatMap] at this
            simpa using this
          · intro j u hj
            have hl := (List.getElem?_eq_some_iff.1 hj).1
            rw [flat3_len, List.length_drop] at hl
            omega
          · intro j u hj
            rw [flat3_drop, List.getElem?_drop] at hj
            have hl := (List.getElem?_eq_some_iff.1 hj).1
            rw [flat3_len] at hl
            exact (unhide HC2 _ hl).trans hj
    · go_wp2
      go_ret
      refine ⟨_, rfl, ?_, hbr⟩
      rw [List.take_of_length_le (by omega)] at hown
      exact hown

end Go.Proofs.YtbljamcdaoofbaaGreatDoor
