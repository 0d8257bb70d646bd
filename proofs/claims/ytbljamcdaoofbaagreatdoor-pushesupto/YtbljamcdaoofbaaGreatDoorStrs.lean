/- What the program takes of package strings: Cut at one byte, Compare, Clone. -/
import Derived.Test.YtbljamcdaoofbaaGreatDoorCut
import Derived.Lib.Bytealg
namespace Go.Proofs.YtbljamcdaoofbaaGreatDoor
open Go.RowKit

/-- a text cut at the first byte of a kind -/
def cut1 (c : UInt8) : List UInt8 → List UInt8 × List UInt8 × Bool
  | [] => ([], [], false)
  | x :: r => if x = c then ([], r, true) else (x :: (cut1 c r).1, (cut1 c r).2.1, (cut1 c r).2.2)

theorem cut1_index (c : UInt8) (l : List UInt8) :
    (Lib.indexByte l c = -1 ∧ cut1 c l = (l, [], false)) ∨ (∃ i : Nat, Lib.indexByte l c = i ∧ i < l.length ∧ cut1 c l = (l.take i, l.drop (i + 1), true)) := by
  induction l with
  | nil => left; exact ⟨rfl, rfl⟩
  | cons x r ih =>
    by_cases h : x = c
    · right
      exact ⟨0, by simp [Lib.indexByte, h], by simp, by simp [cut1, h]⟩
    · rcases ih with ⟨h1, h2⟩ | ⟨i, h1, h2, h3⟩
      · left
        exact ⟨by simp [Lib.indexByte, h, h1], by simp [cut1, h, h2]⟩
      · right
        refine ⟨i + 1, ?_, by simp; omega, by simp [cut1, h, h3]⟩
        have : ¬ ((i : Int) = -1) := by omega
        simp [Lib.indexByte, h, h1, this]

set_option maxHeartbeats 400000 in
theorem indexByteString_run (s : ByteArray) (c : Int) (w : World) :
    (callFunc 184 #[.string s, .int .u8 c]).run Tryz.prog w = .ok (.value (.int .i64 (Lib.indexByte s.data.toList c.toNat.toUInt8))) w := by
  rw [run_callFunc_extern (e := Extern.BytealgIndexByte.indexByte) Tryz.func184 (by kernel_rfl) (by kernel_rfl) (by kernel_rfl) (by kernel_rfl), Lib.run_indexByteString]
  rfl

set_option maxRecDepth 10000 in
set_option maxHeartbeats 400000 in
theorem indexByte_any (l : List UInt8) (c : UInt8) (w : World) :
    Calls Tryz.prog 163 #[.string ⟨l.toArray⟩, .int .u8 c.toNat] w fun e w' => e = .returned (.int .i64 (Lib.indexByte l c)) ∧ w' = w := by
  have hx := indexByteString_run
  go_enter Tryz.func163, Tryz.ntmps163
  go_wp2
  go_ret
  exact ⟨by simp, rfl⟩

set_option maxRecDepth 10000 in
set_option maxHeartbeats 400000 in
theorem index_one (l : List UInt8) (c : UInt8) (w : World) :
    Calls Tryz.prog 138 #[.string ⟨l.toArray⟩, .string ⟨#[c]⟩] w fun e w' => e = .returned (.int .i64 (Lib.indexByte l c)) ∧ w' = w := by
  by_cases h : l = [c]
  · subst h
    go_enter Tryz.func138, Tryz.ntmps138
    go_wp2
    go_ret
    exact ⟨by simp [Lib.indexByte], rfl⟩
  · have hne : (([c] : List UInt8) == l) = false := by simp; exact fun e => h e.symm
    go_enter Tryz.func138, Tryz.ntmps138
    go_wp2_with fail
    rw [show (({ data := #[c] } : ByteArray)[0]'(by simp [ByteArray.size])) = c from rfl]
    refine (indexByte_any l c _).mono ?_
    rintro e w1 ⟨rfl, rfl⟩
    go_wp2
    go_ret
    exact ⟨rfl, rfl⟩

set_option maxRecDepth 10000 in
set_option maxHeartbeats 400000 in
theorem cutLite_one (l : List UInt8) (c : UInt8) (w : World) (hl : l.length ≤ 1048576) :
    Calls Tryz.prog 111 #[.string ⟨l.toArray⟩, .string ⟨#[c]⟩] w fun e w' => e = .returned (.tuple #[SV (cut1 c l).1, SV (cut1 c l).2.1, .bool (cut1 c l).2.2]) ∧ ∃ n, w' = w.drewN n := by
  have hsz : (⟨l.toArray⟩ : ByteArray).size = l.length := by simp [ByteArray.size]
  go_enter Tryz.func111, Tryz.ntmps111
  go_wp2_with fail
  refine (index_one l c _).mono ?_
  rintro e w1 ⟨rfl, rfl⟩
  rcases cut1_index c l with ⟨h1, h2⟩ | ⟨i, h1, h2, h3⟩
  · have H2 := hide h2
    clear h2
    rw [h1]
    clear h1
    go_wp2
    go_ret3
    refine ⟨?_, 0, rfl⟩
    rw [unhide H2]
    rfl
  · have H3 := hide h3
    clear h3
    rw [h1]
    clear h1
    go_wp2
    go_quiet (fail)
    go_wp2
    go_ret3
    refine ⟨?_, _, rfl⟩
    rw [unhide H3]
    have e1 : (⟨l.toArray⟩ : ByteArray).extract 0 i = ⟨(l.take i).toArray⟩ := by rw [extract_list]; simp
    have e2 : (⟨l.toArray⟩ : ByteArray).extract (i + 1) l.length = ⟨(l.drop (i + 1)).toArray⟩ := by rw [extract_list]; simp
    show Ending.returned (.tuple #[.string ((⟨l.toArray⟩ : ByteArray).extract 0 i), .string ((⟨l.toArray⟩ : ByteArray).extract (i + 1) l.length), .bool true]) = _
    rw [e1, e2]

set_option maxRecDepth 10000 in
set_option maxHeartbeats 400000 in
theorem cut_one (l : List UInt8) (c : UInt8) (w : World) (hl : l.length ≤ 1048576) :
    Calls Tryz.prog 83 #[.string ⟨l.toArray⟩, .string ⟨#[c]⟩] w fun e w' => e = .returned (.tuple #[SV (cut1 c l).1, SV (cut1 c l).2.1, .bool (cut1 c l).2.2]) ∧ ∃ n, w' = w.drewN n := by
  go_enter Tryz.func83, Tryz.ntmps83
  go_wp2_with fail
  refine (cutLite_one l c _ hl).mono ?_
  rintro e w1 ⟨rfl, n, rfl⟩
  go_wp2
  go_ret3
  exact ⟨rfl, n, rfl⟩

set_option maxHeartbeats 400000 in
theorem cmpstring_run (a b : ByteArray) (w : World) :
    (callFunc 134 #[.string a, .string b]).run Tryz.prog w = .ok (.value (.int .i64 (Lib.compareBytes a.data.toList b.data.toList))) w := by
  rw [run_callFunc_extern (e := Extern.BytealgCompare.compare) Tryz.func134 (by kernel_rfl) (by kernel_rfl) (by kernel_rfl) (by kernel_rfl), Lib.run_compareString]
  rfl

set_option maxRecDepth 10000 in
set_option maxHeartbeats 400000 in
theorem compare_any (a b : List UInt8) (w : World) :
    Calls Tryz.prog 76 #[.string ⟨a.toArray⟩, .string ⟨b.toArray⟩] w fun e w' => e = .returned (.int .i64 (Lib.compareBytes a b)) ∧ w' = w := by
  have hx := cmpstring_run
  go_enter Tryz.func76, Tryz.ntmps76
  go_wp2
  go_ret
  exact ⟨by simp, rfl⟩

end Go.Proofs.YtbljamcdaoofbaaGreatDoor
