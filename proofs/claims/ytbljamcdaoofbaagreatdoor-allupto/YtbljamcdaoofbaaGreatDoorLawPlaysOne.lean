/- A whole script. -/
import Derived.Test.YtbljamcdaoofbaaGreatDoorLawMeasToLawAny
import Derived.Deep.CutRange
import Derived.Deep.RegionWith
namespace Go.Proofs.YtbljamcdaoofbaaGreatDoor
open Go.RowKit

/-- the operation that lies there -/
def OpAt (w : World) (sb so : Nat) (kind on : Int) (text line : List UInt8) (A B C : Int) (back : Bool) : Prop :=
  w.cell? ⟨sb, so, none⟩ = some (.int .i64 kind) ∧ w.cell? ⟨sb, so + 1, none⟩ = some (.int .i64 on) ∧ w.cell? ⟨sb, so + 2, none⟩ = some (.string ⟨text.toArray⟩) ∧ w.cell? ⟨sb, so + 3, none⟩ = some (.string ⟨line.toArray⟩) ∧
  w.cell? ⟨sb, so + 4, none⟩ = some (.int .i64 A) ∧ w.cell? ⟨sb, so + 5, none⟩ = some (.int .i64 B) ∧ w.cell? ⟨sb, so + 6, none⟩ = some (.int .i64 C) ∧ w.cell? ⟨sb, so + 7, none⟩ = some (.bool back)

/-- what a script's operation is -/
def OpFit (w : World) (sb so : Nat) : Prop :=
  ∃ (kind on : Int) (text line : List UInt8) (A B C : Int) (back : Bool), OpAt w sb so kind on text line A B C back ∧ -9223372036854775808 ≤ on ∧ on ≤ 9223372036854775807 ∧ text.length ≤ 1048576 ∧ line.length ≤ 1048576

set_option maxRecDepth 10000 in
set_option maxHeartbeats 4000000 in
theorem plays_any {w0 : World} {ao : Option Addr} {n cap : Nat} (hi : Nat) (hi4 : 4 ≤ hi) (hi6 : hi ≤ 6) (hgl : Glob w0) (hn : n ≤ 1048576) (hs : ∀ i, i < n → ∃ sb so, ao = some ⟨sb, so, none⟩ ∧ sb < w0.heap.size ∧ OpFit w0 sb (so + i * 8)) :
    Calls Tryz.prog 12 #[.slice ao n cap, .int .i64 hi] w0 fun e w' => e = .returned (.bool true) ∧ Below w0.heap.size w0 w' := by
  have HS := hide hs
  have HGL := hide hgl
  clear hs hgl
  go_enter Tryz.func12, Tryz.ntmps12
  go_wp2_with fail
  refine (begins_first w0).mono ?_
  rintro e w1 ⟨rfl, hW1⟩
  have HW1 := hide hW1
  clear hW1
  go_wp2_with fail
  obtain ⟨N1, cap1, a1, p1, p2, -, -, hst1⟩ := (unhide HW1).stores (unhide HGL)
  refine (hst1 0 _ (by repeat (first | exact Below.refl _ _ | apply Below.drew | apply Below.drawn)) (by omega) (by omega) 2 0 [97, 112, 112, 61, 119, 101, 98, 44, 122, 111, 110, 101, 61, 97] [103, 101, 116, 32, 55] 5 0 0 false (by omega) (by omega) (by decide) (by decide)).mono ?_
  rintro e w2 ⟨rfl, hW2⟩
  have HW2 := hide hW2
  clear hW2 hst1
  go_wp2_with fail
  obtain ⟨N2, cap2, a2, q1, q2, -, -, hst2⟩ := (unhide HW2).stores (unhide HGL)
  refine (hst2 0 _ (by repeat (first | exact Below.refl _ _ | apply Below.drew | apply Below.drawn)) (by omega) (by omega) 3 0 [] [] 0 0 0 false (by omega) (by omega) (by decide) (by decide)).mono ?_
  rintro e w3 ⟨rfl, hW3⟩
  have HW3 := hide hW3
  clear hW3 hst2 HW1 HW2
  go_wp2
  go_loopw [9] (fun i wr => ∃ k : Nat, k ≤ n ∧ i = .int .i64 k ∧ Hid (Well w0 w0.heap.size (k + 2) wr)) (fun i _ => n - (intOf i).toNat)
  case atStart => exact ⟨0, Nat.zero_le _, rfl, (unhide HW3).fresh (by repeat (first | exact Below.refl _ _ | apply Below.drew | apply Below.drawn))⟩
  case round =>
    obtain ⟨k, hk, rfl, HW⟩ := hrel
    by_cases hlt : k < n
    · obtain ⟨sb, so, rfl, hsb, kind, on, text, line, A, B, C, back, hop, ho1, ho2, htx, hln⟩ := unhide HS k hlt
      obtain ⟨s0, s1, s2, s3, s4, s5, s6, s7⟩ := hop
      have hbel := (unhide HW).bel
      have c0 : wr.cell? ⟨sb, so + k * 8, none⟩ = some (.int .i64 kind) := (hbel.cell (by exact hsb)).trans s0
      have c1 : wr.cell? ⟨sb, so + k * 8 + 1, none⟩ = some (.int .i64 on) := (hbel.cell (by exact hsb)).trans s1
      have c2 : wr.cell? ⟨sb, so + k * 8 + 2, none⟩ = some (.string ⟨text.toArray⟩) := (hbel.cell (by exact hsb)).trans s2
      have c3 : wr.cell? ⟨sb, so + k * 8 + 3, none⟩ = some (.string ⟨line.toArray⟩) := (hbel.cell (by exact hsb)).trans s3
      have c4 : wr.cell? ⟨sb, so + k * 8 + 4, none⟩ = some (.int .i64 A) := (hbel.cell (by exact hsb)).trans s4
      have c5 : wr.cell? ⟨sb, so + k * 8 + 5, none⟩ = some (.int .i64 B) := (hbel.cell (by exact hsb)).trans s5
      have c6 : wr.cell? ⟨sb, so + k * 8 + 6, none⟩ = some (.int .i64 C) := (hbel.cell (by exact hsb)).trans s6
      have c7 : wr.cell? ⟨sb, so + k * 8 + 7, none⟩ = some (.bool back) := (hbel.cell (by exact hsb)).trans s7
      clear hbel s0 s1 s2 s3 s4 s5 s6 s7
      go_upto_region 13 with fail
      clear c0 c1 c2 c3 c4 c5 c6 c7
      have HW' : Hid (Well w0 w0.heap.size (k + 2) (wr.alloc (.cells #[.int .i64 kind, .int .i64 on, .string ⟨text.toArray⟩, .string ⟨line.toArray⟩, .int .i64 A, .int .i64 B, .int .i64 C, .bool back] 73))) := (unhide HW).fresh ((Below.refl _ _).alloc (Nat.le_refl _) _)
      have hbl : (wr.alloc (.cells #[.int .i64 kind, .int .i64 on, .string ⟨text.toArray⟩, .string ⟨line.toArray⟩, .int .i64 A, .int .i64 B, .int .i64 C, .bool back] 73)).heap[wr.heap.size]? = some (.cells (opCells kind on text line A B C back) 73 (0, 0)) := heap_alloc_new wr _
      generalize wr.heap.size = b at *
      generalize wr.alloc (.cells #[.int .i64 kind, .int .i64 on, .string ⟨text.toArray⟩, .string ⟨line.toArray⟩, .int .i64 A, .int .i64 B, .int .i64 C, .bool back] 73) = X at *
      obtain ⟨d0, d1, d2, d3, d4, d5, d6, d7⟩ := opCells_at hbl
      obtain ⟨N, capN, aN, n1, n2, e0, hwl, hst⟩ := (unhide HW').stores (unhide HGL)
      have HST := hide hst
      clear hbl HW hst HW3
      by_cases hk1 : kind < 1
      · go_wp2
        go_roundw
        case rel => exact ⟨k + 1, by omega, by go_num, ((unhide HW').fresh (by repeat (first | exact Below.refl _ _ | apply Below.drew | apply Below.drawn))).more (by omega)⟩
        case measure => simp [intOf]; omega
      by_cases hk4 : (hi : Int) < kind
      · go_wp2
        go_roundw
        case rel => exact ⟨k + 1, by omega, by go_num, ((unhide HW').fresh (by repeat (first | exact Below.refl _ _ | apply Below.drew | apply Below.drawn))).more (by omega)⟩
        case measure => simp [intOf]; omega
      go_upto_region 14 with fail
      go_cut [6] from 30 to 69 (fun s wx => s = .bool true ∧ Hid (Well w0 w0.heap.size (k + 3) wx))
      case first =>
        go_region_with (first | (go_at_call 33; refine (pick_any on N _ ho1 ho2 (by omega) (by omega)).mono ?_; rintro e w' ⟨⟨d, hd, rfl⟩, rfl⟩) | (go_at_call 32; refine (unhide HST d _ (by repeat (first | exact Below.refl _ _ | apply Below.drew | apply Below.drawn)) (by omega) hd kind on text line A B C back (by omega) (by omega) htx hln).mono ?_; rintro e wx ⟨rfl, hWx⟩))
        all_goals (go_wp2_with fail; go_meet; exact ⟨rfl, hWx⟩)
      case rest =>
        obtain ⟨rfl, HX⟩ := hcut
        go_wp2_with fail
        refine ((unhide HX).fresh (by repeat (first | exact Below.refl _ _ | apply Below.drew | apply Below.drawn))).still (by omega) |>.mono ?_
        rintro e w5 ⟨rfl, hW5⟩
        have HW5 := hide hW5
        clear hW5
        go_wp2
        go_roundw
        case rel => exact ⟨k + 1, by omega, by go_num, (unhide HW5).fresh (by repeat (first | exact Below.refl _ _ | apply Below.drew | apply Below.drawn))⟩
        case measure => simp [intOf]; omega
    · have hbel := (unhide HW).bel
      have HB := hide hbel
      clear hbel
      go_wp2
      go_ret
      exact ⟨rfl, by repeat (first | exact unhide HB | apply Below.drew | apply Below.drawn)⟩

end Go.Proofs.YtbljamcdaoofbaaGreatDoor
