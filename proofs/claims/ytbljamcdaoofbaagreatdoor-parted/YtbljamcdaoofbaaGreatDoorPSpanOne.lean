/- The number in brackets: spanOf and isSpan of the program. -/
import Derived.Test.YtbljamcdaoofbaaGreatDoorShelfOne
import Derived.Test.YtbljamcdaoofbaaGreatDoorParseToRefRest
import Derived.Lib.AtoiAll
namespace Go.Proofs.YtbljamcdaoofbaaGreatDoor
open Go.RowKit

def spanFrom (s : Nat) (l : List UInt8) : Nat := l.foldl (fun n c => min (10 * n + (c.toNat - 48)) 1000001) s
theorem spanL_eq (l : List UInt8) : spanL l = spanFrom 0 l := rfl
theorem spanFrom_max (l : List UInt8) : spanFrom 1000001 l = 1000001 := by
  induction l with
  | nil => rfl
  | cons c r ih =>
    rw [spanFrom, List.foldl_cons, show min (10 * 1000001 + (c.toNat - 48)) 1000001 = 1000001 by omega]
    exact ih

theorem span_parse (l : List UInt8) (hd : l.all isD = true) : ∀ acc : Nat, acc < 18446744073709551616 →
    (∃ u, Lib.parseUint10 acc l = .ok u ∧ spanFrom (min acc 1000001) l = min u 1000001) ∨ (Lib.parseUint10 acc l = .range ∧ spanFrom (min acc 1000001) l = 1000001) := by
  induction l with
  | nil => intro acc _; exact .inl ⟨acc, rfl, rfl⟩
  | cons c r ih =>
    intro acc hacc
    rw [List.all_cons, Bool.and_eq_true] at hd
    have hc := hd.1
    simp only [isD, digitB, Bool.and_eq_true, decide_eq_true_eq] at hc
    have hst : spanFrom (min acc 1000001) (c :: r) = spanFrom (min (acc * 10 + (c.toNat - 48)) 1000001) r := by
      rw [spanFrom, List.foldl_cons]
      have : min (10 * min acc 1000001 + (c.toNat - 48)) 1000001 = min (acc * 10 + (c.toNat - 48)) 1000001 := by omega
      rw [this]
      rfl
    rw [hst, Lib.parseUint10, if_pos (by omega)]
    split
    · right
      rw [show min (acc * 10 + (c.toNat - 48)) 1000001 = 1000001 by omega]
      exact ⟨rfl, spanFrom_max r⟩
    · split
      · right
        rw [show min (acc * 10 + (c.toNat - 48)) 1000001 = 1000001 by omega]
        exact ⟨rfl, spanFrom_max r⟩
      · exact ih hd.2 _ (by omega)

/-- is a row of digits a number from 1 to MaxTime? -/
def spanT (l : List UInt8) : Bool := decide (1 ≤ spanL l) && decide (spanL l ≤ 1000000)

/-- the number that spanOf tells -/
def spanV (l : List UInt8) : Int := if spanT l = true then (spanL l : Int) else 0
theorem spanV_t {l : List UInt8} (h : spanT l = true) : spanV l = spanL l := if_pos h
theorem spanV_f {l : List UInt8} (h : spanT l = false) : spanV l = 0 := if_neg (by simp [h])

theorem atoiAll_digits (c : UInt8) (r : List UInt8) (e43 : c.toNat ≠ 43) (e45 : c.toNat ≠ 45) : Lib.atoiAll (c :: r) = (match Lib.parseUint10 0 (c :: r) with
    | .syntax => .syntax
    | .range => .range
    | .ok u => if 9223372036854775808 ≤ u then .range else .ok (u : Int)) := by
  unfold Lib.atoiAll
  simp [Lib.parseMag, e43, e45]
  cases Lib.parseUint10 0 (c :: r) <;> rfl

theorem span_atoi (l : List UInt8) (hd : l.all isD = true) (hne : l ≠ []) :
    (∃ u : Nat, Lib.atoiAll l = .ok (u : Int) ∧ u < 9223372036854775808 ∧ spanL l = min u 1000001) ∨ (Lib.atoiAll l = .range ∧ spanL l = 1000001) := by
  cases l with
  | nil => exact absurd rfl hne
  | cons c r =>
    have hc : isD c = true := by rw [List.all_cons, Bool.and_eq_true] at hd; exact hd.1
    simp only [isD, digitB, Bool.and_eq_true, decide_eq_true_eq] at hc
    have hp := span_parse (c :: r) hd 0 (by omega)
    rw [show min 0 1000001 = 0 from rfl, ← spanL_eq] at hp
    rw [atoiAll_digits c r (by omega) (by omega)]
    rcases hp with ⟨u, h1, h2⟩ | ⟨h1, h2⟩
    · rw [h1]
      by_cases hu : 9223372036854775808 ≤ u
      · right
        simp only [if_pos hu]
        exact ⟨trivial, by omega⟩
      · left
        simp only [if_neg hu]
        exact ⟨u, rfl, by omega, h2⟩
    · rw [h1]
      exact .inr ⟨rfl, h2⟩

/-- what the library's variable holds is an error, or none -/
def ErrAt (w : World) : Prop := ∃ ev, w.cell? ⟨5, 0, none⟩ = some ev ∧ (ev = .nilIface ∨ ∃ te pe, ev = .iface te pe)

theorem below_bytes {w w' : World} {c : TypeId} (h : w' = w ∨ ∃ t, w' = Lib.bytesWorld w c t) : Below w.heap.size w w' := by
  rcases h with rfl | ⟨t, rfl⟩
  · exact Below.refl _ _
  · exact Lib.bytesWorld_below _ _ _

set_option maxRecDepth 10000 in
set_option maxHeartbeats 1000000 in
theorem spanOf_any (l : List UInt8) (W : World) (hd : l.all isD = true) (hne : l ≠ []) (hl : l.length ≤ 200) (hG : ErrAt W) :
    Calls Tryz.prog 179 #[.string ⟨l.toArray⟩] W fun e w' => e = .returned (.tuple #[.int .i64 (spanV l), .bool (spanT l)]) ∧ Below W.heap.size W w' := by
  obtain ⟨ev, hv, hev⟩ := hG
  rcases span_atoi l hd hne with ⟨u, h1, hu, h2⟩ | ⟨h1, h2⟩
  · have hc := Tryz.strconv_Atoi_ok ⟨l.toArray⟩ (by simp [ByteArray.size]; omega) u (by simpa using h1) W
    by_cases hb : 1 ≤ u ∧ u ≤ 1000000
    · have HT := hide (show spanT l = true ∧ (spanL l : Int) = u by simp [spanT]; omega)
      have b1 := hb.1
      have b2 := hb.2
      clear h1 h2 hb
      go_enter Tryz.func179, Tryz.ntmps179
      go_wp2_with fail
      refine hc.mono ?_
      rintro e w1 ⟨rfl, hw⟩
      have HB := hide (below_bytes hw)
      clear hw
      go_wp2
      go_ret2
      rw [spanV_t (unhide HT).1, (unhide HT).1, (unhide HT).2]
      exact ⟨rfl, unhide HB⟩
    · have HT := hide (show spanT l = false by simp [spanT]; omega)
      clear h1 h2
      by_cases b1 : u < 1
      · clear hb
        go_enter Tryz.func179, Tryz.ntmps179
        go_wp2_with fail
        refine hc.mono ?_
        rintro e w1 ⟨rfl, hw⟩
        have HB := hide (below_bytes hw)
        clear hw
        go_wp2
        go_ret2
        rw [spanV_f (unhide HT), unhide HT]
        exact ⟨rfl, unhide HB⟩
      · have b2 : 1000000 < u := by omega
        clear hb
        go_enter Tryz.func179, Tryz.ntmps179
        go_wp2_with fail
        refine hc.mono ?_
        rintro e w1 ⟨rfl, hw⟩
        have HB := hide (below_bytes hw)
        clear hw
        go_wp2
        go_ret2
        rw [spanV_f (unhide HT), unhide HT]
        exact ⟨rfl, unhide HB⟩
  · have hc := Tryz.strconv_Atoi_range ⟨l.toArray⟩ (by simp [ByteArray.size]; omega) (by simpa using h1) ev W hv hev
    have HT := hide (show spanT l = false by simp [spanT]; omega)
    clear h1 h2
    go_enter Tryz.func179, Tryz.ntmps179
    go_wp2_with fail
    refine hc.mono ?_
    rintro e w1 ⟨N, rfl, hN, hbk, hw⟩
    have HB := hide hw
    clear hw hbk
    generalize Lib.atoiSat _ = z
    go_wp2
    go_ret2
    rw [spanV_f (unhide HT), unhide HT]
    exact ⟨rfl, unhide HB⟩

set_option maxRecDepth 10000 in
theorem good_span (l : List UInt8) (W : World) (hd : l.all isD = true) (hne : l ≠ []) (hl : l.length ≤ 200) (hG : ErrAt W) :
    Calls Tryz.prog 178 #[.string ⟨l.toArray⟩] W fun e w' => e = .returned (.bool (spanT l)) ∧ Below W.heap.size W w' := by
  have hs := spanOf_any l W hd hne hl hG
  generalize spanT l = b at *
  generalize spanV l = z at *
  go_enter Tryz.func178, Tryz.ntmps178
  go_wp2_with fail
  refine hs.mono ?_
  rintro e w1 ⟨rfl, hb⟩
  go_wp2
  go_ret
  exact ⟨rfl, hb⟩

end Go.Proofs.YtbljamcdaoofbaaGreatDoor
