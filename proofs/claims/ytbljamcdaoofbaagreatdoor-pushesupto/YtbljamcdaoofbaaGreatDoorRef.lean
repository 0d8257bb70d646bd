/- The reference's store in memory, and what its calls do to it. -/
import Derived.Test.YtbljamcdaoofbaaGreatDoorPair
namespace Go.Proofs.YtbljamcdaoofbaaGreatDoor
open Go.RowKit

abbrev Strm := List UInt8 × Int
abbrev Rw := List UInt8 × Int × List UInt8
def cellsS (x : Strm) : List Value := [SV x.1, .int .i64 x.2]
def cellsR (x : Rw) : List Value := [SV x.1, .int .i64 x.2.1, SV x.2.2]

/-- The reference's store lies at block p: its streams S, its lines L; all its blocks are among F. -/
structure RefAt (w : World) (F : Nat → Prop) (p : Nat) (S : List Strm) (L : List Rw) (vS vL : Value) : Prop where
  block : w.heap[p]? = some (.cells #[vS, vL] 114 (0, 0))
  rowS : w.ownsRow 0 155 2 vS S.length (S.flatMap cellsS)
  rowL : w.ownsRow 0 38 3 vL L.length (L.flatMap cellsR)
  inF : F p
  inS : ∀ g, vS.ownBlock = some g → F g
  inL : ∀ g, vL.ownBlock = some g → F g

theorem cellsS_at (S : List Strm) (k : Nat) (h : k < S.length) : (S.flatMap cellsS)[k * 2]? = some (SV S[k].1) ∧ (S.flatMap cellsS)[k * 2 + 1]? = some (.int .i64 S[k].2) := by
  induction S generalizing k with
  | nil => simp at h
  | cons x S ih =>
    rw [List.flatMap_cons]
    cases k with
    | zero => simp [cellsS]
    | succ k =>
      have := ih k (by simpa using h)
      simp only [cellsS, List.cons_append, List.nil_append, Nat.add_mul, Nat.one_mul, List.getElem?_cons_succ, List.getElem_cons_succ] at this ⊢
      exact this

theorem cellsR_at (L : List Rw) (k : Nat) (h : k < L.length) : (L.flatMap cellsR)[k * 3]? = some (SV L[k].1) ∧ (L.flatMap cellsR)[k * 3 + 1]? = some (.int .i64 L[k].2.1) ∧ (L.flatMap cellsR)[k * 3 + 2]? = some (SV L[k].2.2) := by
  induction L generalizing k with
  | nil => simp at h
  | cons x S ih =>
    rw [List.flatMap_cons]
    cases k with
    | zero => simp [cellsR]
    | succ k =>
      have := ih k (by simpa using h)
      simp only [cellsR, List.cons_append, List.nil_append, Nat.add_mul, Nat.one_mul, List.getElem?_cons_succ, List.getElem_cons_succ] at this ⊢
      exact this

def timeB (t : Int) : Bool := decide (0 ≤ t) && decide (t ≤ 1000000)

set_option maxRecDepth 10000 in
set_option maxHeartbeats 400000 in
theorem times_any (t : Int) (w : World) :
    Calls Tryz.prog 89 #[.int .i64 t] w fun e w' => e = .returned (.bool (timeB t)) ∧ w' = w := by
  by_cases h : 0 ≤ t
  all_goals
    go_enter Tryz.func89, Tryz.ntmps89
    go_wp2
    go_ret
    exact ⟨by simp [timeB, h]; try omega, rfl⟩

/-- the place of a stream among some; their number: it is not there -/
def at_ (S : List Strm) (l : List UInt8) : Nat := S.findIdx (fun y => y.1 == l)
def whereI (S : List Strm) (l : List UInt8) : Int := if at_ S l < S.length then at_ S l else -1

theorem cell_of_block2 {w : World} {p : Nat} {v0 v1 : Value} {t : TypeId} (h : w.heap[p]? = some (.cells #[v0, v1] t (0, 0))) :
    w.cell? ⟨p, 0, none⟩ = some v0 ∧ w.cell? ⟨p, 1, none⟩ = some v1 ∧ (∀ j, w.frozen? ⟨p, j, none⟩ = false) := by
  refine ⟨by simp [World.cell?, h], by simp [World.cell?, h], fun j => by simp [World.frozen?, h]⟩

set_option maxRecDepth 10000 in
set_option maxHeartbeats 1000000 in
theorem where_any {F : Nat → Prop} {p : Nat} {S : List Strm} {L : List Rw} {vS vL : Value} (l : List UInt8) (w : World) (hr : RefAt w F p S L vS vL) (hS : S.length ≤ 6) :
    Calls Tryz.prog 90 #[.pointer (some ⟨p, 0, none⟩), .string ⟨l.toArray⟩] w fun e w' => e = .returned (.int .i64 (whereI S l)) ∧ w' = w := by
  obtain ⟨ao, cap, rfl, hnc, hcm, hnil, hao, hcell, hfz⟩ := owns_form hr.rowS
  have hb := hr.block
  obtain ⟨c0, -, -⟩ := cell_of_block2 hb
  clear hb hr hfz
  go_enter Tryz.func90, Tryz.ntmps90
  go_wp2
  go_loop [5] (fun i => ∃ k : Nat, k ≤ S.length ∧ i = .int .i64 k ∧ (∀ j (h : j < S.length), j < k → (S[j].1 == l) = false)) (fun i => S.length - (intOf i).toNat)
  case atStart => exact ⟨0, Nat.zero_le _, rfl, fun j _ h => by omega⟩
  case round =>
    obtain ⟨k, hk, rfl, hno⟩ := hrel
    have HN := hide hno
    clear hno
    by_cases hlt : k < S.length
    · obtain ⟨⟨g, o, sp⟩, rfl⟩ : ∃ a, ao = some a := by
        cases ao with
        | none => have := (hnil rfl).1; omega
        | some a => exact ⟨a, rfl⟩
      obtain ⟨ho, hsp, -, hgw⟩ := hao _ rfl
      simp only at ho hsp hgw
      subst ho hsp
      have hc := hcell _ rfl (k * 2) (by omega)
      rw [(cellsS_at S k hlt).1] at hc
      clear hcell hao hnil
      go_wp2
      · go_ret
        refine ⟨ret_int ?_, rfl⟩
        have hf : at_ S l = k := by
          unfold at_
          rw [List.findIdx_eq hlt]
          exact ⟨‹(S[k].1 == l) = true›, fun j hj => unhide HN j (by omega) hj⟩
        rw [whereI, hf, if_pos hlt]
      · go_round
        case rel =>
          refine ⟨k + 1, by omega, by go_num, fun j hj hjk => ?_⟩
          by_cases e : j = k
          · subst e; assumption
          · exact unhide HN j hj (by omega)
        case measure => simp [intOf]; omega
    · go_wp2
      go_ret
      refine ⟨ret_int ?_, rfl⟩
      have hf : at_ S l = S.length := by
        unfold at_
        rw [List.findIdx_eq_length]
        intro x hx
        obtain ⟨j, hj, rfl⟩ := List.getElem_of_mem hx
        exact unhide HN j hj (by omega)
      rw [whereI, hf, if_neg (by omega)]

end Go.Proofs.YtbljamcdaoofbaaGreatDoor
