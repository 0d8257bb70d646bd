/- loamref.pair and loamref.isLabels answer as plain functions on bytes do. -/
import Derived.Test.YtbljamcdaoofbaaGreatDoorCut
namespace Go.Proofs.YtbljamcdaoofbaaGreatDoor
open Go.RowKit

def pairL (s : List UInt8) : List UInt8 × List UInt8 × Bool :=
  match cutL 61 s with
  | [a, b] => (a, b, wordB false a && wordB true b)
  | _ => ([], [], false)

theorem cut_piece_le (c : UInt8) (s : List UInt8) : ∀ st : List (List UInt8) × List UInt8, (∀ x ∈ st.1, x.length ≤ 1048576) → st.2.length + s.length ≤ 1048576 →
    (∀ x ∈ (s.foldl (fun st x => if x = c then (st.1 ++ [st.2], []) else (st.1, st.2 ++ [x])) st).1, x.length ≤ 1048576) ∧ (s.foldl (fun st x => if x = c then (st.1 ++ [st.2], []) else (st.1, st.2 ++ [x])) st).2.length ≤ 1048576 := by
  induction s with
  | nil => intro st h1 h2; exact ⟨h1, by simpa using h2⟩
  | cons a s ih =>
    intro st h1 h2
    rw [List.foldl_cons]
    simp only [List.length_cons] at h2
    apply ih
    · split
      · intro x hx
        simp only [List.mem_append, List.mem_singleton] at hx
        rcases hx with hx | rfl
        · exact h1 x hx
        · omega
      · exact h1
    · split
      · simp; omega
      · simp; omega

theorem cutL_le (c : UInt8) (s : List UInt8) (h : s.length ≤ 1048576) : ∀ x ∈ cutL c s, x.length ≤ 1048576 := by
  have := cut_piece_le c s ([], []) (by simp) (by simpa using h)
  intro x hx
  simp only [cutL, List.mem_append, List.mem_singleton] at hx
  rcases hx with hx | rfl
  · exact this.1 x hx
  · exact this.2

set_option maxRecDepth 10000 in
set_option maxHeartbeats 1000000 in
theorem pair_l (l : List UInt8) (w : World) (hs : l.length ≤ 1048576) :
    Calls Tryz.prog 117 #[.string ⟨l.toArray⟩] w fun e w' => e = .returned (.tuple #[SV (pairL l).1, SV (pairL l).2.1, .bool (pairL l).2.2]) ∧ Below w.heap.size w w' := by
  have hle := cutL_le 61 l hs
  go_enter Tryz.func117, Tryz.ntmps117
  go_wp2_with fail
  refine (cut_l l 61 _ hs).mono ?_
  rintro e w1 ⟨v, rfl, hown, hbel⟩
  have hpos : 0 < (cutL 61 l).length := by simp [cutL]
  obtain ⟨g, cap, rfl, hg, hgw, hnc, hcm, hcell, hfz⟩ := owns_open hown hpos
  clear hown
  by_cases h2 : (cutL 61 l).length = 2
  · obtain ⟨a, b, hab⟩ : ∃ a b, cutL 61 l = [a, b] := by
      match hc : cutL 61 l, h2 with
      | [a, b], _ => exact ⟨a, b, rfl⟩
    have hp : pairL l = (a, b, wordB false a && wordB true b) := by simp [pairL, hab]
    have HP := hide hp
    have ha : a.length ≤ 1048576 := hle a (by simp [hab])
    have hb : b.length ≤ 1048576 := hle b (by simp [hab])
    have c0 : w1.cell? ⟨g, 0, none⟩ = some (.string ⟨a.toArray⟩) := by rw [hcell 0 (by omega), hab]; rfl
    have c1 : w1.cell? ⟨g, 1, none⟩ = some (.string ⟨b.toArray⟩) := by rw [hcell 1 (by omega), hab]; rfl
    rw [hab] at *
    clear hcell hab hp hle h2
    go_wp2_with fail
    refine (isWord_l a false _ ha).mono ?_
    rintro e w2 ⟨rfl, rfl⟩
    go_wp2_with fail
    refine (isWord_l b true _ hb).mono ?_
    rintro e w3 ⟨rfl, rfl⟩
    cases hwa : wordB false a
    all_goals
      rw [hwa] at HP
      clear hwa
      go_wp2
      go_quiet (fail)
      go_wp2
      go_ret3
      refine ⟨?_, Go.Proofs.YtbljamcdaoofbaaGreatDoor.Below.drawn hbel _⟩
      rw [unhide HP]; simp
  · have hn : (((cutL 61 l).length : Int) == 2) = false := by simp; omega
    have hp : pairL l = ([], [], false) := by
      unfold pairL
      split
      · rename_i h; rw [h] at h2; simp at h2
      · rfl
    have HP := hide hp
    clear hp hcell h2
    go_wp2
    go_ret3
    refine ⟨?_, hbel⟩
    rw [unhide HP]; simp

/-- the reference's own look at labels, from a piece on -/
def labelsGo : Bool → List UInt8 → List (List UInt8) → Bool
  | _, _, [] => true
  | first, was, p :: rest =>
    if (!(pairL p).2.2 || (!first && (Op.bytesLess (pairL p).1 was || ((pairL p).1 == was)))) = true then false else labelsGo false (pairL p).1 rest
def labelsB (s : List UInt8) : Bool := labelsGo true [] (cutL 44 s) && decide ((cutL 44 s).length ≤ 4)

theorem labelsGo_bad {k : Nat} {was p : List UInt8} {rest : List (List UInt8)} (h : (pairL p).2.2 = false ∨ (0 < k ∧ (Op.bytesLess (pairL p).1 was = true ∨ ((pairL p).1 == was) = true))) : labelsGo (k == 0) was (p :: rest) = false := by
  rw [labelsGo, if_pos]
  rcases h with h | ⟨h0, h⟩
  · simp [h]
  · have : (k == 0) = false := by simp; omega
    rw [this]
    rcases h with h | h <;> simp only [h] <;> simp
theorem labelsGo_ok {k : Nat} {was p : List UInt8} {rest : List (List UInt8)} (h1 : (pairL p).2.2 = true) (h : ¬ 0 < k ∨ (Op.bytesLess (pairL p).1 was = false ∧ ((pairL p).1 == was) = false)) : labelsGo (k == 0) was (p :: rest) = labelsGo ((k + 1) == 0) (pairL p).1 rest := by
  rw [labelsGo, if_neg]
  · simp
  · rcases h with h | ⟨h, h'⟩
    · have : (k == 0) = true := by simp; omega
      rw [this]; simp [h1]
    · simp only [h1, h, h']; simp

set_option maxRecDepth 10000 in
set_option maxHeartbeats 1000000 in
theorem isLabels_l (l : List UInt8) (w : World) (hs : l.length ≤ 1048576) :
    Calls Tryz.prog 88 #[.string ⟨l.toArray⟩] w fun e w' => e = .returned (.bool (labelsB l)) ∧ Below w.heap.size w w' := by
  have hle := cutL_le 44 l hs
  go_enter Tryz.func88, Tryz.ntmps88
  go_wp2_with fail
  refine (cut_l l 44 _ hs).mono ?_
  rintro e w1 ⟨v, rfl, hown, hbel⟩
  have hpos : 0 < (cutL 44 l).length := by simp [cutL]
  have hcl := cutSt_le 44 l
  have hlen : (cutL 44 l).length ≤ 1048577 := by simp [cutL]; omega
  obtain ⟨g, cap, rfl, hg, hgw, hnc, hcm, hcell, hfz⟩ := owns_open hown hpos
  have hB : labelsB l = (labelsGo true [] (cutL 44 l) && decide ((cutL 44 l).length ≤ 4)) := rfl
  have HB := hide hB
  clear hown hB hcl
  generalize cutL 44 l = L at *
  have HLE := hide hle
  clear hle
  have HC := hide hcell
  clear hcell hfz
  go_wp2
  go_loopw [4, 5] (fun wa i wr => ∃ (k : Nat) (was : List UInt8), k ≤ L.length ∧ i = .int .i64 k ∧ wa = .string ⟨was.toArray⟩ ∧ labelsGo true [] L = labelsGo (k == 0) was (L.drop k) ∧ Below w.heap.size w wr ∧ Below w1.heap.size w1 wr)
    (fun _ i _ => L.length - (intOf i).toNat)
  case atStart => exact ⟨0, [], Nat.zero_le _, rfl, rfl, rfl, hbel, Below.refl _ _⟩
  case round =>
    obtain ⟨k, was, hk, rfl, rfl, hgo, hbr, hbr1⟩ := hrel
    have HG := hide hgo
    clear hgo
    by_cases hlt : k < L.length
    · have hce : wr.cell? ⟨g, k, none⟩ = some (.string ⟨(L[k]).toArray⟩) := by
        rw [hbr1.cell (by exact hgw), unhide HC k (by omega)]
        simp [hlt]
      have hp : L[k].length ≤ 1048576 := unhide HLE _ (List.getElem_mem hlt)
      have HD := hide (List.drop_eq_getElem_cons hlt)
      go_wp2_with fail
      refine (pair_l L[k] _ hp).mono ?_
      rintro e w2 ⟨rfl, hb2⟩
      go_wp2
      all_goals first
        | (go_ret
           refine ⟨ret_bool ?_, hbr.trans (hb2.mono hbr.size)⟩
           rw [unhide HB, unhide HG, unhide HD, labelsGo_bad (by first | exact .inr ⟨‹_›, ‹_›⟩ | (left; simpa using ‹¬ (pairL L[k]).snd.snd = true›))]
           rfl)
        | (go_roundw
           case rel =>
             refine ⟨k + 1, (pairL L[k]).1, by omega, by go_num, rfl, ?_, hbr.trans (hb2.mono hbr.size), hbr1.trans (hb2.mono hbr1.size)⟩
             rw [unhide HG, unhide HD, labelsGo_ok ‹_› (by first | exact .inl ‹_› | exact .inr ‹_›)]
           case measure => simp [intOf]; omega)
    · go_wp2
      go_ret
      refine ⟨ret_bool ?_, hbr⟩
      rw [unhide HB, unhide HG, List.drop_of_length_le (by omega)]
      simp [labelsGo]; omega

end Go.Proofs.YtbljamcdaoofbaaGreatDoor
