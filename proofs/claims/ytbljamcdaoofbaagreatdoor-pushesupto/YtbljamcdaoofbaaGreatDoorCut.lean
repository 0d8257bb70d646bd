/- loamref.cut gives the pieces of a text between the bytes of a kind, in new memory. -/
import Derived.Test.YtbljamcdaoofbaaGreatDoorLeaf
namespace Go.Proofs.YtbljamcdaoofbaaGreatDoor
open Go.RowKit

theorem Tryz.info9 : (Tryz.prog.info? 9).map (fun i => (i.zero, i.size, i.bytes)) = some (some (.string ByteArray.empty), 1, 16) := by kernel_rfl

/-- a list of bytes as a Go string -/
abbrev SV (l : List UInt8) : Value := .string ⟨l.toArray⟩

/-- the pieces that are whole, and the one that is not -/
def cutSt (c : UInt8) (l : List UInt8) : List (List UInt8) × List UInt8 :=
  l.foldl (fun st x => if x = c then (st.1 ++ [st.2], []) else (st.1, st.2 ++ [x])) ([], [])
def cutL (c : UInt8) (l : List UInt8) : List (List UInt8) := (cutSt c l).1 ++ [(cutSt c l).2]

theorem take_snoc (s : ByteArray) (k : Nat) (h : k < s.size) : s.data.toList.take (k + 1) = s.data.toList.take k ++ [s[k]] := by
  rw [List.take_succ_eq_append_getElem (by simpa using h)]; rfl

theorem cutSt_snoc (c : UInt8) (l : List UInt8) (x : UInt8) : cutSt c (l ++ [x]) = if x = c then ((cutSt c l).1 ++ [(cutSt c l).2], []) else ((cutSt c l).1, (cutSt c l).2 ++ [x]) := by
  simp [cutSt, List.foldl_append]

theorem extract_list (s : ByteArray) (a b : Nat) : s.extract a b = ⟨((s.data.toList.take b).drop a).toArray⟩ := by
  apply ByteArray.ext
  rw [ByteArray.data_extract]
  apply Array.toList_inj.1
  simp [Array.toList_extract, List.drop_take, List.extract_eq_take_drop]

theorem SV_extract (s : ByteArray) (a b : Nat) : Value.string (s.extract a b) = SV ((s.data.toList.take b).drop a) := by rw [extract_list]

/-- one round: the byte is the one at which is cut -/
theorem cut_hit (s : ByteArray) (c : UInt8) (k : Nat) (h : k < s.size) (hc : s[k] = c) :
    cutSt c (s.data.toList.take (k + 1)) = ((cutSt c (s.data.toList.take k)).1 ++ [(cutSt c (s.data.toList.take k)).2], []) := by
  rw [take_snoc s k h, cutSt_snoc, if_pos hc]
theorem cut_miss (s : ByteArray) (c : UInt8) (k : Nat) (h : k < s.size) (hc : ¬ s[k] = c) :
    cutSt c (s.data.toList.take (k + 1)) = ((cutSt c (s.data.toList.take k)).1, (cutSt c (s.data.toList.take k)).2 ++ [s[k]]) := by
  rw [take_snoc s k h, cutSt_snoc, if_neg hc]

theorem cutSt_len (c : UInt8) (l : List UInt8) : ∀ st : List (List UInt8) × List UInt8,
    (l.foldl (fun st x => if x = c then (st.1 ++ [st.2], []) else (st.1, st.2 ++ [x])) st).1.length ≤ st.1.length + l.length := by
  induction l with
  | nil => intro st; simp
  | cons x l ih =>
    intro st
    rw [List.foldl_cons]
    refine Nat.le_trans (ih _) ?_
    split <;> simp <;> omega
theorem cutSt_le (c : UInt8) (l : List UInt8) : (cutSt c l).1.length ≤ l.length := by
  have := cutSt_len c l ([], [])
  simpa [cutSt] using this

theorem u8_eq (a c : UInt8) : ((a.toNat : Int) == (c.toNat : Int)) = decide (a = c) := by
  by_cases h : a = c
  · simp [h]
  · have : a.toNat ≠ c.toNat := fun e => h (UInt8.toNat_inj.1 e)
    simp [h]; omega

set_option maxRecDepth 10000 in
set_option maxHeartbeats 1000000 in
theorem cut_any (s : ByteArray) (c : UInt8) (w : World) (hs : s.size ≤ 1048576) :
    Calls Tryz.prog 116 #[.string s, .int .u8 c.toNat] w fun e w' => ∃ v, e = .returned v ∧ w'.ownsRow w.heap.size 9 1 v (cutL c s.data.toList).length ((cutL c s.data.toList).map SV) ∧ Below w.heap.size w w' := by
  obtain ⟨i0, hi, hz0, hz1, hz2⟩ := info_parts Tryz.info9
  have hl : s.data.toList.length = s.size := by simp
  have HL := hide hl
  clear hl
  go_enter Tryz.func116, Tryz.ntmps116
  go_wp2
  go_loopw [5, 6, 7] (fun l f i wr => ∃ k fr : Nat, k ≤ s.size ∧ i = .int .i64 k ∧ f = .int .i64 fr ∧ fr ≤ k ∧ wr.ownsRow w.heap.size 9 1 l (cutSt c (s.data.toList.take k)).1.length ((cutSt c (s.data.toList.take k)).1.map SV) ∧ (s.data.toList.take k).drop fr = (cutSt c (s.data.toList.take k)).2 ∧ Below w.heap.size w wr)
    (fun _ _ i _ => s.size - (intOf i).toNat)
  case atStart => exact ⟨0, 0, Nat.zero_le _, rfl, rfl, Nat.le_refl _, World.ownsRow_nil _ _ _ _, rfl, Below.refl _ _⟩
  case round =>
    obtain ⟨k, fr, hk, rfl, rfl, hfr, hown, hcur, hbel⟩ := hrel
    have HC := hide hcur
    clear hcur
    have hlen := cutSt_le c (s.data.toList.take k)
    rw [List.length_take, unhide HL] at hlen
    have hsz := hbel.size
    by_cases hlt : k < s.size
    · by_cases hc : (s[k] = c)
      · have hcb : ((s[k].toNat : Int) == (c.toNat : Int)) = true := by rw [u8_eq]; simp [hc]
        have HH := hide (cut_hit s c k hlt hc)
        clear hc
        go_wp2_with (first
          | (at_builtin; refine wpList_append_own _ rfl (.tmp 19) (.tmp 24) 33 rfl w.heap.size 9 i0 (.string ByteArray.empty) 1 16 Tryz.underlying33 hi hz0 hz1 hz2 rfl (by decide) _ _ _ rfl (hown.alloc _) ⟨wr.heap.size, 0, none⟩ 1 1 [.string (s.extract fr k)] rfl rfl (by intro j u hj; match j, hj with | 0, hj => simp at hj; subst hj; simp [Addr.add]) (by intro u hu; simp at hu; subst hu; rfl) (by unfold maxLen; omega) (by omega) (by simp; omega) ?_; intro v' w1 hown1 hgrow1 _; have hbel1 := (hbel.alloc (by omega) (.cells #[.string (s.extract fr k)] 9)).grown hgrow1 (by simp; omega) (fun g hg => (hown.lt g hg).1); clear hgrow1))
        go_roundw
        case rel =>
          refine ⟨k + 1, k + 1, by omega, by go_num, by go_num, Nat.le_refl _, ?_, ?_, hbel1⟩
          · rw [unhide HH]
            simp only [List.length_append, List.map_append, List.length_singleton, List.map_cons, List.map_nil, ← unhide HC, ← SV_extract]
            exact hown1
          · rw [unhide HH]; simp
        case measure => simp [intOf]; omega
      · have hcb : ((s[k].toNat : Int) == (c.toNat : Int)) = false := by rw [u8_eq]; simp [hc]
        have HH := hide (cut_miss s c k hlt hc)
        clear hc
        go_wp2
        go_roundw
        case rel =>
          refine ⟨k + 1, fr, by omega, by go_num, rfl, by omega, ?_, ?_, hbel⟩
          · rw [unhide HH]; exact hown
          · rw [unhide HH]
            show _ = (cutSt c (s.data.toList.take k)).2 ++ [s[k]]
            rw [← unhide HC, take_snoc s k hlt, List.drop_append_of_le_length]
            rw [List.length_take, unhide HL]; omega
        case measure => simp [intOf]; omega
    · have hk' : k = s.size := by omega
      go_wp2_with (first
          | (at_builtin; refine wpList_append_own _ rfl (.tmp 28) (.tmp 32) 33 rfl w.heap.size 9 i0 (.string ByteArray.empty) 1 16 Tryz.underlying33 hi hz0 hz1 hz2 rfl (by decide) _ _ _ rfl (hown.alloc _) ⟨wr.heap.size, 0, none⟩ 1 1 [.string (s.extract fr s.size)] rfl rfl (by intro j u hj; match j, hj with | 0, hj => simp at hj; subst hj; simp [Addr.add]) (by intro u hu; simp at hu; subst hu; rfl) (by unfold maxLen; omega) (by omega) (by simp; omega) ?_; intro v' w1 hown1 hgrow1 _; have hbel1 := (hbel.alloc (by omega) (.cells #[.string (s.extract fr s.size)] 9)).grown hgrow1 (by simp; omega) (fun g hg => (hown.lt g hg).1); clear hgrow1))
      go_ret
      refine ⟨v', rfl, ?_, hbel1⟩
      have htk : s.data.toList.take k = s.data.toList := List.take_of_length_le (by rw [unhide HL]; omega)
      have hcur := unhide HC
      rw [htk] at hown1 hcur
      have hx : Value.string (s.extract fr s.size) = SV (cutSt c s.data.toList).2 := by
        rw [SV_extract, List.take_of_length_le (by rw [unhide HL]; omega), hcur]
      rw [hx] at hown1
      simpa [cutL] using hown1

theorem cut_l (l : List UInt8) (c : UInt8) (w : World) (hs : l.length ≤ 1048576) :
    Calls Tryz.prog 116 #[.string ⟨l.toArray⟩, .int .u8 c.toNat] w fun e w' => ∃ v, e = .returned v ∧ w'.ownsRow w.heap.size 9 1 v (cutL c l).length ((cutL c l).map SV) ∧ Below w.heap.size w w' := by
  have h := cut_any ⟨l.toArray⟩ c w (by simp [ByteArray.size]; omega)
  simpa using h

end Go.Proofs.YtbljamcdaoofbaaGreatDoor
