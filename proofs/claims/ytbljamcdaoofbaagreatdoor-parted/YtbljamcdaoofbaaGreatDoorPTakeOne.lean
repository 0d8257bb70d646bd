/- take, at each function that it is handed. -/
import Derived.Test.YtbljamcdaoofbaaGreatDoorPNext0ToPRead
import Derived.Test.YtbljamcdaoofbaaGreatDoorPSpanOne
namespace Go.Proofs.YtbljamcdaoofbaaGreatDoor
open Go.RowKit

theorem good_name (t : List UInt8) (W : World) (h : t.length ≤ 200) : Calls Tryz.prog 104 #[.string ⟨t.toArray⟩] W fun e w' => e = .returned (.bool (wordB false t)) ∧ Below W.heap.size W w' :=
  (pName_any t W (by omega)).mono fun e w' ⟨he, hw⟩ => ⟨he, hw ▸ Below.refl _ _⟩
theorem good_value (t : List UInt8) (W : World) (h : t.length ≤ 200) : Calls Tryz.prog 105 #[.string ⟨t.toArray⟩] W fun e w' => e = .returned (.bool (wordB true t)) ∧ Below W.heap.size W w' :=
  (pValue_any t W (by omega)).mono fun e w' ⟨he, hw⟩ => ⟨he, hw ▸ Below.refl _ _⟩

theorem ErrAt.lt {w : World} (h : ErrAt w) : 5 < w.heap.size := by
  obtain ⟨ev, hv, -⟩ := h
  exact World.block_lt_of_cell? _ _ hv
theorem ErrAt.below {w w' : World} {b : Nat} (h : ErrAt w) (hb : Below b w w') (hl : 5 < b) : ErrAt w' := by
  obtain ⟨ev, hv, hev⟩ := h
  exact ⟨ev, (hb.cell (p := ⟨5, 0, none⟩) hl).trans hv, hev⟩

/-- what holds behind the call of the function that take was handed -/
theorem take_after {w : World} {base rb g cap i : Nat} {ts : List Tok} {x meas by_ : List UInt8} {span : Int} {vm vf : Value} {M : List Mch} {Fs : List Flt} {w2 : World} {u0 u1 u2 : Value} (h : ReaderAt w base rb g cap ts x i meas span by_ vm vf M Fs) (hb : base ≤ w.heap.size) (hb2 : Below (w.alloc (.cells #[u0, u1, u2] 165)).heap.size (w.alloc (.cells #[u0, u1, u2] 165)) w2) :
    ReaderAt w2 base rb g cap ts x i meas span by_ vm vf M Fs ∧ Below base w w2 ∧ w2.cell? ⟨w.heap.size, 0, none⟩ = some u0 ∧ w2.cell? ⟨w.heap.size, 2, none⟩ = some u2 := by
  have h1 : w2.heap[w.heap.size]? = some (.cells #[u0, u1, u2] 165 (0, 0)) := by
    rw [hb2.block _ (by simp)]; exact heap_alloc_new _ _
  obtain ⟨c0, -, c2, -⟩ := cell_of_block3 h1
  exact ⟨(h.below ((Below.refl _ _).alloc (Nat.le_refl _) _)).below hb2, ((Below.refl base w).alloc hb _).trans (hb2.mono (by simp; omega)), c0, c2⟩

set_option maxRecDepth 10000 in
theorem good_any (t : List UInt8) (W : World) : Calls Tryz.prog 183 #[.string ⟨t.toArray⟩] W fun e w' => e = .returned (.bool true) ∧ Below W.heap.size W w' := by
  go_enter Tryz.func183, Tryz.ntmps183
  go_wp2
  go_ret
  exact ⟨rfl, Below.refl _ _⟩

set_option maxRecDepth 10000 in
set_option maxHeartbeats 1000000 in
theorem good_meas (t : List UInt8) (W : World) : Calls Tryz.prog 156 #[.string ⟨t.toArray⟩] W fun e w' => e = .returned (.bool (measB t)) ∧ Below W.heap.size W w' := by
  go_enter Tryz.func156, Tryz.ntmps156
  go_wp2
  all_goals
    go_ret
    refine ⟨ret_bool ?_, Below.refl _ _⟩
    simp_all [measB]

set_option maxRecDepth 10000 in
theorem good_by (t : List UInt8) (W : World) : Calls Tryz.prog 180 #[.string ⟨t.toArray⟩] W fun e w' => e = .returned (.bool (t == [98, 121])) ∧ Below W.heap.size W w' := by
  go_enter Tryz.func180, Tryz.ntmps180
  go_wp2
  go_ret
  exact ⟨rfl, Below.refl _ _⟩

set_option maxRecDepth 10000 in
theorem good_mark {s : List UInt8} {bm : Nat} (t : List UInt8) (W : World) (h : W.cell? ⟨bm, 0, none⟩ = some (SV s)) : Calls Tryz.prog 177 #[.string ⟨t.toArray⟩, .pointer (some ⟨bm, 0, none⟩)] W fun e w' => e = .returned (.bool (t == s)) ∧ Below W.heap.size W w' := by
  go_enter Tryz.func177, Tryz.ntmps177
  go_wp2
  go_ret
  exact ⟨rfl, Below.refl _ _⟩

set_option maxRecDepth 10000 in
set_option maxHeartbeats 4000000 in
theorem takeName {w : World} {base rb g cap i : Nat} {ts : List Tok} {x meas by_ : List UInt8} {span : Int} {vm vf : Value} {M : List Mch} {Fs : List Flt} (h : ReaderAt w base rb g cap ts x i meas span by_ vm vf M Fs) (hb : base ≤ w.heap.size) :
    Calls Tryz.prog 155 #[.pointer (some ⟨rb, 0, none⟩), .int .i64 2, .func (.func 104) #[] #[]] w (TakePost w base rb g cap ts x i meas span by_ vm vf M Fs ((tokAt ts i).k == 0 && wordB false (tokAt ts i).text)) := by
  obtain ⟨b0, -, -, -, -, -, bf⟩ := cell_of_block6 h.block
  obtain ⟨k0, k1, k2⟩ := h.tok h.ilt
  have hil := h.ilt
  have hsm := h.small
  have hcp := h.caps
  have hrl : rb < w.heap.size := (Array.getElem?_eq_some_iff.1 h.block).1
  have hk5 := (tok_fit h).1
  have hlen := (tok_fit h).2.1
  have HR := hide h
  clear bf
  generalize hres : ((tokAt ts i).k == 0 && wordB false (tokAt ts i).text) = res
  have HS := hide hres
  clear hres
  cases hk : ((tokAt ts i).k == 0) with
  | false =>
    obtain rfl : false = res := by have := unhide HS; rw [hk] at this; simpa using this
    have hpk : (pk (tokAt ts i).k != 2) = true := by
      have := (pk_eq hk5 (by omega : 0 ≤ 5)).trans hk
      have h2 : pk (tokAt ts i).k ≠ 2 := by simpa [pk] using this
      simpa using h2
    clear h hk
    go_enter Tryz.func155, Tryz.ntmps155
    go_wp2_with fail
    go_ret2
    exact ⟨rfl, (unhide HR).below ((Below.refl _ _).alloc (Nat.le_refl _) _), (Below.refl _ _).alloc hb _⟩
  | true =>
    have hke : (tokAt ts i).k = 0 := by simpa using hk
    have hpk : pk (tokAt ts i).k = 2 := by rw [hke]; rfl
    have hne : ¬ cap - i = 1 := by
      have := whole_next h.whole h.ilt (by omega)
      omega
    rw [hpk] at k0
    rw [fixT_text (by omega)] at k2
    have hrf : (wordB false (tokAt ts i).text) = res := by have := unhide HS; rw [hk] at this; simpa using this
    clear hk hpk h
    have hg := fun (W : World) (hW : W = (w.alloc (.cells #[.int .i64 2, .int .i64 (tokAt ts i).pos, .string ⟨(tokAt ts i).text.toArray⟩] 165))) => good_name (tokAt ts i).text W hlen
    have HB := hide (fun (w2 : World) (hb2 : Below (w.alloc (.cells #[.int .i64 2, .int .i64 (tokAt ts i).pos, .string ⟨(tokAt ts i).text.toArray⟩] 165)).heap.size (w.alloc (.cells #[.int .i64 2, .int .i64 (tokAt ts i).pos, .string ⟨(tokAt ts i).text.toArray⟩] 165)) w2) => take_after (unhide HR) hb hb2)
    go_enter Tryz.func155, Tryz.ntmps155
    go_wp2_with fail
    refine (hg _ rfl).mono ?_
    rintro e w2 ⟨rfl, hb2⟩
    obtain ⟨hr2, hbel2, m0, m2⟩ := unhide HB w2 hb2
    obtain ⟨c0, -, -, -, -, -, cf⟩ := cell_of_block6 hr2.block
    have cf0 := cf 0
    have HA := hide (hr2.advance (by omega))
    have HR2 := hide hr2
    have HB2 := hide hbel2
    have hbrb := hr2.brb
    clear hr2 hbel2 cf hg b0 k0 k1 k2 hb2
    rw [hrf]
    cases res with
    | false =>
      go_wp2_with fail
      go_ret2
      exact ⟨rfl, unhide HR2, unhide HB2⟩
    | true =>
      go_wp2_with fail
      go_ret2
      exact ⟨rfl, unhide HA, (unhide HB2).setCell (p := ⟨rb, 0, none⟩) hbrb _⟩

set_option maxRecDepth 10000 in
set_option maxHeartbeats 4000000 in
theorem takeValue {w : World} {base rb g cap i : Nat} {ts : List Tok} {x meas by_ : List UInt8} {span : Int} {vm vf : Value} {M : List Mch} {Fs : List Flt} (h : ReaderAt w base rb g cap ts x i meas span by_ vm vf M Fs) (hb : base ≤ w.heap.size) :
    Calls Tryz.prog 155 #[.pointer (some ⟨rb, 0, none⟩), .int .i64 4, .func (.func 105) #[] #[]] w (TakePost w base rb g cap ts x i meas span by_ vm vf M Fs ((tokAt ts i).k == 2 && wordB true (tokAt ts i).text)) := by
  obtain ⟨b0, -, -, -, -, -, bf⟩ := cell_of_block6 h.block
  obtain ⟨k0, k1, k2⟩ := h.tok h.ilt
  have hil := h.ilt
  have hsm := h.small
  have hcp := h.caps
  have hrl : rb < w.heap.size := (Array.getElem?_eq_some_iff.1 h.block).1
  have hk5 := (tok_fit h).1
  have hlen := (tok_fit h).2.1
  have HR := hide h
  clear bf
  generalize hres : ((tokAt ts i).k == 2 && wordB true (tokAt ts i).text) = res
  have HS := hide hres
  clear hres
  cases hk : ((tokAt ts i).k == 2) with
  | false =>
    obtain rfl : false = res := by have := unhide HS; rw [hk] at this; simpa using this
    have hpk : (pk (tokAt ts i).k != 4) = true := by
      have := (pk_eq hk5 (by omega : 2 ≤ 5)).trans hk
      have h2 : pk (tokAt ts i).k ≠ 4 := by simpa [pk] using this
      simpa using h2
    clear h hk
    go_enter Tryz.func155, Tryz.ntmps155
    go_wp2_with fail
    go_ret2
    exact ⟨rfl, (unhide HR).below ((Below.refl _ _).alloc (Nat.le_refl _) _), (Below.refl _ _).alloc hb _⟩
  | true =>
    have hke : (tokAt ts i).k = 2 := by simpa using hk
    have hpk : pk (tokAt ts i).k = 4 := by rw [hke]; rfl
    have hne : ¬ cap - i = 1 := by
      have := whole_next h.whole h.ilt (by omega)
      omega
    rw [hpk] at k0
    rw [fixT_text (by omega)] at k2
    have hrf : (wordB true (tokAt ts i).text) = res := by have := unhide HS; rw [hk] at this; simpa using this
    clear hk hpk h
    have hg := fun (W : World) (hW : W = (w.alloc (.cells #[.int .i64 4, .int .i64 (tokAt ts i).pos, .string ⟨(tokAt ts i).text.toArray⟩] 165))) => good_value (tokAt ts i).text W hlen
    have HB := hide (fun (w2 : World) (hb2 : Below (w.alloc (.cells #[.int .i64 4, .int .i64 (tokAt ts i).pos, .string ⟨(tokAt ts i).text.toArray⟩] 165)).heap.size (w.alloc (.cells #[.int .i64 4, .int .i64 (tokAt ts i).pos, .string ⟨(tokAt ts i).text.toArray⟩] 165)) w2) => take_after (unhide HR) hb hb2)
    go_enter Tryz.func155, Tryz.ntmps155
    go_wp2_with fail
    refine (hg _ rfl).mono ?_
    rintro e w2 ⟨rfl, hb2⟩
    obtain ⟨hr2, hbel2, m0, m2⟩ := unhide HB w2 hb2
    obtain ⟨c0, -, -, -, -, -, cf⟩ := cell_of_block6 hr2.block
    have cf0 := cf 0
    have HA := hide (hr2.advance (by omega))
    have HR2 := hide hr2
    have HB2 := hide hbel2
    have hbrb := hr2.brb
    clear hr2 hbel2 cf hg b0 k0 k1 k2 hb2
    rw [hrf]
    cases res with
    | false =>
      go_wp2_with fail
      go_ret2
      exact ⟨rfl, unhide HR2, unhide HB2⟩
    | true =>
      go_wp2_with fail
      go_ret2
      exact ⟨rfl, unhide HA, (unhide HB2).setCell (p := ⟨rb, 0, none⟩) hbrb _⟩

set_option maxRecDepth 10000 in
set_option maxHeartbeats 4000000 in
theorem takeAny {w : World} {base rb g cap i : Nat} {ts : List Tok} {x meas by_ : List UInt8} {span : Int} {vm vf : Value} {M : List Mch} {Fs : List Flt} (h : ReaderAt w base rb g cap ts x i meas span by_ vm vf M Fs) (hb : base ≤ w.heap.size) :
    Calls Tryz.prog 155 #[.pointer (some ⟨rb, 0, none⟩), .int .i64 4, .func (.func 183) #[] #[]] w (TakePost w base rb g cap ts x i meas span by_ vm vf M Fs ((tokAt ts i).k == 2 && true)) := by
  obtain ⟨b0, -, -, -, -, -, bf⟩ := cell_of_block6 h.block
  obtain ⟨k0, k1, k2⟩ := h.tok h.ilt
  have hil := h.ilt
  have hsm := h.small
  have hcp := h.caps
  have hrl : rb < w.heap.size := (Array.getElem?_eq_some_iff.1 h.block).1
  have hk5 := (tok_fit h).1
  have hlen := (tok_fit h).2.1
  have HR := hide h
  clear bf
  generalize hres : ((tokAt ts i).k == 2 && true) = res
  have HS := hide hres
  clear hres
  cases hk : ((tokAt ts i).k == 2) with
  | false =>
    obtain rfl : false = res := by have := unhide HS; rw [hk] at this; simpa using this
    have hpk : (pk (tokAt ts i).k != 4) = true := by
      have := (pk_eq hk5 (by omega : 2 ≤ 5)).trans hk
      have h2 : pk (tokAt ts i).k ≠ 4 := by simpa [pk] using this
      simpa using h2
    clear h hk
    go_enter Tryz.func155, Tryz.ntmps155
    go_wp2_with fail
    go_ret2
    exact ⟨rfl, (unhide HR).below ((Below.refl _ _).alloc (Nat.le_refl _) _), (Below.refl _ _).alloc hb _⟩
  | true =>
    have hke : (tokAt ts i).k = 2 := by simpa using hk
    have hpk : pk (tokAt ts i).k = 4 := by rw [hke]; rfl
    have hne : ¬ cap - i = 1 := by
      have := whole_next h.whole h.ilt (by omega)
      omega
    rw [hpk] at k0
    rw [fixT_text (by omega)] at k2
    obtain rfl : true = res := by have := unhide HS; rw [hk] at this; simpa using this
    clear hk hpk h
    have hg := fun (W : World) (hW : W = (w.alloc (.cells #[.int .i64 4, .int .i64 (tokAt ts i).pos, .string ⟨(tokAt ts i).text.toArray⟩] 165))) => good_any (tokAt ts i).text W
    have HB := hide (fun (w2 : World) (hb2 : Below (w.alloc (.cells #[.int .i64 4, .int .i64 (tokAt ts i).pos, .string ⟨(tokAt ts i).text.toArray⟩] 165)).heap.size (w.alloc (.cells #[.int .i64 4, .int .i64 (tokAt ts i).pos, .string ⟨(tokAt ts i).text.toArray⟩] 165)) w2) => take_after (unhide HR) hb hb2)
    go_enter Tryz.func155, Tryz.ntmps155
    go_wp2_with fail
    refine (hg _ rfl).mono ?_
    rintro e w2 ⟨rfl, hb2⟩
    obtain ⟨hr2, hbel2, m0, m2⟩ := unhide HB w2 hb2
    obtain ⟨c0, -, -, -, -, -, cf⟩ := cell_of_block6 hr2.block
    have cf0 := cf 0
    have HA := hide (hr2.advance (by omega))
    have HR2 := hide hr2
    have HB2 := hide hbel2
    have hbrb := hr2.brb
    clear hr2 hbel2 cf hg b0 k0 k1 k2 hb2
    go_wp2_with fail
    go_ret2
    exact ⟨rfl, unhide HA, (unhide HB2).setCell (p := ⟨rb, 0, none⟩) hbrb _⟩

set_option maxRecDepth 10000 in
set_option maxHeartbeats 4000000 in
theorem takeMeas {w : World} {base rb g cap i : Nat} {ts : List Tok} {x meas by_ : List UInt8} {span : Int} {vm vf : Value} {M : List Mch} {Fs : List Flt} (h : ReaderAt w base rb g cap ts x i meas span by_ vm vf M Fs) (hb : base ≤ w.heap.size) :
    Calls Tryz.prog 155 #[.pointer (some ⟨rb, 0, none⟩), .int .i64 2, .func (.func 156) #[] #[]] w (TakePost w base rb g cap ts x i meas span by_ vm vf M Fs ((tokAt ts i).k == 0 && measB (tokAt ts i).text)) := by
  obtain ⟨b0, -, -, -, -, -, bf⟩ := cell_of_block6 h.block
  obtain ⟨k0, k1, k2⟩ := h.tok h.ilt
  have hil := h.ilt
  have hsm := h.small
  have hcp := h.caps
  have hrl : rb < w.heap.size := (Array.getElem?_eq_some_iff.1 h.block).1
  have hk5 := (tok_fit h).1
  have hlen := (tok_fit h).2.1
  have HR := hide h
  clear bf
  generalize hres : ((tokAt ts i).k == 0 && measB (tokAt ts i).text) = res
  have HS := hide hres
  clear hres
  cases hk : ((tokAt ts i).k == 0) with
  | false =>
    obtain rfl : false = res := by have := unhide HS; rw [hk] at this; simpa using this
    have hpk : (pk (tokAt ts i).k != 2) = true := by
      have := (pk_eq hk5 (by omega : 0 ≤ 5)).trans hk
      have h2 : pk (tokAt ts i).k ≠ 2 := by simpa [pk] using this
      simpa using h2
    clear h hk
    go_enter Tryz.func155, Tryz.ntmps155
    go_wp2_with fail
    go_ret2
    exact ⟨rfl, (unhide HR).below ((Below.refl _ _).alloc (Nat.le_refl _) _), (Below.refl _ _).alloc hb _⟩
  | true =>
    have hke : (tokAt ts i).k = 0 := by simpa using hk
    have hpk : pk (tokAt ts i).k = 2 := by rw [hke]; rfl
    have hne : ¬ cap - i = 1 := by
      have := whole_next h.whole h.ilt (by omega)
      omega
    rw [hpk] at k0
    rw [fixT_text (by omega)] at k2
    have hrf : (measB (tokAt ts i).text) = res := by have := unhide HS; rw [hk] at this; simpa using this
    clear hk hpk h
    have hg := fun (W : World) (hW : W = (w.alloc (.cells #[.int .i64 2, .int .i64 (tokAt ts i).pos, .string ⟨(tokAt ts i).text.toArray⟩] 165))) => good_meas (tokAt ts i).text W
    have HB := hide (fun (w2 : World) (hb2 : Below (w.alloc (.cells #[.int .i64 2, .int .i64 (tokAt ts i).pos, .string ⟨(tokAt ts i).text.toArray⟩] 165)).heap.size (w.alloc (.cells #[.int .i64 2, .int .i64 (tokAt ts i).pos, .string ⟨(tokAt ts i).text.toArray⟩] 165)) w2) => take_after (unhide HR) hb hb2)
    go_enter Tryz.func155, Tryz.ntmps155
    go_wp2_with fail
    refine (hg _ rfl).mono ?_
    rintro e w2 ⟨rfl, hb2⟩
    obtain ⟨hr2, hbel2, m0, m2⟩ := unhide HB w2 hb2
    obtain ⟨c0, -, -, -, -, -, cf⟩ := cell_of_block6 hr2.block
    have cf0 := cf 0
    have HA := hide (hr2.advance (by omega))
    have HR2 := hide hr2
    have HB2 := hide hbel2
    have hbrb := hr2.brb
    clear hr2 hbel2 cf hg b0 k0 k1 k2 hb2
    rw [hrf]
    cases res with
    | false =>
      go_wp2_with fail
      go_ret2
      exact ⟨rfl, unhide HR2, unhide HB2⟩
    | true =>
      go_wp2_with fail
      go_ret2
      exact ⟨rfl, unhide HA, (unhide HB2).setCell (p := ⟨rb, 0, none⟩) hbrb _⟩

set_option maxRecDepth 10000 in
set_option maxHeartbeats 4000000 in
theorem takeBy {w : World} {base rb g cap i : Nat} {ts : List Tok} {x meas by_ : List UInt8} {span : Int} {vm vf : Value} {M : List Mch} {Fs : List Flt} (h : ReaderAt w base rb g cap ts x i meas span by_ vm vf M Fs) (hb : base ≤ w.heap.size) :
    Calls Tryz.prog 155 #[.pointer (some ⟨rb, 0, none⟩), .int .i64 2, .func (.func 180) #[] #[]] w (TakePost w base rb g cap ts x i meas span by_ vm vf M Fs ((tokAt ts i).k == 0 && ((tokAt ts i).text == [98, 121]))) := by
  obtain ⟨b0, -, -, -, -, -, bf⟩ := cell_of_block6 h.block
  obtain ⟨k0, k1, k2⟩ := h.tok h.ilt
  have hil := h.ilt
  have hsm := h.small
  have hcp := h.caps
  have hrl : rb < w.heap.size := (Array.getElem?_eq_some_iff.1 h.block).1
  have hk5 := (tok_fit h).1
  have hlen := (tok_fit h).2.1
  have HR := hide h
  clear bf
  generalize hres : ((tokAt ts i).k == 0 && ((tokAt ts i).text == [98, 121])) = res
  have HS := hide hres
  clear hres
  cases hk : ((tokAt ts i).k == 0) with
  | false =>
    obtain rfl : false = res := by have := unhide HS; rw [hk] at this; simpa using this
    have hpk : (pk (tokAt ts i).k != 2) = true := by
      have := (pk_eq hk5 (by omega : 0 ≤ 5)).trans hk
      have h2 : pk (tokAt ts i).k ≠ 2 := by simpa [pk] using this
      simpa using h2
    clear h hk
    go_enter Tryz.func155, Tryz.ntmps155
    go_wp2_with fail
    go_ret2
    exact ⟨rfl, (unhide HR).below ((Below.refl _ _).alloc (Nat.le_refl _) _), (Below.refl _ _).alloc hb _⟩
  | true =>
    have hke : (tokAt ts i).k = 0 := by simpa using hk
    have hpk : pk (tokAt ts i).k = 2 := by rw [hke]; rfl
    have hne : ¬ cap - i = 1 := by
      have := whole_next h.whole h.ilt (by omega)
      omega
    rw [hpk] at k0
    rw [fixT_text (by omega)] at k2
    have hrf : (((tokAt ts i).text == [98, 121])) = res := by have := unhide HS; rw [hk] at this; simpa using this
    clear hk hpk h
    have hg := fun (W : World) (hW : W = (w.alloc (.cells #[.int .i64 2, .int .i64 (tokAt ts i).pos, .string ⟨(tokAt ts i).text.toArray⟩] 165))) => good_by (tokAt ts i).text W
    have HB := hide (fun (w2 : World) (hb2 : Below (w.alloc (.cells #[.int .i64 2, .int .i64 (tokAt ts i).pos, .string ⟨(tokAt ts i).text.toArray⟩] 165)).heap.size (w.alloc (.cells #[.int .i64 2, .int .i64 (tokAt ts i).pos, .string ⟨(tokAt ts i).text.toArray⟩] 165)) w2) => take_after (unhide HR) hb hb2)
    go_enter Tryz.func155, Tryz.ntmps155
    go_wp2_with fail
    refine (hg _ rfl).mono ?_
    rintro e w2 ⟨rfl, hb2⟩
    obtain ⟨hr2, hbel2, m0, m2⟩ := unhide HB w2 hb2
    obtain ⟨c0, -, -, -, -, -, cf⟩ := cell_of_block6 hr2.block
    have cf0 := cf 0
    have HA := hide (hr2.advance (by omega))
    have HR2 := hide hr2
    have HB2 := hide hbel2
    have hbrb := hr2.brb
    clear hr2 hbel2 cf hg b0 k0 k1 k2 hb2
    rw [hrf]
    cases res with
    | false =>
      go_wp2_with fail
      go_ret2
      exact ⟨rfl, unhide HR2, unhide HB2⟩
    | true =>
      go_wp2_with fail
      go_ret2
      exact ⟨rfl, unhide HA, (unhide HB2).setCell (p := ⟨rb, 0, none⟩) hbrb _⟩

set_option maxRecDepth 10000 in
set_option maxHeartbeats 4000000 in
theorem takeMark {w : World} {base rb g cap i : Nat} {ts : List Tok} {x meas by_ : List UInt8} {span : Int} {vm vf : Value} {M : List Mch} {Fs : List Flt} (h : ReaderAt w base rb g cap ts x i meas span by_ vm vf M Fs) (hb : base ≤ w.heap.size) {s : List UInt8} {bm : Nat} (hbm0 : w.cell? ⟨bm, 0, none⟩ = some (SV s)) :
    Calls Tryz.prog 155 #[.pointer (some ⟨rb, 0, none⟩), .int .i64 5, .func (.func 177) #[] #[.pointer (some ⟨bm, 0, none⟩)]] w (TakePost w base rb g cap ts x i meas span by_ vm vf M Fs ((tokAt ts i).k == 3 && ((tokAt ts i).text == s))) := by
  obtain ⟨b0, -, -, -, -, -, bf⟩ := cell_of_block6 h.block
  obtain ⟨k0, k1, k2⟩ := h.tok h.ilt
  have hil := h.ilt
  have hsm := h.small
  have hcp := h.caps
  have hrl : rb < w.heap.size := (Array.getElem?_eq_some_iff.1 h.block).1
  have hk5 := (tok_fit h).1
  have hlen := (tok_fit h).2.1
  have HR := hide h
  clear bf
  generalize hres : ((tokAt ts i).k == 3 && ((tokAt ts i).text == s)) = res
  have HS := hide hres
  clear hres
  cases hk : ((tokAt ts i).k == 3) with
  | false =>
    obtain rfl : false = res := by have := unhide HS; rw [hk] at this; simpa using this
    have hpk : (pk (tokAt ts i).k != 5) = true := by
      have := (pk_eq hk5 (by omega : 3 ≤ 5)).trans hk
      have h2 : pk (tokAt ts i).k ≠ 5 := by simpa [pk] using this
      simpa using h2
    clear h hk
    go_enter Tryz.func155, Tryz.ntmps155
    go_wp2_with fail
    go_ret2
    exact ⟨rfl, (unhide HR).below ((Below.refl _ _).alloc (Nat.le_refl _) _), (Below.refl _ _).alloc hb _⟩
  | true =>
    have hke : (tokAt ts i).k = 3 := by simpa using hk
    have hpk : pk (tokAt ts i).k = 5 := by rw [hke]; rfl
    have hne : ¬ cap - i = 1 := by
      have := whole_next h.whole h.ilt (by omega)
      omega
    rw [hpk] at k0
    rw [fixT_text (by omega)] at k2
    have hrf : (((tokAt ts i).text == s)) = res := by have := unhide HS; rw [hk] at this; simpa using this
    clear hk hpk h
    have hbm : (w.alloc (.cells #[.int .i64 5, .int .i64 (tokAt ts i).pos, .string ⟨(tokAt ts i).text.toArray⟩] 165)).cell? ⟨bm, 0, none⟩ = some (SV s) := (((Below.refl _ w).alloc (Nat.le_refl _) _).cell (p := ⟨bm, 0, none⟩) (World.block_lt_of_cell? w _ hbm0)).trans hbm0
    have hg := fun (W : World) (hW : W = (w.alloc (.cells #[.int .i64 5, .int .i64 (tokAt ts i).pos, .string ⟨(tokAt ts i).text.toArray⟩] 165))) => good_mark (tokAt ts i).text W (hW ▸ hbm)
    have HB := hide (fun (w2 : World) (hb2 : Below (w.alloc (.cells #[.int .i64 5, .int .i64 (tokAt ts i).pos, .string ⟨(tokAt ts i).text.toArray⟩] 165)).heap.size (w.alloc (.cells #[.int .i64 5, .int .i64 (tokAt ts i).pos, .string ⟨(tokAt ts i).text.toArray⟩] 165)) w2) => take_after (unhide HR) hb hb2)
    go_enter Tryz.func155, Tryz.ntmps155
    go_wp2_with fail
    refine (hg _ rfl).mono ?_
    rintro e w2 ⟨rfl, hb2⟩
    obtain ⟨hr2, hbel2, m0, m2⟩ := unhide HB w2 hb2
    obtain ⟨c0, -, -, -, -, -, cf⟩ := cell_of_block6 hr2.block
    have cf0 := cf 0
    have HA := hide (hr2.advance (by omega))
    have HR2 := hide hr2
    have HB2 := hide hbel2
    have hbrb := hr2.brb
    clear hr2 hbel2 cf hg b0 k0 k1 k2 hb2
    rw [hrf]
    cases res with
    | false =>
      go_wp2_with fail
      go_ret2
      exact ⟨rfl, unhide HR2, unhide HB2⟩
    | true =>
      go_wp2_with fail
      go_ret2
      exact ⟨rfl, unhide HA, (unhide HB2).setCell (p := ⟨rb, 0, none⟩) hbrb _⟩

set_option maxRecDepth 10000 in
set_option maxHeartbeats 4000000 in
theorem takeSpan {w : World} {base rb g cap i : Nat} {ts : List Tok} {x meas by_ : List UInt8} {span : Int} {vm vf : Value} {M : List Mch} {Fs : List Flt} (h : ReaderAt w base rb g cap ts x i meas span by_ vm vf M Fs) (hb : base ≤ w.heap.size) (hG : ErrAt w) :
    Calls Tryz.prog 155 #[.pointer (some ⟨rb, 0, none⟩), .int .i64 3, .func (.func 178) #[] #[]] w (TakePost w base rb g cap ts x i meas span by_ vm vf M Fs ((tokAt ts i).k == 1 && spanT (tokAt ts i).text)) := by
  obtain ⟨b0, -, -, -, -, -, bf⟩ := cell_of_block6 h.block
  obtain ⟨k0, k1, k2⟩ := h.tok h.ilt
  have hil := h.ilt
  have hsm := h.small
  have hcp := h.caps
  have hrl : rb < w.heap.size := (Array.getElem?_eq_some_iff.1 h.block).1
  have hk5 := (tok_fit h).1
  have hlen := (tok_fit h).2.1
  have hdig := (tok_fit h).2.2
  have HR := hide h
  clear bf
  generalize hres : ((tokAt ts i).k == 1 && spanT (tokAt ts i).text) = res
  have HS := hide hres
  clear hres
  cases hk : ((tokAt ts i).k == 1) with
  | false =>
    obtain rfl : false = res := by have := unhide HS; rw [hk] at this; simpa using this
    have hpk : (pk (tokAt ts i).k != 3) = true := by
      have := (pk_eq hk5 (by omega : 1 ≤ 5)).trans hk
      have h2 : pk (tokAt ts i).k ≠ 3 := by simpa [pk] using this
      simpa using h2
    clear h hk hdig
    go_enter Tryz.func155, Tryz.ntmps155
    go_wp2_with fail
    go_ret2
    exact ⟨rfl, (unhide HR).below ((Below.refl _ _).alloc (Nat.le_refl _) _), (Below.refl _ _).alloc hb _⟩
  | true =>
    have hke : (tokAt ts i).k = 1 := by simpa using hk
    have hpk : pk (tokAt ts i).k = 3 := by rw [hke]; rfl
    have hne : ¬ cap - i = 1 := by
      have := whole_next h.whole h.ilt (by omega)
      omega
    have hdg := hdig hke
    rw [hpk] at k0
    rw [fixT_text (by omega)] at k2
    have hrf : (spanT (tokAt ts i).text) = res := by have := unhide HS; rw [hk] at this; simpa using this
    clear hk hpk h
    have hg := fun (W : World) (hW : W = (w.alloc (.cells #[.int .i64 3, .int .i64 (tokAt ts i).pos, .string ⟨(tokAt ts i).text.toArray⟩] 165))) => good_span (tokAt ts i).text W hdg.2 hdg.1 hlen (hW ▸ hG.below ((Below.refl _ w).alloc (Nat.le_refl _) _) hG.lt)
    have HB := hide (fun (w2 : World) (hb2 : Below (w.alloc (.cells #[.int .i64 3, .int .i64 (tokAt ts i).pos, .string ⟨(tokAt ts i).text.toArray⟩] 165)).heap.size (w.alloc (.cells #[.int .i64 3, .int .i64 (tokAt ts i).pos, .string ⟨(tokAt ts i).text.toArray⟩] 165)) w2) => take_after (unhide HR) hb hb2)
    go_enter Tryz.func155, Tryz.ntmps155
    go_wp2_with fail
    refine (hg _ rfl).mono ?_
    rintro e w2 ⟨rfl, hb2⟩
    obtain ⟨hr2, hbel2, m0, m2⟩ := unhide HB w2 hb2
    obtain ⟨c0, -, -, -, -, -, cf⟩ := cell_of_block6 hr2.block
    have cf0 := cf 0
    have HA := hide (hr2.advance (by omega))
    have HR2 := hide hr2
    have HB2 := hide hbel2
    have hbrb := hr2.brb
    clear hr2 hbel2 cf hg b0 k0 k1 k2 hb2
    rw [hrf]
    cases res with
    | false =>
      go_wp2_with fail
      go_ret2
      exact ⟨rfl, unhide HR2, unhide HB2⟩
    | true =>
      go_wp2_with fail
      go_ret2
      exact ⟨rfl, unhide HA, (unhide HB2).setCell (p := ⟨rb, 0, none⟩) hbrb _⟩

end Go.Proofs.YtbljamcdaoofbaaGreatDoor
