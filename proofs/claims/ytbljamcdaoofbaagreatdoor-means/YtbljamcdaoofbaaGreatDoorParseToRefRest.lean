/- Texts Parse, Ref, RefPush, RefRest, joined. -/
import Derived.Test.YtbljamcdaoofbaaGreatDoorBaseToTok
import Derived.Deep.DeepCutAuto
/- What a query is, as plain functions on its tokens, by their places. -/
namespace Go.Proofs.YtbljamcdaoofbaaGreatDoor

/-- a matcher: its name, its value, whether it rules out -/
structure Mch where
  name : List UInt8
  value : List UInt8
  neg : Bool
/-- a filter: its text, whether it rules out -/
structure Flt where
  text : List UInt8
  neg : Bool
/-- a query -/
structure Qry where
  ms : List Mch
  fs : List Flt
  meas : List UInt8
  span : Nat
  by_ : List UInt8

def tokAt (ts : List Tok) (i : Nat) : Tok := ts.getD i ⟨5, 0, []⟩

def markB (ts : List Tok) (i : Nat) (s : List UInt8) : Bool := (tokAt ts i).k == 3 && (tokAt ts i).text == s
def wordAt (ts : List Tok) (i : Nat) : Bool := (tokAt ts i).k == 0 && wordB false (tokAt ts i).text
def valueAt (ts : List Tok) (i : Nat) : Bool := (tokAt ts i).k == 2 && wordB true (tokAt ts i).text

/-- a matcher from a place on: where it ends, and it; or where it is wrong -/
def matcherI (ts : List Tok) (i : Nat) : Nat × Option Mch :=
  if wordAt ts i = false then (i, none)
  else if (markB ts (i + 1) [33, 61] || markB ts (i + 1) [61]) = false then (i + 1, none)
  else if valueAt ts (i + 2) = false then (i + 2, none)
  else (i + 3, some ⟨(tokAt ts i).text, (tokAt ts (i + 2)).text, markB ts (i + 1) [33, 61]⟩)

/-- matchers -/
def matchersI (ts : List Tok) : Nat → Nat → List Mch → Nat × Bool × List Mch
  | 0, i, acc => (i, false, acc)
  | n + 1, i, acc =>
    match matcherI ts i with
    | (j, none) => (j, false, acc)
    | (j, some m) => if markB ts j [44] = true then matchersI ts n (j + 1) (acc ++ [m]) else (j, true, acc ++ [m])

/-- filters -/
def filtersI (ts : List Tok) : Nat → Nat → List Flt → Nat × Bool × List Flt
  | 0, i, acc => (i, false, acc)
  | n + 1, i, acc =>
    if (markB ts i [33, 61] || markB ts i [124, 61]) = false then (i, true, acc)
    else if ((tokAt ts (i + 1)).k == 2) = false then (i + 1, false, acc)
    else filtersI ts n (i + 2) (acc ++ [⟨(tokAt ts (i + 1)).text, markB ts i [33, 61]⟩])

/-- the part that asks for lines: where it ends or is wrong, whether it is one, its matchers, its filters -/
def rowsI (ts : List Tok) (i : Nat) : Nat × Bool × List Mch × List Flt :=
  if markB ts i [123] = false then (i, false, [], [])
  else if (matchersI ts ts.length (i + 1) []).2.1 = false then ((matchersI ts ts.length (i + 1) []).1, false, (matchersI ts ts.length (i + 1) []).2.2, [])
  else if markB ts (matchersI ts ts.length (i + 1) []).1 [125] = false then ((matchersI ts ts.length (i + 1) []).1, false, (matchersI ts ts.length (i + 1) []).2.2, [])
  else ((filtersI ts ts.length ((matchersI ts ts.length (i + 1) []).1 + 1) []).1, (filtersI ts ts.length ((matchersI ts ts.length (i + 1) []).1 + 1) []).2.1, (matchersI ts ts.length (i + 1) []).2.2, (filtersI ts ts.length ((matchersI ts ts.length (i + 1) []).1 + 1) []).2.2)

/-- count, rate, bytes, mean -/
def measB (s : List UInt8) : Bool := s == [99, 111, 117, 110, 116] || s == [114, 97, 116, 101] || s == [98, 121, 116, 101, 115] || s == [109, 101, 97, 110]
/-- the number of a text, or the first that is too great -/
def spanL (s : List UInt8) : Nat := s.foldl (fun n c => min (10 * n + (c.toNat - 48)) 1000001) 0
def spanAt (ts : List Tok) (i : Nat) : Bool := (tokAt ts i).k == 1 && decide (1 ≤ spanL (tokAt ts i).text) && decide (spanL (tokAt ts i).text ≤ 1000000)

/-- the number in brackets -/
def spanI (ts : List Tok) (i : Nat) : Nat × Bool × Nat :=
  if markB ts i [91] = false then (i, false, 0)
  else if spanAt ts (i + 1) = false then (i + 1, false, 0)
  else if markB ts (i + 2) [93] = false then (i + 2, false, spanL (tokAt ts (i + 1)).text)
  else (i + 3, true, spanL (tokAt ts (i + 1)).text)

/-- by, and a name -/
def byI (ts : List Tok) (i : Nat) : Nat × Bool × List UInt8 :=
  if ((tokAt ts i).k == 0 && (tokAt ts i).text == [98, 121]) = false then (i, true, [])
  else if wordAt ts (i + 1) = false then (i + 1, false, [])
  else (i + 2, true, (tokAt ts (i + 1)).text)

def emptyQ : Qry := ⟨[], [], [], 0, []⟩

/-- a measure -/
def measI (ts : List Tok) : Nat × Bool × Qry :=
  if ((tokAt ts 0).k == 0 && measB (tokAt ts 0).text) = false then (0, false, emptyQ)
  else if markB ts 1 [40] = false then (1, false, emptyQ)
  else if (rowsI ts 2).2.1 = false then ((rowsI ts 2).1, false, emptyQ)
  else if (spanI ts (rowsI ts 2).1).2.1 = false then ((spanI ts (rowsI ts 2).1).1, false, emptyQ)
  else if markB ts (spanI ts (rowsI ts 2).1).1 [41] = false then ((spanI ts (rowsI ts 2).1).1, false, emptyQ)
  else ((byI ts ((spanI ts (rowsI ts 2).1).1 + 1)).1, (byI ts ((spanI ts (rowsI ts 2).1).1 + 1)).2.1,
    ⟨(rowsI ts 2).2.2.1, (rowsI ts 2).2.2.2, (tokAt ts 0).text, (spanI ts (rowsI ts 2).1).2.2, (byI ts ((spanI ts (rowsI ts 2).1).1 + 1)).2.2⟩)

/-- a query of rows, or a measure -/
def anyI (ts : List Tok) : Nat × Bool × Qry :=
  if ((tokAt ts 0).k == 0) = true then measI ts else ((rowsI ts 0).1, (rowsI ts 0).2.1, ⟨(rowsI ts 0).2.2.1, (rowsI ts 0).2.2.2, [], 0, []⟩)

/-- the whole of the tokens -/
def wholeI (ts : List Tok) : Nat × Bool × Qry := ((anyI ts).1, (anyI ts).2.1 && ((tokAt ts (anyI ts).1).k == 4), (anyI ts).2.2)

theorem matcherI_le {ts : List Tok} {i : Nat} : i ≤ (matcherI ts i).1 := by
  unfold matcherI
  repeat' split
  all_goals simp

end Go.Proofs.YtbljamcdaoofbaaGreatDoor

/- The reference's store in memory, and what its calls do to it. -/
namespace Go.Proofs.YtbljamcdaoofbaaGreatDoor
open Go.RowKit

abbrev Strm := List UInt8 × Int
abbrev Rw := List UInt8 × Int × List UInt8
def cellsS (x : Strm) : List Value := [SV x.1, .int .i64 x.2]
def cellsR (x : Rw) : List Value := [SV x.1, .int .i64 x.2.1, SV x.2.2]

/-- The reference's store lies at block p: its streams S, its lines L; all its blocks are among F. -/
structure RefAt (w : World) (F : Nat → Prop) (p : Nat) (S : List Strm) (L : List Rw) (vS vL : Value) : Prop where
  block : w.heap[p]? = some (.cells #[vS, vL] 114 (0, 0))
  rowS : w.ownsRow 0 155 2 vS S.length (S.flatMap cellsS)
  rowL : w.ownsRow 0 38 3 vL L.length (L.flatMap cellsR)
  inF : F p
  inS : ∀ g, vS.ownBlock = some g → F g
  inL : ∀ g, vL.ownBlock = some g → F g

theorem cellsS_at (S : List Strm) (k : Nat) (h : k < S.length) : (S.flatMap cellsS)[k * 2]? = some (SV S[k].1) ∧ (S.flatMap cellsS)[k * 2 + 1]? = some (.int .i64 S[k].2) := by
  induction S generalizing k with
  | nil => simp at h
  | cons x S ih =>
    rw [List.flatMap_cons]
    cases k with
    | zero => simp [cellsS]
    | succ k =>
      have := ih k (by simpa using h)
      simp only [cellsS, List.cons_append, List.nil_append, Nat.add_mul, Nat.one_mul, List.getElem?_cons_succ, List.getElem_cons_succ] at this ⊢
      exact this

theorem cellsR_at (L : List Rw) (k : Nat) (h : k < L.length) : (L.flatMap cellsR)[k * 3]? = some (SV L[k].1) ∧ (L.flatMap cellsR)[k * 3 + 1]? = some (.int .i64 L[k].2.1) ∧ (L.flatMap cellsR)[k * 3 + 2]? = some (SV L[k].2.2) := by
  induction L generalizing k with
  | nil => simp at h
  | cons x S ih =>
    rw [List.flatMap_cons]
    cases k with
    | zero => simp [cellsR]
    | succ k =>
      have := ih k (by simpa using h)
      simp only [cellsR, List.cons_append, List.nil_append, Nat.add_mul, Nat.one_mul, List.getElem?_cons_succ, List.getElem_cons_succ] at this ⊢
      exact this

def timeB (t : Int) : Bool := decide (0 ≤ t) && decide (t ≤ 1000000)

set_option maxRecDepth 10000 in
set_option maxHeartbeats 400000 in
theorem times_any (t : Int) (w : World) :
    Calls Tryz.prog 89 #[.int .i64 t] w fun e w' => e = .returned (.bool (timeB t)) ∧ w' = w := by
  by_cases h : 0 ≤ t
  all_goals
    go_enter Tryz.func89, Tryz.ntmps89
    go_wp2
    go_ret
    exact ⟨by simp [timeB, h]; try omega, rfl⟩

/-- the place of a stream among some; their number: it is not there -/
def at_ (S : List Strm) (l : List UInt8) : Nat := S.findIdx (fun y => y.1 == l)
def whereI (S : List Strm) (l : List UInt8) : Int := if at_ S l < S.length then at_ S l else -1

theorem cell_of_block2 {w : World} {p : Nat} {v0 v1 : Value} {t : TypeId} (h : w.heap[p]? = some (.cells #[v0, v1] t (0, 0))) :
    w.cell? ⟨p, 0, none⟩ = some v0 ∧ w.cell? ⟨p, 1, none⟩ = some v1 ∧ (∀ j, w.frozen? ⟨p, j, none⟩ = false) := by
  refine ⟨by simp [World.cell?, h], by simp [World.cell?, h], fun j => by simp [World.frozen?, h]⟩

set_option maxRecDepth 10000 in
set_option maxHeartbeats 1000000 in
theorem where_any {F : Nat → Prop} {p : Nat} {S : List Strm} {L : List Rw} {vS vL : Value} (l : List UInt8) (w : World) (hr : RefAt w F p S L vS vL) (hS : S.length ≤ 6) :
    Calls Tryz.prog 90 #[.pointer (some ⟨p, 0, none⟩), .string ⟨l.toArray⟩] w fun e w' => e = .returned (.int .i64 (whereI S l)) ∧ w' = w := by
  obtain ⟨ao, cap, rfl, hnc, hcm, hnil, hao, hcell, hfz⟩ := owns_form hr.rowS
  have hb := hr.block
  obtain ⟨c0, -, -⟩ := cell_of_block2 hb
  clear hb hr hfz
  go_enter Tryz.func90, Tryz.ntmps90
  go_wp2
  go_loop [5] (fun i => ∃ k : Nat, k ≤ S.length ∧ i = .int .i64 k ∧ (∀ j (h : j < S.length), j < k → (S[j].1 == l) = false)) (fun i => S.length - (intOf i).toNat)
  case atStart => exact ⟨0, Nat.zero_le _, rfl, fun j _ h => by omega⟩
  case round =>
    obtain ⟨k, hk, rfl, hno⟩ := hrel
    have HN := hide hno
    clear hno
    by_cases hlt : k < S.length
    · obtain ⟨⟨g, o, sp⟩, rfl⟩ : ∃ a, ao = some a := by
        cases ao with
        | none => have := (hnil rfl).1; omega
        | some a => exact ⟨a, rfl⟩
      obtain ⟨ho, hsp, -, hgw⟩ := hao _ rfl
      simp only at ho hsp hgw
      subst ho hsp
      have hc := hcell _ rfl (k * 2) (by omega)
      rw [(cellsS_at S k hlt).1] at hc
      clear hcell hao hnil
      go_wp2
      · go_ret
        refine ⟨ret_int ?_, rfl⟩
        have hf : at_ S l = k := by
          unfold at_
          rw [List.findIdx_eq hlt]
          exact ⟨‹(S[k].1 == l) = true›, fun j hj => unhide HN j (by omega) hj⟩
        rw [whereI, hf, if_pos hlt]
      · go_round
        case rel =>
          refine ⟨k + 1, by omega, by go_num, fun j hj hjk => ?_⟩
          by_cases e : j = k
          · subst e; assumption
          · exact unhide HN j hj (by omega)
        case measure => simp [intOf]; omega
    · go_wp2
      go_ret
      refine ⟨ret_int ?_, rfl⟩
      have hf : at_ S l = S.length := by
        unfold at_
        rw [List.findIdx_eq_length]
        intro x hx
        obtain ⟨j, hj, rfl⟩ := List.getElem_of_mem hx
        exact unhide HN j hj (by omega)
      rw [whereI, hf, if_neg (by omega)]

end Go.Proofs.YtbljamcdaoofbaaGreatDoor

/- The reference's Push: what it answers, and what it leaves in memory. -/
namespace Go.Proofs.YtbljamcdaoofbaaGreatDoor
open Go.RowKit

theorem Tryz.info155 : (Tryz.prog.info? 155).map (fun i => (i.zero, i.size, i.bytes)) = some (some (.agg #[.string ByteArray.empty, .int .i64 0]), 2, 24) := by kernel_rfl
theorem Tryz.info38 : (Tryz.prog.info? 38).map (fun i => (i.zero, i.size, i.bytes)) = some (some (.agg #[.string ByteArray.empty, .int .i64 0, .string ByteArray.empty]), 3, 40) := by kernel_rfl

/-- a row stays where its block stays -/
theorem ownsRow_same {w w' : World} {base : Nat} {e : TypeId} {size : Nat} {v : Value} {n : Nat} {xs : List Value} (h : w.ownsRow base e size v n xs)
    (hb : ∀ g, v.ownBlock = some g → w'.heap[g]? = w.heap[g]?) : w'.ownsRow base e size v n xs := by
  refine ⟨h.1, ?_⟩
  rcases h.2 with h2 | ⟨g, cap, cur, rfl, hg, hh, r⟩
  · exact .inl h2
  · exact .inr ⟨g, cap, cur, rfl, hg, by rw [hb g rfl]; exact hh, r⟩

theorem ownsRow_type {w : World} {base : Nat} {e : TypeId} {size : Nat} {v : Value} {n : Nat} {xs : List Value} (h : w.ownsRow base e size v n xs) {g : Nat} (hv : v.ownBlock = some g) :
    g < w.heap.size ∧ ∃ cur, w.heap[g]? = some (.cells cur e (0, 0)) := by
  rcases h.2 with ⟨rfl, _⟩ | ⟨g', cap, cur, rfl, hg, hh, r⟩
  · simp [Value.ownBlock] at hv
  · simp [Value.ownBlock] at hv
    subst hv
    exact ⟨(Array.getElem?_eq_some_iff.1 hh).1, cur, hh⟩

/-- two rows, or a row and a block, of different types lie in different blocks -/
theorem ne_of_type {w : World} {a b : Nat} {c c' : Array Value} {e e' : TypeId} {f f' : Nat × Nat} (ha : w.heap[a]? = some (.cells c e f)) (hb : w.heap[b]? = some (.cells c' e' f')) (h : e ≠ e') : a ≠ b := by
  intro hab
  subst hab
  rw [ha] at hb
  simp at hb
  exact h hb.2.1

theorem RefAt.keep {w w' : World} {F : Nat → Prop} {p : Nat} {S : List Strm} {L : List Rw} {vS vL : Value} (h : RefAt w F p S L vS vL)
    (hk : ∀ b, b < w.heap.size → F b → w'.heap[b]? = w.heap[b]?) : RefAt w' F p S L vS vL := by
  refine ⟨?_, ?_, ?_, h.inF, h.inS, h.inL⟩
  · rw [hk p (Array.getElem?_eq_some_iff.1 h.block).1 h.inF]; exact h.block
  · exact ownsRow_same h.rowS fun g hg => hk g (ownsRow_type h.rowS hg).1 (h.inS g hg)
  · exact ownsRow_same h.rowL fun g hg => hk g (ownsRow_type h.rowL hg).1 (h.inL g hg)

theorem RefAt.weaken {w : World} {F G : Nat → Prop} {p : Nat} {S : List Strm} {L : List Rw} {vS vL : Value} (h : RefAt w F p S L vS vL) (hFG : ∀ b, F b → G b) : RefAt w G p S L vS vL :=
  ⟨h.block, h.rowS, h.rowL, hFG _ h.inF, fun g hg => hFG _ (h.inS g hg), fun g hg => hFG _ (h.inL g hg)⟩

/-- one cell of a block of two is written -/
theorem block2_set0 {w : World} {p : Nat} {v0 v1 : Value} {t : TypeId} (h : w.heap[p]? = some (.cells #[v0, v1] t (0, 0))) (u : Value) :
    (w.setCell ⟨p, 0, none⟩ u).heap[p]? = some (.cells #[u, v1] t (0, 0)) := by
  simp [World.setCell, Array.getElem?_modify, h]
theorem block2_set1 {w : World} {p : Nat} {v0 v1 : Value} {t : TypeId} (h : w.heap[p]? = some (.cells #[v0, v1] t (0, 0))) (u : Value) :
    (w.setCell ⟨p, 1, none⟩ u).heap[p]? = some (.cells #[v0, u] t (0, 0)) := by
  simp [World.setCell, Array.getElem?_modify, h]

/-- F, and all that is new -/
def Plus (F : Nat → Prop) (w : World) : Nat → Prop := fun b => F b ∨ w.heap.size ≤ b

theorem RefAt.appS {w w2 : World} {F : Nat → Prop} {p : Nat} {S : List Strm} {L : List Rw} {vS vL v' : Value} {o : Obj} {y : Strm} (h : RefAt w F p S L vS vL)
    (hg : (w.alloc o).grownBy w2 vS.ownBlock) (ho : w2.ownsRow 0 155 2 v' (S.length + 1) (S.flatMap cellsS ++ cellsS y))
    (hw : v'.ownBlock = vS.ownBlock ∨ v'.ownBlock = some (w.alloc o).heap.size) :
    RefAt (w2.setCell ⟨p, 0, none⟩ v') (Plus F w) p (S ++ [y]) L v' vL ∧ w2.cell? ⟨p, 0, none⟩ = some vS ∧ w2.frozen? ⟨p, 0, none⟩ = false ∧ Moved F w (w2.setCell ⟨p, 0, none⟩ v') := by
  have hpl := (Array.getElem?_eq_some_iff.1 h.block).1
  have hm : Moved F w w2 := ((Moved.refl F w).alloc o).grown hg (fun k hk => .inl (h.inS k hk))
  have hp2 : w2.heap[p]? = some (.cells #[vS, vL] 114 (0, 0)) := by
    rw [hg.block p (by simp; omega) (fun e => ?_), Go.RowKit.Below.heap_alloc w o p hpl, h.block]
    obtain ⟨_, cur, hc⟩ := ownsRow_type h.rowS e.symm
    exact ne_of_type hc h.block (by decide) rfl
  obtain ⟨c0, _, hf⟩ := cell_of_block2 hp2
  have hL2 : w2.ownsRow 0 38 3 vL L.length (L.flatMap cellsR) := ownsRow_same h.rowL fun g hgL => by
    obtain ⟨hgl, cur, hc⟩ := ownsRow_type h.rowL hgL
    rw [hg.block g (by simp; omega) (fun e => ?_), Go.RowKit.Below.heap_alloc w o g hgl]
    obtain ⟨_, cur', hc'⟩ := ownsRow_type h.rowS e.symm
    exact ne_of_type hc hc' (by decide) rfl
  refine ⟨⟨block2_set0 hp2 v', ?_, ?_, .inl h.inF, ?_, fun g hg => .inl (h.inL g hg)⟩, c0, hf 0, hm.setCell (.inl h.inF) _⟩
  · rw [List.flatMap_append, List.length_append, List.length_singleton]
    simp only [List.flatMap_cons, List.flatMap_nil, List.append_nil]
    refine ownsRow_same ho fun g hgo => Below.heap_setCell _ _ _ _ ?_
    obtain ⟨_, cur, hc⟩ := ownsRow_type ho hgo
    exact ne_of_type hc hp2 (by decide)
  · refine ownsRow_same hL2 fun g hgo => Below.heap_setCell _ _ _ _ ?_
    obtain ⟨_, cur, hc⟩ := ownsRow_type hL2 hgo
    exact ne_of_type hc hp2 (by decide)
  · intro g hgo
    rcases hw with hw | hw
    · exact .inl (h.inS g (hw ▸ hgo))
    · rw [hgo] at hw
      simp at hw
      right; omega

theorem RefAt.appL {w w2 : World} {F : Nat → Prop} {p : Nat} {S : List Strm} {L : List Rw} {vS vL v' : Value} {o : Obj} {y : Rw} (h : RefAt w F p S L vS vL)
    (hg : (w.alloc o).grownBy w2 vL.ownBlock) (ho : w2.ownsRow 0 38 3 v' (L.length + 1) (L.flatMap cellsR ++ cellsR y))
    (hw : v'.ownBlock = vL.ownBlock ∨ v'.ownBlock = some (w.alloc o).heap.size) :
    RefAt (w2.setCell ⟨p, 1, none⟩ v') (Plus F w) p S (L ++ [y]) vS v' ∧ w2.cell? ⟨p, 1, none⟩ = some vL ∧ w2.frozen? ⟨p, 1, none⟩ = false ∧ Moved F w (w2.setCell ⟨p, 1, none⟩ v') := by
  have hpl := (Array.getElem?_eq_some_iff.1 h.block).1
  have hm : Moved F w w2 := ((Moved.refl F w).alloc o).grown hg (fun k hk => .inl (h.inL k hk))
  have hp2 : w2.heap[p]? = some (.cells #[vS, vL] 114 (0, 0)) := by
    rw [hg.block p (by simp; omega) (fun e => ?_), Go.RowKit.Below.heap_alloc w o p hpl, h.block]
    obtain ⟨_, cur, hc⟩ := ownsRow_type h.rowL e.symm
    exact ne_of_type hc h.block (by decide) rfl
  obtain ⟨_, c1, hf⟩ := cell_of_block2 hp2
  have hS2 : w2.ownsRow 0 155 2 vS S.length (S.flatMap cellsS) := ownsRow_same h.rowS fun g hgL => by
    obtain ⟨hgl, cur, hc⟩ := ownsRow_type h.rowS hgL
    rw [hg.block g (by simp; omega) (fun e => ?_), Go.RowKit.Below.heap_alloc w o g hgl]
    obtain ⟨_, cur', hc'⟩ := ownsRow_type h.rowL e.symm
    exact ne_of_type hc hc' (by decide) rfl
  refine ⟨⟨block2_set1 hp2 v', ?_, ?_, .inl h.inF, fun g hg => .inl (h.inS g hg), ?_⟩, c1, hf 1, hm.setCell (.inl h.inF) _⟩
  · refine ownsRow_same hS2 fun g hgo => Below.heap_setCell _ _ _ _ ?_
    obtain ⟨_, cur, hc⟩ := ownsRow_type hS2 hgo
    exact ne_of_type hc hp2 (by decide)
  · rw [List.flatMap_append, List.length_append, List.length_singleton]
    simp only [List.flatMap_cons, List.flatMap_nil, List.append_nil]
    refine ownsRow_same ho fun g hgo => Below.heap_setCell _ _ _ _ ?_
    obtain ⟨_, cur, hc⟩ := ownsRow_type ho hgo
    exact ne_of_type hc hp2 (by decide)
  · intro g hgo
    rcases hw with hw | hw
    · exact .inl (h.inL g (hw ▸ hgo))
    · rw [hgo] at hw
      simp at hw
      right; omega

theorem cellsS_set (S : List Strm) (k : Nat) (t : Int) (h : k < S.length) : (S.flatMap cellsS).set (k * 2 + 1) (.int .i64 t) = (S.set k (S[k].1, t)).flatMap cellsS := by
  induction S generalizing k with
  | nil => simp at h
  | cons x S ih =>
    cases k with
    | zero => simp [cellsS]
    | succ k =>
      have := ih k (by simpa using h)
      simp only [List.flatMap_cons, cellsS, List.cons_append, List.nil_append, Nat.add_mul, Nat.one_mul, List.set_cons_succ, List.getElem_cons_succ] at this ⊢
      rw [this]

theorem RefAt.setLast {w : World} {F : Nat → Prop} {p g cap n : Nat} {S : List Strm} {L : List Rw} {vL : Value} {k : Nat} (t : Int) (h : RefAt w F p S L (.slice (some ⟨g, 0, none⟩) n cap) vL) (hk : k < S.length) :
    RefAt (w.setCell ⟨g, k * 2 + 1, none⟩ (.int .i64 t)) F p (S.set k (S[k].1, t)) L (.slice (some ⟨g, 0, none⟩) n cap) vL ∧ Moved F w (w.setCell ⟨g, k * 2 + 1, none⟩ (.int .i64 t)) := by
  obtain ⟨hgl, cur, hc⟩ := ownsRow_type h.rowS (g := g) rfl
  have hn : n = S.length := by
    rcases h.rowS.2 with ⟨h', _⟩ | ⟨g', cap', cur', h', _⟩
    · simp at h'
    · simp at h'; exact h'.2.1
  subst hn
  refine ⟨⟨?_, ?_, ?_, h.inF, h.inS, h.inL⟩, (Moved.refl F w).setCell (.inl (h.inS g rfl)) _⟩
  · rw [Go.RowKit.Below.heap_setCell _ _ _ _ (ne_of_type h.block hc (by decide))]; exact h.block
  · have := (h.rowS.stored (k * 2 + 1) (.int .i64 t)).1
    rw [cellsS_set S k t hk] at this
    simpa using this
  · refine ownsRow_same h.rowL fun g' hgo => Go.RowKit.Below.heap_setCell _ _ _ _ ?_
    obtain ⟨_, cur', hc'⟩ := ownsRow_type h.rowL hgo
    exact ne_of_type hc' hc (by decide)

def pushR (S : List Strm) (L : List Rw) (l : List UInt8) (t : Int) (x : List UInt8) : Int × List Strm × List Rw :=
  if labelsB l = false then (1, S, L)
  else if timeB t = false then (2, S, L)
  else if 40 < x.length then (3, S, L)
  else if h : at_ S l < S.length then
    if t < S[at_ S l].2 then (4, S, L)
    else if 300 ≤ L.length then (6, S, L)
    else (0, S.set (at_ S l) (S[at_ S l].1, t), L ++ [(l, t, x)])
  else if 6 ≤ S.length then (5, S, L)
  else if 300 ≤ L.length then (6, S, L)
  else (0, S ++ [(l, t)], L ++ [(l, t, x)])

theorem Plus.up {F : Nat → Prop} {w W : World} (h : w.heap.size ≤ W.heap.size) : ∀ b, Plus F W b → Plus F w b := by
  rintro b (hb | hb)
  · exact .inl hb
  · exact .inr (by omega)

set_option maxRecDepth 10000 in
set_option maxHeartbeats 4000000 in
theorem refPush_any {F : Nat → Prop} {p : Nat} {S : List Strm} {L : List Rw} {vS vL : Value} (l x : List UInt8) (t : Int) (w : World) (hr : RefAt w F p S L vS vL) (hS : S.length ≤ 6) (hL : L.length ≤ 300) (hl : l.length ≤ 1048576) (hx : x.length ≤ 1048576) :
    Calls Tryz.prog 56 #[.pointer (some ⟨p, 0, none⟩), .string ⟨l.toArray⟩, .int .i64 t, .string ⟨x.toArray⟩] w fun e w' =>
      e = .returned (.int .i64 (pushR S L l t x).1) ∧ (∃ vS' vL', RefAt w' (Plus F w) p (pushR S L l t x).2.1 (pushR S L l t x).2.2 vS' vL') ∧ Moved F w w' := by
  generalize hres : pushR S L l t x = res
  have HR := hide hres
  clear hres
  go_enter Tryz.func56, Tryz.ntmps56
  go_wp2_with fail
  refine (isLabels_l l _ hl).mono ?_
  rintro e w1 ⟨rfl, hb1⟩
  have hm1 : Moved F w w1 := Moved.of_below hb1
  have hr1 : RefAt w1 F p S L vS vL := hr.keep fun b hb _ => hb1.block b hb
  go_wp2_with fail
  refine (times_any t _).mono ?_
  rintro e w2 ⟨rfl, rfl⟩
  go_wp2_with fail
  refine (where_any l _ hr1 hS).mono ?_
  rintro e w3 ⟨rfl, rfl⟩
  have hr1p := hr1.weaken (G := Plus F w) (fun b hb => .inl hb)
  cases h1 : labelsB l with
  | false =>
    go_wp2
    go_ret
    rw [← unhide HR, pushR, if_pos h1]
    exact ⟨rfl, ⟨_, _, hr1p⟩, hm1⟩
  | true =>
    cases h2 : timeB t with
    | false =>
      go_wp2
      go_ret
      rw [← unhide HR, pushR, if_neg (by simp [h1]), if_pos h2]
      exact ⟨rfl, ⟨_, _, hr1p⟩, hm1⟩
    | true =>
      by_cases h3 : (40 : Int) < x.length
      · go_wp2
        go_ret
        rw [← unhide HR, pushR, if_neg (by simp [h1]), if_neg (by simp [h2]), if_pos (by omega)]
        exact ⟨rfl, ⟨_, _, hr1p⟩, hm1⟩
      · obtain ⟨i0, hi0, hz0, hs0, hb0⟩ := info_parts Tryz.info155
        obtain ⟨i1, hi1, hz1, hs1, hb1'⟩ := info_parts Tryz.info38
        obtain ⟨c0, c1, fp⟩ := cell_of_block2 hr1.block
        obtain ⟨aL, capL, rfl, -, -, -, -, -, -⟩ := owns_form hr1.rowL
        by_cases hk : at_ S l < S.length
        · have hpos : 0 < S.length := by omega
          obtain ⟨g, cap, rfl, -, hgw, hnc, hcm, hcell, hfz⟩ := owns_open hr1.rowS hpos
          have hw : whereI S l = (at_ S l : Int) := by rw [whereI, if_pos hk]
          rw [hw]
          clear hw
          have hres : pushR S L l t x = if t < S[at_ S l].2 then (4, S, L) else if 300 ≤ L.length then (6, S, L) else (0, S.set (at_ S l) (S[at_ S l].1, t), L ++ [(l, t, x)]) := by
            rw [pushR, if_neg (by simp [h1]), if_neg (by simp [h2]), if_neg (by omega), dif_pos hk]
          have HR2 := hide (hres.symm.trans (unhide HR))
          clear hres HR
          generalize at_ S l = k at *
          have hc := hcell (k * 2 + 1) (by omega)
          rw [(cellsS_at S k hk).2] at hc
          have hf := hfz (k * 2 + 1)
          clear hcell hfz
          by_cases h4 : t < S[k].2
          · go_wp2
            go_ret
            rw [← unhide HR2, if_pos h4]
            exact ⟨rfl, ⟨_, _, hr1p⟩, hm1⟩
          · by_cases h6 : (300 : Int) ≤ L.length
            · go_wp2
              go_ret
              rw [← unhide HR2, if_neg (by omega), if_pos (by omega)]
              exact ⟨rfl, ⟨_, _, hr1p⟩, hm1⟩
            · go_upto_region 20 with fail
              obtain ⟨hrW, hmW⟩ := hr1.setLast t hk
              generalize w3.setCell ⟨g, k * 2 + 1, none⟩ (.int .i64 t) = W at *
              obtain ⟨cW0, cW1, fW⟩ := cell_of_block2 hrW.block
              go_wp2_with (at_builtin; refine wpList_append_here _ rfl (.tmp 92) (.tmp 97) 28 rfl 38 i1 (.agg #[.string ByteArray.empty, .int .i64 0, .string ByteArray.empty]) 3 40 Tryz.underlying28 hi1 hz1 hs1 hb1' rfl (by decide) _ _ _ rfl (hrW.rowL.alloc _) (some ⟨W.heap.size, 0, none⟩) 1 1 (cellsR (l, t, x)) rfl rfl (by intro e; cases e) (cells_new W _ _) (by intro u hu; simp [cellsR] at hu; rcases hu with rfl | rfl | rfl <;> rfl) (by unfold maxLen; omega) (by omega) ?_; intro v2 w4 hown4 hgrow4 hwh4; obtain ⟨a2, cap2, rfl, -, -, -, -, -, -⟩ := owns_form hown4; obtain ⟨hrf, cL, fL, hmf⟩ := hrW.appL hgrow4 hown4 hwh4; clear hgrow4 hown4 hwh4)
              go_ret
              rw [← unhide HR2, if_neg (by omega), if_neg (by omega)]
              exact ⟨rfl, ⟨_, _, hrf.weaken (Plus.up (by have := hm1.size; have := hmW.size; omega))⟩, (hm1.trans hmW (fun _ h => .inl h)).trans hmf (fun _ h => .inl h)⟩
        · have hw : whereI S l = -1 := by rw [whereI, if_neg hk]
          rw [hw]
          clear hw
          have hres : pushR S L l t x = if 6 ≤ S.length then (5, S, L) else if 300 ≤ L.length then (6, S, L) else (0, S ++ [(l, t)], L ++ [(l, t, x)]) := by
            rw [pushR, if_neg (by simp [h1]), if_neg (by simp [h2]), if_neg (by omega), dif_neg hk]
          have HR2 := hide (hres.symm.trans (unhide HR))
          clear hres HR hk
          obtain ⟨aS, capS, rfl, -, -, -, -, -, -⟩ := owns_form hr1.rowS
          by_cases h5 : (6 : Int) ≤ S.length
          · go_wp2
            go_ret
            rw [← unhide HR2, if_pos (by omega)]
            exact ⟨rfl, ⟨_, _, hr1p⟩, hm1⟩
          · by_cases h6 : (300 : Int) ≤ L.length
            · go_wp2
              go_ret
              rw [← unhide HR2, if_neg (by omega), if_pos (by omega)]
              exact ⟨rfl, ⟨_, _, hr1p⟩, hm1⟩
            · go_upto_region 19 with (at_builtin; refine wpList_append_here _ rfl (.tmp 73) (.tmp 76) 112 rfl 155 i0 (.agg #[.string ByteArray.empty, .int .i64 0]) 2 24 Tryz.underlying112 hi0 hz0 hs0 hb0 rfl (by decide) _ _ _ rfl (hr1.rowS.alloc _) (some ⟨w3.heap.size, 0, none⟩) 1 1 (cellsS (l, 0)) rfl rfl (by intro e; cases e) (cells_new w3 _ _) (by intro u hu; simp [cellsS] at hu; rcases hu with rfl | rfl <;> rfl) (by unfold maxLen; omega) (by omega) ?_; intro v2 w4 hown4 hgrow4 hwh4; obtain ⟨g, cap, rfl, -, -, -, -, -, -⟩ := owns_open hown4 (by omega); obtain ⟨hrU, cS, fS, hmU⟩ := hr1.appS hgrow4 hown4 hwh4; clear hgrow4 hown4 hwh4)
              have hUf := cell_of_block2 hrU.block
              generalize w4.setCell ⟨p, 0, none⟩ (.slice (some ⟨g, 0, none⟩) (S.length + 1) cap) = U at *
              obtain ⟨cU0, cU1, fU⟩ := hUf
              have hkU : S.length < (S ++ [(l, (0 : Int))]).length := by simp
              have hcU : U.cell? ⟨g, S.length * 2 + 1, none⟩ = some (.int .i64 0) := by
                have hlen : (S ++ [(l, (0 : Int))]).length = S.length + 1 := by simp
                have hrS := hrU.rowS
                rw [hlen] at hrS
                rw [hrS.cellAt (S.length * 2 + 1) (by omega), (cellsS_at _ _ hkU).2]
                simp
              have hfU : U.frozen? ⟨g, S.length * 2 + 1, none⟩ = false := by
                have hlen : (S ++ [(l, (0 : Int))]).length = S.length + 1 := by simp
                have hrS := hrU.rowS
                rw [hlen] at hrS
                exact hrS.frozenAt _
              go_upto_region 20 with fail
              obtain ⟨hrW, hmW⟩ := hrU.setLast t hkU
              generalize U.setCell ⟨g, S.length * 2 + 1, none⟩ (.int .i64 t) = W at *
              have hset : (S ++ [(l, (0 : Int))]).set S.length ((S ++ [(l, (0 : Int))])[S.length].1, t) = S ++ [(l, t)] := by simp
              rw [hset] at hrW
              clear hset
              obtain ⟨cW0, cW1, fW⟩ := cell_of_block2 hrW.block
              go_wp2_with (at_builtin; refine wpList_append_here _ rfl (.tmp 92) (.tmp 97) 28 rfl 38 i1 (.agg #[.string ByteArray.empty, .int .i64 0, .string ByteArray.empty]) 3 40 Tryz.underlying28 hi1 hz1 hs1 hb1' rfl (by decide) _ _ _ rfl (hrW.rowL.alloc _) (some ⟨W.heap.size, 0, none⟩) 1 1 (cellsR (l, t, x)) rfl rfl (by intro e; cases e) (cells_new W _ _) (by intro u hu; simp [cellsR] at hu; rcases hu with rfl | rfl | rfl <;> rfl) (by unfold maxLen; omega) (by omega) ?_; intro v2 w4 hown4 hgrow4 hwh4; obtain ⟨a2, cap2, rfl, -, -, -, -, -, -⟩ := owns_form hown4; obtain ⟨hrf, cL, fL, hmf⟩ := hrW.appL hgrow4 hown4 hwh4; clear hgrow4 hown4 hwh4)
              go_ret
              rw [← unhide HR2, if_neg (by omega), if_neg (by omega)]
              exact ⟨rfl, ⟨_, _, hrf.weaken (fun b hb => Plus.up hm1.size b (by rcases hb with hb | hb; exact hb; exact .inr (by have := hmU.size; have := hmW.size; omega)))⟩,
                (hm1.trans (hmU.trans hmW (fun _ h => h)) (fun _ h => .inl h)).trans hmf (fun _ h => by rcases h with h | h; exact .inl h; exact .inr (by have := hm1.size; omega))⟩

end Go.Proofs.YtbljamcdaoofbaaGreatDoor

/- The reference's Streams and Drop. -/
namespace Go.Proofs.YtbljamcdaoofbaaGreatDoor
open Go.RowKit

/-- where a text goes among sorted ones: behind the last that is less -/
def putAt (l : List (List UInt8)) (s : List UInt8) : Nat :=
  (List.range l.length).foldl (fun at_ i => if Op.bytesLess (l.getD i []) s = true then i + 1 else at_) 0
def putL (l : List (List UInt8)) (s : List UInt8) : List (List UInt8) :=
  if l.contains s then l else l.take (putAt l s) ++ [s] ++ l.drop (putAt l s)

def putK (l : List (List UInt8)) (s : List UInt8) (k : Nat) : Nat :=
  (List.range k).foldl (fun at_ i => if Op.bytesLess (l.getD i []) s = true then i + 1 else at_) 0
theorem putK_succ (l : List (List UInt8)) (s : List UInt8) (k : Nat) : putK l s (k + 1) = if Op.bytesLess (l.getD k []) s = true then k + 1 else putK l s k := by
  simp [putK, List.range_succ, List.foldl_append]
theorem putK_le (l : List (List UInt8)) (s : List UInt8) (k : Nat) : putK l s k ≤ k := by
  induction k with
  | zero => simp [putK]
  | succ k ih => rw [putK_succ]; split <;> omega

theorem map_SV_at (l : List (List UInt8)) (k : Nat) (h : k < l.length) : (l.map SV)[k]? = some (SV l[k]) := by simp [h]

theorem ownsRow_base {w : World} {base base' : Nat} {e : TypeId} {size : Nat} {v : Value} {n : Nat} {xs : List Value} (h : w.ownsRow base e size v n xs) (hb : base' ≤ base) : w.ownsRow base' e size v n xs := by
  refine ⟨h.1, ?_⟩
  rcases h.2 with h2 | ⟨g, cap, cur, hv, hg, r⟩
  · exact .inl h2
  · exact .inr ⟨g, cap, cur, hv, by omega, r⟩

theorem map_SV_one (l : List (List UInt8)) : ∀ u ∈ l.map SV, u.oneCell' = true := by
  intro u hu
  obtain ⟨x, -, rfl⟩ := List.mem_map.1 hu
  rfl

theorem addr_add (g o j : Nat) : (⟨g, o, none⟩ : Addr).add j = ⟨g, o + j, none⟩ := by unfold Addr.add; split <;> simp_all

theorem take_cells {w : World} {g : Nat} {l : List (List UInt8)} (h : ∀ j u, (l.map SV)[j]? = some u → w.cell? ⟨g, j, none⟩ = some u) (a : Nat) :
    ∀ ad, some (⟨g, 0, none⟩ : Addr) = some ad → ∀ j u, ((l.take a).map SV)[j]? = some u → w.cell? (ad.add j) = some u := by
  rintro ad ⟨⟩ j u hj
  rw [addr_add, Nat.zero_add]
  refine h j u ?_
  rw [List.map_take, List.getElem?_take] at hj
  split at hj
  · exact hj
  · cases hj

set_option maxRecDepth 10000 in
set_option maxHeartbeats 2000000 in
theorem put_l (l : List (List UInt8)) (v : Value) (s : List UInt8) (w : World) (B : Nat) (hB : B ≤ w.heap.size) (hown : w.ownsRow B 9 1 v l.length (l.map SV)) (hl : l.length ≤ 6) :
    Calls Tryz.prog 118 #[v, .string ⟨s.toArray⟩] w fun e w' => ∃ v', e = .returned v' ∧ w'.ownsRow B 9 1 v' (putL l s).length ((putL l s).map SV) ∧ Below w.heap.size w w' := by
  obtain ⟨i0, hi, hz0, hz1, hz2⟩ := info_parts Tryz.info9
  have hown0 := hown
  obtain ⟨ao, cap, rfl, hnc, hcm, hnil, hao, hcell, hfz⟩ := owns_form hown
  clear hown hfz
  unfold maxLen at hcm
  have HN := hide hnil
  have HA := hide hao
  have HC := hide hcell
  clear hnil hao hcell
  go_enter Tryz.func118, Tryz.ntmps118
  go_wp2
  go_loop [5, 6] (fun a i => ∃ k : Nat, k ≤ l.length ∧ i = .int .i64 k ∧ a = .int .i64 (putK l s k) ∧ (∀ j (h : j < l.length), j < k → (l[j] == s) = false)) (fun _ i => l.length - (intOf i).toNat)
  case atStart => exact ⟨0, Nat.zero_le _, rfl, rfl, fun j _ h => by omega⟩
  case round =>
    obtain ⟨k, hk, rfl, rfl, hno⟩ := hrel
    have HNO := hide hno
    clear hno
    by_cases hlt : k < l.length
    · obtain ⟨⟨g, o, sp⟩, rfl⟩ : ∃ a, ao = some a := by
        cases ao with
        | none => have := (unhide HN rfl).1; omega
        | some a => exact ⟨a, rfl⟩
      obtain ⟨ho, hsp, hBg, hgw⟩ := unhide HA _ rfl
      simp only at ho hsp hgw hBg
      subst ho hsp
      have hc := unhide HC _ rfl k (by omega)
      rw [map_SV_at l k hlt] at hc
      have HP := hide (putK_succ l s k)
      have hpk := putK_le l s k
      go_wp2
      · go_ret
        refine ⟨_, rfl, ?_, Below.refl _ _⟩
        have hm : s ∈ l := by
          have e : l[k] = s := by simpa using ‹(l[k] == s) = true›
          rw [← e]; exact List.getElem_mem hlt
        have hp : putL l s = l := by rw [putL, if_pos (by simpa using hm)]
        rw [hp]
        exact hown0
      · go_round
        case rel =>
          refine ⟨k + 1, by omega, by go_num, ?_, fun j hj hjk => ?_⟩
          · rw [unhide HP, if_pos (by simpa [hlt] using ‹Op.bytesLess l[k] s = true›)]; go_num
          · by_cases e : j = k
            · subst e; assumption
            · exact unhide HNO j hj (by omega)
        case measure => simp [intOf]; omega
      · go_round
        case rel =>
          refine ⟨k + 1, by omega, by go_num, ?_, fun j hj hjk => ?_⟩
          · rw [unhide HP, if_neg (by simpa [hlt] using ‹Op.bytesLess l[k] s = false›)]
          · by_cases e : j = k
            · subst e; assumption
            · exact unhide HNO j hj (by omega)
        case measure => simp [intOf]; omega
    · have hkl : k = l.length := by omega
      have hnm : l.contains s = false := by
        rw [Bool.eq_false_iff]
        intro h
        have hm : s ∈ l := by simpa using h
        obtain ⟨j, hj, e⟩ := List.getElem_of_mem hm
        have := unhide HNO j hj (by omega)
        simp [e] at this
      have hpk := putK_le l s k
      have HP := hide (show putL l s = l.take (putK l s k) ++ [s] ++ l.drop (putK l s k) by rw [putL, hnm, hkl]; rfl)
      generalize putK l s k = a at *
      clear hnm HNO
      cases ao with
      | none =>
        have hl0 : l = [] := List.eq_nil_of_length_eq_zero (unhide HN rfl).1
        have ha0 : a = 0 := by subst hl0; simp at hkl; omega
        have hc0 : cap = 0 := (unhide HN rfl).2
        subst hl0 ha0 hc0
        clear hkl
        go_upto_region 11 with (at_builtin; refine wpList_append_at _ rfl (.tmp 29) (.tmp 32) 33 rfl w.heap.size 9 i0 (.string ByteArray.empty) 1 16 Tryz.underlying33 hi hz0 hz1 hz2 rfl (by decide) (.slice none 0 0) _ _ rfl (World.ownsRow_nil _ _ _ _) none 0 0 [] rfl rfl (fun _ => ⟨rfl, rfl⟩) (by intro _ e; cases e) (by intro u hu; cases hu) (by unfold maxLen; omega) (by omega) (Nat.le_refl _) ?_; intro v1 w1 hown1 hgrow1 hwh1)
        simp only [Nat.zero_add, List.nil_append] at hown1
        have hb1 : Below w.heap.size w w1 := (Below.refl _ w).grown hgrow1 (Nat.le_refl _) (fun k hk => by simp [Value.ownBlock] at hk)
        clear hgrow1 hwh1
        have hs1 := hb1.size
        go_upto_region 12 with (at_builtin; refine wpList_append_at _ rfl (.tmp 34) (.tmp 36) 33 rfl w.heap.size 9 i0 (.string ByteArray.empty) 1 16 Tryz.underlying33 hi hz0 hz1 hz2 rfl (by decide) v1 _ _ rfl (hown1.alloc _) (some ⟨w1.heap.size, 0, none⟩) 1 1 [SV s] rfl rfl (by intro e; cases e) (cells_new w1 _ _) (by intro u hu; simp at hu; subst hu; rfl) (by unfold maxLen; omega) (by omega) (by simp; omega) ?_; intro v2 w2 hown2 hgrow2 hwh2)
        have hb2 : Below w.heap.size w w2 := (hb1.alloc hs1 _).grown hgrow2 (by simp; omega) (fun k hk => (hown1.lt k hk).1)
        clear hgrow2 hwh2
        have hs2 := hb2.size
        go_wp2_with (at_builtin; refine wpList_append_at _ rfl (.tmp 38) (.tmp 41) 33 rfl w.heap.size 9 i0 (.string ByteArray.empty) 1 16 Tryz.underlying33 hi hz0 hz1 hz2 rfl (by decide) v2 _ _ rfl hown2 none 0 0 [] rfl rfl (fun _ => ⟨rfl, rfl⟩) (by intro _ e; cases e) (by intro u hu; cases hu) (by unfold maxLen; omega) (by omega) (by omega) ?_; intro v3 w3 hown3 hgrow3 hwh3)
        go_ret
        refine ⟨v3, rfl, ?_, hb2.grown hgrow3 hs2 (fun k hk => (hown2.lt k hk).1)⟩
        rw [unhide HP]
        exact ownsRow_base hown3 hB
      | some ad =>
        obtain ⟨g, o, sp⟩ := ad
        obtain ⟨ho, hsp, hBg, hgw⟩ := unhide HA _ rfl
        simp only at ho hsp hgw hBg
        subst ho hsp
        have hkeep : ∀ j u, (l.map SV)[j]? = some u → w.cell? ⟨g, j, none⟩ = some u := fun j u hu => by
          have hj : j < l.length := by
            have := (List.getElem?_eq_some_iff.1 hu).1
            simpa using this
          exact (unhide HC _ rfl j (by omega)).trans hu
        have HK := hide hkeep
        clear hkeep
        go_upto_region 11 with (at_builtin; refine wpList_append_at _ rfl (.tmp 29) (.tmp 32) 33 rfl w.heap.size 9 i0 (.string ByteArray.empty) 1 16 Tryz.underlying33 hi hz0 hz1 hz2 rfl (by decide) (.slice none 0 0) _ _ rfl (World.ownsRow_nil _ _ _ _) (some ⟨g, 0, none⟩) a cap ((l.take a).map SV) rfl (by simp; omega) (by intro e; cases e) (take_cells (unhide HK) a) (map_SV_one _) (by unfold maxLen; omega) (by omega) (Nat.le_refl _) ?_; intro v1 w1 hown1 hgrow1 hwh1)
        simp only [Nat.zero_add, List.nil_append] at hown1
        have hb1 : Below w.heap.size w w1 := (Below.refl _ w).grown hgrow1 (Nat.le_refl _) (fun k hk => by simp [Value.ownBlock] at hk)
        clear hgrow1 hwh1
        have hs1 := hb1.size
        go_upto_region 12 with (at_builtin; refine wpList_append_at _ rfl (.tmp 34) (.tmp 36) 33 rfl w.heap.size 9 i0 (.string ByteArray.empty) 1 16 Tryz.underlying33 hi hz0 hz1 hz2 rfl (by decide) v1 _ _ rfl (hown1.alloc _) (some ⟨w1.heap.size, 0, none⟩) 1 1 [SV s] rfl rfl (by intro e; cases e) (cells_new w1 _ _) (by intro u hu; simp at hu; subst hu; rfl) (by unfold maxLen; omega) (by omega) (by simp; omega) ?_; intro v2 w2 hown2 hgrow2 hwh2)
        have hb2 : Below w.heap.size w w2 := (hb1.alloc hs1 _).grown hgrow2 (by simp; omega) (fun k hk => (hown1.lt k hk).1)
        clear hgrow2 hwh2
        have hs2 := hb2.size
        go_wp2_with (at_builtin; refine wpList_append_at _ rfl (.tmp 38) (.tmp 41) 33 rfl w.heap.size 9 i0 (.string ByteArray.empty) 1 16 Tryz.underlying33 hi hz0 hz1 hz2 rfl (by decide) v2 _ _ rfl hown2 _ _ _ ((l.drop a).map SV) rfl ?c1 ?c2 ?c3 (map_SV_one _) (by unfold maxLen; omega) (by omega) (by omega) ?_; rotate_right; intro v3 w3 hown3 hgrow3 hwh3)
        · go_ret
          refine ⟨v3, rfl, ?_, hb2.grown hgrow3 hs2 (fun k hk => (hown2.lt k hk).1)⟩
          rw [unhide HP]
          have hn : (l.take a ++ [s] ++ l.drop a).length = a + 1 + (l.length - a) := by simp; omega
          rw [hn, List.map_append, List.map_append]
          exact ownsRow_base hown3 hB
        · go_ret
          refine ⟨v3, rfl, ?_, hb2.grown hgrow3 hs2 (fun k hk => (hown2.lt k hk).1)⟩
          rw [unhide HP]
          have hn : (l.take a ++ [s] ++ l.drop a).length = a + 1 + (l.length - a) := by simp; omega
          rw [hn, List.map_append, List.map_append]
          exact ownsRow_base hown3 hB
        · intro j u hu
          have := (List.getElem?_eq_some_iff.1 hu).1
          omega
        · intro j u hu
          rw [hb2.cell (by exact hgw)]
          refine unhide HK _ _ ?_
          rw [List.getElem?_map, hu]
          rfl

end Go.Proofs.YtbljamcdaoofbaaGreatDoor
