/- The reference's rows of a query. -/
import Derived.Test.YtbljamcdaoofbaaGreatDoorRParseToLabel
import Derived.Test.YtbljamcdaoofbaaGreatDoorPMarkToPRule
import Derived.Test.YtbljamcdaoofbaaGreatDoorPFindToPAdd
import Derived.Deep.CutRange
import Derived.Deep.RegionLaw
namespace Go.Proofs.YtbljamcdaoofbaaGreatDoor
open Go.RowKit

/-- what the tokens of a text are like -/
def Fit (ts : List Tok) : Prop := ∀ t ∈ ts, t.k ≤ 5 ∧ t.text.length ≤ 200 ∧ (t.k = 0 → t.text ≠ [] ∧ t.text.all isL = true) ∧ (t.k = 3 → t.text.all (fun c => !isL c) = true) ∧ (t.k = 1 → t.text ≠ [] ∧ t.text.all isD = true)

theorem tokAt_mem {ts : List Tok} {i : Nat} (h : i < ts.length) : tokAt ts i ∈ ts := by
  have : tokAt ts i = ts[i] := by simp [tokAt, h]
  rw [this]
  exact List.getElem_mem _

/-- a mark is no word -/
theorem isB_mark {ts : List Tok} {i : Nat} {c : UInt8} {r : List UInt8} (hf : Fit ts) (hi : i < ts.length) (hc : isL c = false) : isB ts i (c :: r) = markB ts i (c :: r) := by
  unfold isB markB
  have h := (hf _ (tokAt_mem hi)).2.2.1
  cases hk : ((tokAt ts i).k == 0) with
  | false => simp
  | true =>
    have hk' : (tokAt ts i).k = 0 := by simpa using hk
    obtain ⟨-, hall⟩ := h hk'
    have : ((tokAt ts i).text == c :: r) = false := by
      rw [beq_eq_false_iff_ne]
      intro e
      rw [e, List.all_cons, hc] at hall
      cases hall
    simp [hk', this]
/-- by is no mark -/
theorem isB_by {ts : List Tok} {i : Nat} (hf : Fit ts) (hi : i < ts.length) : isB ts i [98, 121] = ((tokAt ts i).k == 0 && (tokAt ts i).text == [98, 121]) := by
  unfold isB
  have h := (hf _ (tokAt_mem hi)).2.2.2.1
  cases hk : ((tokAt ts i).k == 3) with
  | false => simp
  | true =>
    have hk' : (tokAt ts i).k = 3 := by simpa using hk
    have hall := h hk'
    have : ((tokAt ts i).text == [98, 121]) = false := by
      rw [beq_eq_false_iff_ne]
      intro e
      rw [e] at hall
      cases hall
    simp [hk', this]

theorem Tryz.info233 : (Tryz.prog.info? 233).map (fun i => (i.zero, i.size, i.bytes)) = some (some (.agg #[.string ByteArray.empty, .string ByteArray.empty, .bool false]), 3, 40) := by kernel_rfl

theorem rblock6_set0 {w : World} {p : Nat} {v0 v1 v2 v3 v4 v5 : Value} {t : TypeId} (h : w.heap[p]? = some (.cells #[v0, v1, v2, v3, v4, v5] t (0, 0))) (u : Value) :
    (w.setCell ⟨p, 0, none⟩ u).heap[p]? = some (.cells #[u, v1, v2, v3, v4, v5] t (0, 0)) := by
  simp [World.setCell, Array.getElem?_modify, h]
theorem rblock6_set1 {w : World} {p : Nat} {v0 v1 v2 v3 v4 v5 : Value} {t : TypeId} (h : w.heap[p]? = some (.cells #[v0, v1, v2, v3, v4, v5] t (0, 0))) (u : Value) :
    (w.setCell ⟨p, 1, none⟩ u).heap[p]? = some (.cells #[v0, u, v2, v3, v4, v5] t (0, 0)) := by
  simp [World.setCell, Array.getElem?_modify, h]

/-- a matcher is laid behind the others -/
theorem RQAt.appM {w w2 : World} {base qb g : Nat} {vM vF v' : Value} {meas by_ : List UInt8} {span bad : Int} {M : List Mch} {Fs : List Flt} {ts : List Tok} {o : Obj} {m : Mch} (h : RQAt w base qb vM vF meas span by_ bad M Fs) (ht : RToks w g ts) (hb : base ≤ w.heap.size)
    (hg : (w.alloc o).grownBy w2 vM.ownBlock) (ho : w2.ownsRow base 233 3 v' (M.length + 1) (M.flatMap cellsRM ++ cellsRM m)) (hw : v'.ownBlock = vM.ownBlock ∨ v'.ownBlock = some (w.alloc o).heap.size) :
    RQAt (w2.setCell ⟨qb, 0, none⟩ v') base qb v' vF meas span by_ bad (M ++ [m]) Fs ∧ RToks (w2.setCell ⟨qb, 0, none⟩ v') g ts ∧ w2.cell? ⟨qb, 0, none⟩ = some vM ∧ w2.frozen? ⟨qb, 0, none⟩ = false ∧ Below base w (w2.setCell ⟨qb, 0, none⟩ v') := by
  have key : ∀ (b : Nat) (c : Array Value) (t : TypeId) (f : Nat × Nat), w.heap[b]? = some (Obj.cells c t f) → (∀ r, vM.ownBlock = some r → b ≠ r) → w2.heap[b]? = some (Obj.cells c t f) := fun b c t f hb' hne => by
    have hbl := (Array.getElem?_eq_some_iff.1 hb').1
    rw [hg.block b (by simp; omega) (fun e => hne b e.symm rfl), Go.RowKit.Below.heap_alloc _ _ _ hbl]
    exact hb'
  have typ : ∀ (b : Nat) (c : Array Value) (t : TypeId) (f : Nat × Nat), w.heap[b]? = some (Obj.cells c t f) → t ≠ 233 → w2.heap[b]? = some (Obj.cells c t f) := fun b c t f hb' hne => key b c t f hb' fun r hr => by
    obtain ⟨_, cur, hc⟩ := ownsRow_type h.rowM hr
    exact ne_of_type hb' hc hne
  have hqb := typ _ _ _ _ h.block (by decide)
  obtain ⟨cur, hc, hcur⟩ := ht
  have hct := typ _ _ _ _ hc (by decide)
  have hF2 : w2.ownsRow base 233 3 vF Fs.length (Fs.flatMap cellsRF) := ownsRow_same h.rowF fun b hb' => by
    obtain ⟨_, c', hc'⟩ := ownsRow_type h.rowF hb'
    rw [key _ _ _ _ hc' (fun r hr e => h.apart r hr (e ▸ hb')), hc']
  obtain ⟨c0, -, -, -, -, -, cf⟩ := rcell6 hqb
  refine ⟨⟨rblock6_set0 hqb v', ?_, ?_, ?_, h.bqb⟩, ⟨cur, ?_, hcur⟩, c0, cf 0, ?_⟩
  · rw [List.flatMap_append, List.length_append, List.length_singleton]
    simp only [List.flatMap_cons, List.flatMap_nil, List.append_nil]
    refine ownsRow_same ho fun b hbo => Go.RowKit.Below.heap_setCell _ _ _ _ ?_
    obtain ⟨_, c', hc'⟩ := ownsRow_type ho hbo
    exact ne_of_type hc' hqb (by decide)
  · refine ownsRow_same hF2 fun b hbo => Go.RowKit.Below.heap_setCell _ _ _ _ ?_
    obtain ⟨_, c', hc'⟩ := ownsRow_type hF2 hbo
    exact ne_of_type hc' hqb (by decide)
  · intro r hr
    rcases hw with e | e
    · exact h.apart r (e ▸ hr)
    · intro hF
      have := (h.rowF.lt r hF).2
      rw [hr] at e
      simp at e
      omega
  · rw [Go.RowKit.Below.heap_setCell _ _ _ _ (ne_of_type hct hqb (by decide))]; exact hct
  · exact (((Below.refl base w).alloc hb o).grown hg (by simp; omega) (fun k hk => (h.rowM.lt k hk).1)).setCell (p := ⟨qb, 0, none⟩) h.bqb _

/-- a filter is laid behind the others -/
theorem RQAt.appF {w w2 : World} {base qb g : Nat} {vM vF v' : Value} {meas by_ : List UInt8} {span bad : Int} {M : List Mch} {Fs : List Flt} {ts : List Tok} {o : Obj} {m : Flt} (h : RQAt w base qb vM vF meas span by_ bad M Fs) (ht : RToks w g ts) (hb : base ≤ w.heap.size)
    (hg : (w.alloc o).grownBy w2 vF.ownBlock) (ho : w2.ownsRow base 233 3 v' (Fs.length + 1) (Fs.flatMap cellsRF ++ cellsRF m)) (hw : v'.ownBlock = vF.ownBlock ∨ v'.ownBlock = some (w.alloc o).heap.size) :
    RQAt (w2.setCell ⟨qb, 1, none⟩ v') base qb vM v' meas span by_ bad M (Fs ++ [m]) ∧ RToks (w2.setCell ⟨qb, 1, none⟩ v') g ts ∧ w2.cell? ⟨qb, 1, none⟩ = some vF ∧ w2.frozen? ⟨qb, 1, none⟩ = false ∧ Below base w (w2.setCell ⟨qb, 1, none⟩ v') := by
  have key : ∀ (b : Nat) (c : Array Value) (t : TypeId) (f : Nat × Nat), w.heap[b]? = some (Obj.cells c t f) → (∀ r, vF.ownBlock = some r → b ≠ r) → w2.heap[b]? = some (Obj.cells c t f) := fun b c t f hb' hne => by
    have hbl := (Array.getElem?_eq_some_iff.1 hb').1
    rw [hg.block b (by simp; omega) (fun e => hne b e.symm rfl), Go.RowKit.Below.heap_alloc _ _ _ hbl]
    exact hb'
  have typ : ∀ (b : Nat) (c : Array Value) (t : TypeId) (f : Nat × Nat), w.heap[b]? = some (Obj.cells c t f) → t ≠ 233 → w2.heap[b]? = some (Obj.cells c t f) := fun b c t f hb' hne => key b c t f hb' fun r hr => by
    obtain ⟨_, cur, hc⟩ := ownsRow_type h.rowF hr
    exact ne_of_type hb' hc hne
  have hqb := typ _ _ _ _ h.block (by decide)
  obtain ⟨cur, hc, hcur⟩ := ht
  have hct := typ _ _ _ _ hc (by decide)
  have hM2 : w2.ownsRow base 233 3 vM M.length (M.flatMap cellsRM) := ownsRow_same h.rowM fun b hb' => by
    obtain ⟨_, c', hc'⟩ := ownsRow_type h.rowM hb'
    rw [key _ _ _ _ hc' (fun r hr e => h.apart b hb' (e ▸ hr)), hc']
  obtain ⟨-, c1, -, -, -, -, cf⟩ := rcell6 hqb
  refine ⟨⟨rblock6_set1 hqb v', ?_, ?_, ?_, h.bqb⟩, ⟨cur, ?_, hcur⟩, c1, cf 1, ?_⟩
  · refine ownsRow_same hM2 fun b hbo => Go.RowKit.Below.heap_setCell _ _ _ _ ?_
    obtain ⟨_, c', hc'⟩ := ownsRow_type hM2 hbo
    exact ne_of_type hc' hqb (by decide)
  · rw [List.flatMap_append, List.length_append, List.length_singleton]
    simp only [List.flatMap_cons, List.flatMap_nil, List.append_nil]
    refine ownsRow_same ho fun b hbo => Go.RowKit.Below.heap_setCell _ _ _ _ ?_
    obtain ⟨_, c', hc'⟩ := ownsRow_type ho hbo
    exact ne_of_type hc' hqb (by decide)
  · intro r hr hF
    rcases hw with e | e
    · exact h.apart r hr (e ▸ hF)
    · have := (h.rowM.lt r hr).2
      rw [hF] at e
      simp at e
      omega
  · rw [Go.RowKit.Below.heap_setCell _ _ _ _ (ne_of_type hct hqb (by decide))]; exact hct
  · exact (((Below.refl base w).alloc hb o).grown hg (by simp; omega) (fun k hk => (h.rowF.lt k hk).1)).setCell (p := ⟨qb, 1, none⟩) h.bqb _

/-- what rows answers, and leaves -/
def RRowsPost (w : World) (base qb g : Nat) (ts : List Tok) (meas : List UInt8) (span : Int) (by_ : List UInt8) (p : Nat × Bool × List Mch × List Flt) (e : Ending) (w' : World) : Prop :=
  e = .returned (.int .i64 p.1) ∧ RToks w' g ts ∧ Below base w w' ∧ (p.2.1 = true → p.1 < ts.length ∧ ∃ vM vF, RQAt w' base qb vM vF meas span by_ (-1) p.2.2.1 p.2.2.2) ∧ (p.2.1 = false → p.1 < ts.length ∧ ∃ vM vF M F, RQAt w' base qb vM vF meas span by_ p.1 M F)

theorem rrows_bad {w W : World} {base qb g p : Nat} {vM vF : Value} {meas by_ : List UInt8} {span : Int} {M : List Mch} {Fs : List Flt} {ts : List Tok} {res : Nat × Bool × List Mch × List Flt} {X : List Mch} {Y : List Flt}
    (hq : RQAt W base qb vM vF meas span by_ (-1) M Fs) (ht : RToks W g ts) (hb : Below base w W) (hp : p < ts.length) (he : res = (p, false, X, Y)) : RRowsPost w base qb g ts meas span by_ res (.returned (.int .i64 p)) (W.setCell ⟨qb, 5, none⟩ (.int .i64 p)) := by
  subst he
  exact ⟨rfl, ht.set hq 5 _, hb.setCell (p := ⟨qb, 5, none⟩) hq.bqb _, (fun h => by cases h), fun _ => ⟨hp, _, _, _, _, hq.setBad p⟩⟩

theorem rrows_bad2 {w W : World} {base qb g p : Nat} {vM vF : Value} {meas by_ : List UInt8} {span : Int} {M : List Mch} {Fs : List Flt} {ts : List Tok} {res : Nat × Bool × List Mch × List Flt} {X : List Mch} {Y : List Flt} {o : Obj}
    (hq : RQAt W base qb vM vF meas span by_ (-1) M Fs) (ht : RToks W g ts) (hb : Below base w W) (hs : base ≤ w.heap.size) (hp : p < ts.length) (he : res = (p, false, X, Y)) : RRowsPost w base qb g ts meas span by_ res (.returned (.int .i64 p)) ((W.setCell ⟨qb, 5, none⟩ (.int .i64 p)).alloc o) := by
  subst he
  have hk : ∀ b, b < (W.setCell ⟨qb, 5, none⟩ (.int .i64 p)).heap.size → ((W.setCell ⟨qb, 5, none⟩ (.int .i64 p)).alloc o).heap[b]? = (W.setCell ⟨qb, 5, none⟩ (.int .i64 p)).heap[b]? := fun b hb => Go.RowKit.Below.heap_alloc _ _ _ hb
  have hbs : Below base w (W.setCell ⟨qb, 5, none⟩ (.int .i64 p)) := hb.setCell (p := ⟨qb, 5, none⟩) hq.bqb _
  exact ⟨rfl, (ht.set hq 5 _).keep hk, hbs.alloc (by have := hbs.size; omega) o, (fun h => by cases h), fun _ => ⟨hp, _, _, _, _, (hq.setBad p).keep hk⟩⟩

theorem tok_next {ts : List Tok} {i : Nat} (hw : Whole ts) (hi : i < ts.length) {k : Nat} (hk : (tokAt ts i).k = k) (h4 : k < 4) : i + 1 < ts.length := whole_next hw hi (by omega)
theorem mark_k {ts : List Tok} {i : Nat} {s : List UInt8} (h : markB ts i s = true) : (tokAt ts i).k = 3 := by
  unfold markB at h
  simp only [Bool.and_eq_true, beq_iff_eq] at h
  exact h.1

theorem matcherI_0 {ts : List Tok} {j : Nat} (h : wordAt ts j = false) : matcherI ts j = (j, none) := by rw [matcherI, if_pos h]
theorem matcherI_1 {ts : List Tok} {j : Nat} (h : wordAt ts j = true) (h1 : (markB ts (j + 1) [33, 61] || markB ts (j + 1) [61]) = false) : matcherI ts j = (j + 1, none) := by rw [matcherI, if_neg (by simp [h]), if_pos h1]
theorem matcherI_2 {ts : List Tok} {j : Nat} (h : wordAt ts j = true) (h1 : (markB ts (j + 1) [33, 61] || markB ts (j + 1) [61]) = true) (h2 : valueAt ts (j + 2) = false) : matcherI ts j = (j + 2, none) := by rw [matcherI, if_neg (by simp [h]), if_neg (by simp [h1]), if_pos h2]
theorem matcherI_3 {ts : List Tok} {j : Nat} (h : wordAt ts j = true) (h1 : (markB ts (j + 1) [33, 61] || markB ts (j + 1) [61]) = true) (h2 : valueAt ts (j + 2) = true) : matcherI ts j = (j + 3, some ⟨(tokAt ts j).text, (tokAt ts (j + 2)).text, markB ts (j + 1) [33, 61]⟩) := by rw [matcherI, if_neg (by simp [h]), if_neg (by simp [h1]), if_neg (by simp [h2])]

set_option maxRecDepth 10000 in
set_option maxHeartbeats 40000000 in
theorem rrows_any {w : World} {base qb g cap i : Nat} {vM vF : Value} {meas by_ : List UInt8} {span : Int} {ts : List Tok} (h : RQAt w base qb vM vF meas span by_ (-1) [] []) (ht : RToks w g ts) (hi : i < ts.length) (hn : ts.length ≤ 201) (hf : Fit ts) (hwh : Whole ts) (hb : base ≤ w.heap.size) :
    Calls Tryz.prog 145 #[.pointer (some ⟨qb, 0, none⟩), .slice (some ⟨g, 0, none⟩) ts.length cap, .int .i64 i] w (RRowsPost w base qb g ts meas span by_ (rowsI ts i)) := by
  have h123 : isB ts i [123] = markB ts i [123] := isB_mark hf hi (by decide)
  generalize hres : rowsI ts i = res
  have HS := hide hres
  clear hres
  cases h1 : markB ts i [123] with
  | false =>
    have hnd := need_no (cap := cap) h ht hi (h123.trans h1)
    have hE : (i, false, [], []) = res := by rw [← unhide HS, rowsI, if_pos h1]
    have hq := h.setBad i
    have htq := ht.set h 5 (.int .i64 i)
    have hbq : Below base w (w.setCell ⟨qb, 5, none⟩ (.int .i64 i)) := (Below.refl base w).setCell (p := ⟨qb, 5, none⟩) h.bqb _
    obtain ⟨-, -, -, -, -, c5, -⟩ := rcell6 hq.block
    have hnb := need_bad (i := i) (v := .slice (some ⟨g, 0, none⟩) ts.length cap) (s := [125]) hq
    have HQ := hide hq
    have HT := hide htq
    have HB := hide hbq
    subst hE
    clear h ht h123 h1 HS hq htq hbq
    generalize (w.setCell ⟨qb, 5, none⟩ (.int .i64 (i : Int))) = W at *
    go_enter Tryz.func145, Tryz.ntmps145
    go_wp2_with fail
    refine hnd.mono ?_
    rintro e w1 ⟨rfl, rfl⟩
    go_wp2_with fail
    go_loopw [2] (fun v wr => v = .int .i64 (i : Int) ∧ wr = w1) (fun _ _ => 0)
    case atStart => exact ⟨rfl, rfl⟩
    case round =>
      obtain ⟨rfl, rfl⟩ := hrel
      go_wp2_with fail
      refine hnb.mono ?_
      rintro e w2 ⟨rfl, rfl⟩
      go_wp2_with fail
      go_loopw [2] (fun v wr => v = .int .i64 (i : Int) ∧ wr = w2) (fun _ _ => 0)
      case atStart => exact ⟨rfl, rfl⟩
      case round =>
        obtain ⟨rfl, rfl⟩ := hrel
        go_wp2_with fail
        go_ret
        exact ⟨rfl, unhide HT, unhide HB, (fun h => by cases h), fun _ => ⟨hi, _, _, _, _, unhide HQ⟩⟩
  | true =>
    have hnd := need_ok (cap := cap) h ht hi hn (h123.trans h1)
    have hi1 : i + 1 < ts.length := whole_next hwh hi (by
      have := h1
      unfold markB at this
      simp only [Bool.and_eq_true, beq_iff_eq] at this
      omega)
    have HQ0 := hide h
    have HT0 := hide ht
    have HF := hide hf
    have HW := hide hwh
    have HE := hide (show res = (if (matchersI ts ts.length (i + 1) []).2.1 = false then ((matchersI ts ts.length (i + 1) []).1, false, (matchersI ts ts.length (i + 1) []).2.2, [])
      else if markB ts (matchersI ts ts.length (i + 1) []).1 [125] = false then ((matchersI ts ts.length (i + 1) []).1, false, (matchersI ts ts.length (i + 1) []).2.2, [])
      else ((filtersI ts ts.length ((matchersI ts ts.length (i + 1) []).1 + 1) []).1, (filtersI ts ts.length ((matchersI ts ts.length (i + 1) []).1 + 1) []).2.1, (matchersI ts ts.length (i + 1) []).2.2, (filtersI ts ts.length ((matchersI ts ts.length (i + 1) []).1 + 1) []).2.2)) by
      rw [← unhide HS, rowsI, if_neg (by simp [h1])])
    clear h ht h123 h1 HS hf hwh
    obtain ⟨i1, hi1', hz1, hs1, hb1⟩ := info_parts Tryz.info233
    go_enter Tryz.func145, Tryz.ntmps145
    go_wp2_with fail
    refine hnd.mono ?_
    rintro e w1 ⟨rfl, rfl⟩
    clear hnd
    go_wp2_with fail
    go_loopw [2] (fun v wr => ∃ (j m : Nat) (M' : List Mch) (vM : Value), v = .int .i64 (j : Int) ∧ RQAt wr base qb vM vF meas span by_ (-1) M' [] ∧ RToks wr g ts ∧ j < ts.length ∧ ts.length ≤ m + j ∧ M'.length ≤ j ∧ matchersI ts ts.length (i + 1) [] = matchersI ts m j M' ∧ Below base w1 wr)
      (fun v _ => ts.length - (intOf v).toNat)
    case atStart => exact ⟨i + 1, ts.length, [], vM, rfl, unhide HQ0, unhide HT0, hi1, by omega, Nat.zero_le _, rfl, Below.refl _ _⟩
    case round =>
      obtain ⟨j, m, M', vM', rfl, hq, htk, hj, hm, hml, hma, hbw⟩ := hrel
      obtain ⟨m, rfl⟩ : ∃ m', m = m' + 1 := ⟨m - 1, by omega⟩
      have HM := hide hma
      have HBW := hide hbw
      have hsz := hbw.size
      obtain ⟨c0, -, -, -, -, c5, cf⟩ := rcell6 hq.block
      obtain ⟨k0, k1, k2⟩ := htk.at hj
      have hqo : ∀ o, RQAt (wr.alloc o) base qb vM' vF meas span by_ (-1) M' [] := fun o => hq.keep fun b hb => Go.RowKit.Below.heap_alloc _ _ _ hb
      have hto : ∀ o, RToks (wr.alloc o) g ts := fun o => htk.keep fun b hb => Go.RowKit.Below.heap_alloc _ _ _ hb
      have hqbl : qb < wr.heap.size := (Array.getElem?_eq_some_iff.1 hq.block).1
      have hgl : g < wr.heap.size := by obtain ⟨cur, hcu, -⟩ := htk; exact (Array.getElem?_eq_some_iff.1 hcu).1
      have hfj := (unhide HF) _ (tokAt_mem hj)
      have hwd := fun W => isWord_l (tokAt ts j).text false W (by omega)
      have HQ := hide hq
      have HTK := hide htk
      clear hq htk hma hbw cf
      go_wp2_with fail
      refine (hwd _).mono ?_
      rintro e w2 ⟨rfl, rfl⟩
      have HBad : Hid (∀ p, matcherI ts j = (p, none) → res = (p, false, M', [])) := fun p hp => by rw [unhide HE, unhide HM, matchersI_bad hp]; simp
      have HBo := hide (fun o => (unhide HBW).alloc (by omega) o)
      by_cases hk : (tokAt ts j).k = 0
      · by_cases hwb : wordB false (tokAt ts j).text = true
        · have hw1 : wordAt ts j = true := by unfold wordAt; rw [hk, hwb]; rfl
          have hj1 := tok_next (unhide HW) hj hk (by omega)
          rw [hwb]
          rw [hk] at k0
          have e1 : isB ts (j + 1) [33, 61] = markB ts (j + 1) [33, 61] := isB_mark (unhide HF) hj1 (by decide)
          have e2 : isB ts (j + 1) [61] = markB ts (j + 1) [61] := isB_mark (unhide HF) hj1 (by decide)
          have his1 := fun o => is_neg (s := [33, 61]) (cap := cap) (hqo o) (hto o) hj1
          have his2 := fun o => is_neg (s := [61]) (cap := cap) (hqo o) (hto o) hj1
          have hwr1 := fun o => wrong_neg (j + 1) (hqo o)
          rw [e1] at his1
          rw [e2] at his2
          rw [show ((j + 1 : Nat) : Int) = (j : Int) + 1 by omega] at his1 his2 hwr1
          clear hwd hwb k1 hfj e1 e2
          go_wp2_with fail
          refine (his1 _).mono ?_
          rintro e w3 ⟨rfl, rfl⟩
          clear his1
          go_wp2_with fail
          refine (his2 _).mono ?_
          rintro e w3 ⟨rfl, rfl⟩
          clear his2
          cases hsg : (markB ts (j + 1) [33, 61] || markB ts (j + 1) [61]) with
          | false =>
            obtain ⟨s1, s2⟩ := Bool.or_eq_false_iff.1 hsg
            rw [s1, s2]
            have HX := hide (unhide HBad _ (matcherI_1 hw1 hsg))
            clear s1 s2 hsg
            go_wp2_with fail
            refine (hwr1 _).mono ?_
            rintro e w3 ⟨rfl, rfl⟩
            go_wp2
            go_ret
            have hfin := rrows_bad2 (o := .cells #[SV (tokAt ts j).text, .string ⟨#[]⟩, .bool false] 233) (unhide HQ) (unhide HTK) (unhide HBW) hb hj1 (unhide HX)
            rw [show ((j + 1 : Nat) : Int) = (j : Int) + 1 by omega] at hfin
            exact hfin
          | true =>
            have hk1 : (tokAt ts (j + 1)).k = 3 := by
              rcases (by simpa using hsg : markB ts (j + 1) [33, 61] = true ∨ markB ts (j + 1) [61] = true) with e | e
              · exact mark_k e
              · exact mark_k e
            have hj2 : j + 2 < ts.length := tok_next (unhide HW) hj1 hk1 (by omega)
            obtain ⟨n0, -, n2⟩ := (unhide HTK).at hj2
            have hfj := (unhide HF) _ (tokAt_mem hj2)
            have hwd := fun W => isWord_l (tokAt ts (j + 2)).text true W (by omega)
            have hwr2 := fun o => wrong_neg (j + 2) (hqo o)
            rw [show ((j + 2 : Nat) : Int) = (j : Int) + 2 by omega] at hwr2
            have HX2 := hide (fun hv => unhide HBad _ (matcherI_2 hw1 hsg hv))
            have HX3 := hide (fun hv => matcherI_3 hw1 hsg hv)
            generalize hneg : markB ts (j + 1) [33, 61] = neg at *
            generalize hsame : markB ts (j + 1) [61] = same at *
            have hor : neg = true ∨ same = true := by simpa using hsg
            clear hneg hsame hsg hwr1 hk1
            go_upto_region 9 with fail
            go_cut [61] from 55 to 60 (fun c wx => c = .bool false ∧ wx = wr.alloc (.cells #[SV (tokAt ts j).text, .string ⟨#[]⟩, .bool neg] 233))
            case first =>
              rcases hor with rfl | rfl
              · go_wp2_with fail
                go_meet
                exact ⟨rfl, rfl⟩
              · cases neg
                all_goals
                  go_wp2_with fail
                  go_meet
                  exact ⟨rfl, rfl⟩
            case rest =>
            obtain ⟨rfl, rfl⟩ := hcut
            clear hor
            go_wp2_with fail
            refine (hwd _).mono ?_
            rintro e w3 ⟨rfl, rfl⟩
            by_cases hk2 : (tokAt ts (j + 2)).k = 2
            · rw [hk2] at n0
              by_cases hwb2 : wordB true (tokAt ts (j + 2)).text = true
              · have hv : valueAt ts (j + 2) = true := by unfold valueAt; rw [hk2, hwb2]; rfl
                have hj3 : j + 3 < ts.length := tok_next (unhide HW) hj2 hk2 (by omega)
                have HI := hide (unhide HX3 hv)
                have hsmm := hide (isB_mark (r := []) (c := 44) (unhide HF) hj3 (by decide))
                rw [hwb2]
                clear hwd hwb2 hwr2 hfj
                obtain ⟨ao, capm, hvm, -, -, -, -, -, -⟩ := owns_form (unhide HQ).rowM
                subst hvm
                go_upto_region 14 with fail
                have hqX := hqo (.cells #[SV (tokAt ts j).text, SV (tokAt ts (j + 2)).text, .bool neg] 233)
                have htX := hto (.cells #[SV (tokAt ts j).text, SV (tokAt ts (j + 2)).text, .bool neg] 233)
                have hbX := unhide HBo (.cells #[SV (tokAt ts j).text, SV (tokAt ts (j + 2)).text, .bool neg] 233)
                obtain ⟨m0, m1, m2, -⟩ := cell_of_block3 (heap_alloc_new wr (.cells #[SV (tokAt ts j).text, SV (tokAt ts (j + 2)).text, .bool neg] 233))
                have hBl : wr.heap.size < (wr.alloc (.cells #[SV (tokAt ts j).text, SV (tokAt ts (j + 2)).text, .bool neg] 233)).heap.size := by simp
                generalize wr.heap.size = B at *
                generalize wr.alloc (.cells #[SV (tokAt ts j).text, SV (tokAt ts (j + 2)).text, .bool neg] 233) = X at *
                have hown := hqX.rowM
                obtain ⟨x0, -, -, -, -, -, -⟩ := rcell6 hqX.block
                have hqbX : qb < X.heap.size := (Array.getElem?_eq_some_iff.1 hqX.block).1
                have hszX := hbX.size
                have HQX := hide hqX
                have HTX := hide htX
                have HBX := hide hbX
                clear hqX htX hbX hqo hto
                go_cut [] from 91 to 100 (fun wx => ∃ vM4, RQAt wx base qb vM4 vF meas span by_ (-1) (M' ++ [⟨(tokAt ts j).text, (tokAt ts (j + 2)).text, neg⟩]) [] ∧ RToks wx g ts ∧ Below base w1 wx)
                case first =>
                  go_region_law (refine step_append_at rfl (.tmp 95) (.tmp 97) 188 rfl base 233 i1 (.agg #[.string ByteArray.empty, .string ByteArray.empty, .bool false]) 3 40 Tryz.underlying188 hi1' hz1 hs1 hb1 rfl (by decide) (.slice ao M'.length capm) M'.length (M'.flatMap cellsRM) (by simp [Act.eval]) (hown.alloc _) (some ⟨X.heap.size, 0, none⟩) 1 1 [SV (tokAt ts j).text, SV (tokAt ts (j + 2)).text, .bool neg] (by simp [Act.eval]) rfl (by intro e; cases e) (cells_new X _ _) (by intro u hu; simp at hu; rcases hu with rfl | rfl | rfl <;> rfl) (by unfold maxLen; omega) (by omega) (by simp; omega) ?_; intro v2 w4 hown4 hgrow4 hwh4; obtain ⟨hr4, ht4, d4, f4, hb4⟩ := (unhide HQX).appM (m := ⟨(tokAt ts j).text, (tokAt ts (j + 2)).text, neg⟩) (unhide HTX) (by omega) ⟨hgrow4.os, hgrow4.tape, hgrow4.output, hgrow4.size, hgrow4.block⟩ hown4 hwh4; have HR4 := hide hr4; have HT4 := hide ht4; have HB4 := hide hb4; clear hgrow4 hwh4 hr4 hb4 ht4; obtain ⟨ao4, cap4, rfl, -, -, -, -, -, -⟩ := owns_form hown4)
                  all_goals (go_wp2_with fail; go_meet)
                  all_goals exact ⟨_, (unhide HR4).keep fun _ _ => rfl, (unhide HT4).keep fun _ _ => rfl, by repeat (first | exact (unhide HBX).trans (unhide HB4) | apply Below.drew | apply Below.drawn)⟩
                case rest =>
                  obtain ⟨vM4, hq4, ht4, hb4⟩ := hcut
                  have his := is_neg (s := [44]) (cap := cap) hq4 ht4 hj3
                  rw [unhide hsmm, show ((j + 3 : Nat) : Int) = (j : Int) + 3 by omega] at his
                  have HQ4 := hide hq4
                  have HT4 := hide ht4
                  have HB4 := hide hb4
                  have hsz4 := hb4.size
                  clear hq4 ht4 hb4 hown x0 m0 m1 m2 c5 k0 k2 n0 n2 c0
                  go_wp2_with fail
                  refine his.mono ?_
                  rintro e w5 ⟨rfl, rfl⟩
                  clear his
                  cases h44 : markB ts (j + 3) [44] with
                  | true =>
                    have hj4 := tok_next (unhide HW) hj3 (mark_k h44) (by omega)
                    have H44 := hide h44
                    clear h44
                    go_wp2
                    go_roundw
                    case rel => exact ⟨j + 4, m, _, vM4, by go_num, unhide HQ4, unhide HT4, hj4, by omega, by simp; omega, by rw [unhide HM, matchersI_more (unhide HI) (unhide H44)], unhide HB4⟩
                    case measure => simp [intOf]; omega
                  | false =>
                    have HRM := hide ((unhide HM).trans (matchersI_end (unhide HI) h44))
                    have HE2 := hide (show res = (if markB ts (j + 3) [125] = false then (j + 3, false, M' ++ [⟨(tokAt ts j).text, (tokAt ts (j + 2)).text, neg⟩], [])
                      else ((filtersI ts ts.length (j + 4) []).1, (filtersI ts ts.length (j + 4) []).2.1, M' ++ [⟨(tokAt ts j).text, (tokAt ts (j + 2)).text, neg⟩], (filtersI ts ts.length (j + 4) []).2.2)) by
                      rw [unhide HE, unhide HRM]; simp)
                    have e125 := isB_mark (r := []) (c := 125) (unhide HF) hj3 (by decide)
                    clear h44 HE HM HI HX3 HX2 HBad HRM
                    as_aux_lemma =>
                      cases h125 : markB ts (j + 3) [125] with
                      | false =>
                        have hnd := need_no (cap := cap) (unhide HQ4) (unhide HT4) hj3 (e125.trans h125)
                        rw [show ((j + 3 : Nat) : Int) = (j : Int) + 3 by omega] at hnd
                        have hE : res = (j + 3, false, M' ++ [⟨(tokAt ts j).text, (tokAt ts (j + 2)).text, neg⟩], []) := by rw [unhide HE2, if_pos h125]
                        have hq5 := (unhide HQ4).setBad (j + 3 : Nat)
                        have hfin := rrows_bad (unhide HQ4) (unhide HT4) (unhide HB4) hj3 hE
                        rw [show ((j + 3 : Nat) : Int) = (j : Int) + 3 by omega] at hq5 hfin
                        obtain ⟨-, -, -, -, -, c5, -⟩ := rcell6 hq5.block
                        have HFIN := hide hfin
                        clear hq5 hfin h125 e125 hE HE2
                        generalize (w5.setCell ⟨qb, 5, none⟩ (.int .i64 ((j : Int) + 3))) = W at *
                        go_wp2_with fail
                        refine hnd.mono ?_
                        rintro e w6 ⟨rfl, rfl⟩
                        go_wp2_with fail
                        go_loopw [2] (fun v wr => v = .int .i64 ((j : Int) + 3) ∧ wr = w6) (fun _ _ => 0)
                        case atStart => exact ⟨rfl, rfl⟩
                        case round =>
                          obtain ⟨rfl, rfl⟩ := hrel
                          go_wp2_with fail
                          go_ret
                          exact unhide HFIN
                      | true =>
                        have hnd := need_ok (cap := cap) (unhide HQ4) (unhide HT4) hj3 hn (e125.trans h125)
                        rw [show ((j + 3 : Nat) : Int) = (j : Int) + 3 by omega, show ((j + 3 + 1 : Nat) : Int) = (j : Int) + 4 by omega] at hnd
                        have hj4 := tok_next (unhide HW) hj3 (mark_k h125) (by omega)
                        have HE3 := hide (show res = ((filtersI ts ts.length (j + 4) []).1, (filtersI ts ts.length (j + 4) []).2.1, M' ++ [⟨(tokAt ts j).text, (tokAt ts (j + 2)).text, neg⟩], (filtersI ts ts.length (j + 4) []).2.2) by rw [unhide HE2, if_neg (by simp [h125])])
                        clear h125 e125 HE2
                        go_wp2_with fail
                        refine hnd.mono ?_
                        rintro e w6 ⟨rfl, rfl⟩
                        clear hnd
                        go_wp2_with fail
                        go_loopw [2] (fun v wr => ∃ (k n : Nat) (F' : List Flt) (vF : Value), v = .int .i64 (k : Int) ∧ RQAt wr base qb vM4 vF meas span by_ (-1) (M' ++ [⟨(tokAt ts j).text, (tokAt ts (j + 2)).text, neg⟩]) F' ∧ RToks wr g ts ∧ k < ts.length ∧ ts.length ≤ n + k ∧ F'.length ≤ k ∧ filtersI ts ts.length (j + 4) [] = filtersI ts n k F' ∧ Below base w1 wr)
                          (fun v _ => ts.length - (intOf v).toNat)
                        case atStart => exact ⟨j + 4, ts.length, [], vF, by go_num, unhide HQ4, unhide HT4, hj4, by omega, Nat.zero_le _, rfl, unhide HB4⟩
                        case round =>
                          obtain ⟨k, n, F', vF', rfl, hq, htk, hk5, hm5, hml5, hma, hbw⟩ := hrel
                          obtain ⟨n, rfl⟩ : ∃ n', n = n' + 1 := ⟨n - 1, by omega⟩
                          have HM := hide hma
                          have HBW := hide hbw
                          have hszr := hbw.size
                          obtain ⟨-, -, -, -, -, c5, -⟩ := rcell6 hq.block
                          have hqo : ∀ o, RQAt (wr.alloc o) base qb vM4 vF' meas span by_ (-1) (M' ++ [⟨(tokAt ts j).text, (tokAt ts (j + 2)).text, neg⟩]) F' := fun o => hq.keep fun b hb => Go.RowKit.Below.heap_alloc _ _ _ hb
                          have hto : ∀ o, RToks (wr.alloc o) g ts := fun o => htk.keep fun b hb => Go.RowKit.Below.heap_alloc _ _ _ hb
                          have hqbl : qb < wr.heap.size := (Array.getElem?_eq_some_iff.1 hq.block).1
                          have hgl : g < wr.heap.size := by obtain ⟨cur, hcu, -⟩ := htk; exact (Array.getElem?_eq_some_iff.1 hcu).1
                          have e1 : isB ts k [33, 61] = markB ts k [33, 61] := isB_mark (unhide HF) hk5 (by decide)
                          have e2 : isB ts k [124, 61] = markB ts k [124, 61] := isB_mark (unhide HF) hk5 (by decide)
                          have his1 := fun o => is_neg (s := [33, 61]) (cap := cap) (hqo o) (hto o) hk5
                          have his2 := fun o => is_neg (s := [124, 61]) (cap := cap) (hqo o) (hto o) hk5
                          rw [e1] at his1
                          rw [e2] at his2
                          have HQ := hide hq
                          have HTK := hide htk
                          have HBo2 := hide (fun o => (unhide HBW).alloc (by omega) o)
                          clear hq htk hma hbw e1 e2
                          go_wp2_with fail
                          refine (his1 _).mono ?_
                          rintro e w7 ⟨rfl, rfl⟩
                          clear his1
                          go_wp2_with fail
                          refine (his2 _).mono ?_
                          rintro e w7 ⟨rfl, rfl⟩
                          clear his2
                          cases hsg : (markB ts k [33, 61] || markB ts k [124, 61]) with
                          | false =>
                            obtain ⟨s1, s2⟩ := Bool.or_eq_false_iff.1 hsg
                            rw [s1, s2]
                            have HX := hide (show res = (k, true, M' ++ [⟨(tokAt ts j).text, (tokAt ts (j + 2)).text, neg⟩], F') by rw [unhide HE3, unhide HM, filtersI_end hsg])
                            clear s1 s2 hsg
                            go_wp2
                            go_ret
                            rw [unhide HX]
                            exact ⟨rfl, hto _, unhide HBo2 _, fun _ => ⟨hk5, _, _, hqo _⟩, fun h => by cases h⟩
                          | true =>
                            have hkm : (tokAt ts k).k = 3 := by
                              rcases (by simpa using hsg : markB ts k [33, 61] = true ∨ markB ts k [124, 61] = true) with e | e
                              · exact mark_k e
                              · exact mark_k e
                            have hk6 : k + 1 < ts.length := tok_next (unhide HW) hk5 hkm (by omega)
                            obtain ⟨n0, -, n2⟩ := (unhide HTK).at hk6
                            have hwr1 := fun o => wrong_neg (k + 1) (hqo o)
                            rw [show ((k + 1 : Nat) : Int) = (k : Int) + 1 by omega] at hwr1
                            have HX2 := hide (fun hv => show res = (k + 1, false, M' ++ [⟨(tokAt ts j).text, (tokAt ts (j + 2)).text, neg⟩], F') by rw [unhide HE3, unhide HM, filtersI_bad hsg hv])
                            have HX3 := hide (fun hv => filtersI_more (n := n) (Fs := F') hsg hv)
                            generalize hneg : markB ts k [33, 61] = neg2 at *
                            generalize hsame : markB ts k [124, 61] = same2 at *
                            have hor : neg2 = true ∨ same2 = true := by simpa using hsg
                            clear hneg hsame hsg hkm
                            go_upto_region 25 with fail
                            go_cut [136] from 130 to 135 (fun c wx => c = .bool false ∧ wx = wr.alloc (.cells #[.string ⟨#[]⟩, .string ⟨#[]⟩, .bool neg2] 233))
                            case first =>
                              rcases hor with rfl | rfl
                              · go_wp2_with fail
                                go_meet
                                exact ⟨rfl, rfl⟩
                              · cases neg2
                                all_goals
                                  go_wp2_with fail
                                  go_meet
                                  exact ⟨rfl, rfl⟩
                            case rest =>
                              obtain ⟨rfl, rfl⟩ := hcut
                              clear hor
                              by_cases hk2' : (tokAt ts (k + 1)).k = 2
                              · rw [hk2'] at n0
                                have HI := hide (unhide HX3 (by rw [hk2']; rfl))
                                clear hwr1
                                obtain ⟨ao, capf, hvf, -, -, -, -, -, -⟩ := owns_form (unhide HQ).rowF
                                subst hvf
                                go_upto_region 30 with fail
                                have hqX := hqo (.cells #[.string ⟨#[]⟩, SV (tokAt ts (k + 1)).text, .bool neg2] 233)
                                have htX := hto (.cells #[.string ⟨#[]⟩, SV (tokAt ts (k + 1)).text, .bool neg2] 233)
                                have hbX := unhide HBo2 (.cells #[.string ⟨#[]⟩, SV (tokAt ts (k + 1)).text, .bool neg2] 233)
                                obtain ⟨m0, m1, m2, -⟩ := cell_of_block3 (heap_alloc_new wr (.cells #[.string ⟨#[]⟩, SV (tokAt ts (k + 1)).text, .bool neg2] 233))
                                have hBl : wr.heap.size < (wr.alloc (.cells #[.string ⟨#[]⟩, SV (tokAt ts (k + 1)).text, .bool neg2] 233)).heap.size := by simp
                                generalize wr.heap.size = B at *
                                generalize wr.alloc (.cells #[.string ⟨#[]⟩, SV (tokAt ts (k + 1)).text, .bool neg2] 233) = X at *
                                have hown := hqX.rowF
                                obtain ⟨-, x1, -, -, -, -, -⟩ := rcell6 hqX.block
                                have hqbX : qb < X.heap.size := (Array.getElem?_eq_some_iff.1 hqX.block).1
                                have hszX := hbX.size
                                have HQX := hide hqX
                                have HTX := hide htX
                                have HBX := hide hbX
                                clear hqX htX hbX hqo hto
                                go_cut [] from 156 to 165 (fun wx => ∃ vF5, RQAt wx base qb vM4 vF5 meas span by_ (-1) (M' ++ [⟨(tokAt ts j).text, (tokAt ts (j + 2)).text, neg⟩]) (F' ++ [⟨(tokAt ts (k + 1)).text, neg2⟩]) ∧ RToks wx g ts ∧ Below base w1 wx)
                                case first =>
                                  go_region_law (refine step_append_at rfl (.tmp 160) (.tmp 162) 188 rfl base 233 i1 (.agg #[.string ByteArray.empty, .string ByteArray.empty, .bool false]) 3 40 Tryz.underlying188 hi1' hz1 hs1 hb1 rfl (by decide) (.slice ao F'.length capf) F'.length (F'.flatMap cellsRF) (by simp [Act.eval]) (hown.alloc _) (some ⟨X.heap.size, 0, none⟩) 1 1 [SV [], SV (tokAt ts (k + 1)).text, .bool neg2] (by simp [Act.eval]) rfl (by intro e; cases e) (cells_new X _ _) (by intro u hu; simp at hu; rcases hu with rfl | rfl | rfl <;> rfl) (by unfold maxLen; omega) (by omega) (by simp; omega) ?_; intro v2 w4 hown4 hgrow4 hwh4; obtain ⟨hr4, ht4, d4, f4, hb4⟩ := (unhide HQX).appF (m := ⟨(tokAt ts (k + 1)).text, neg2⟩) (unhide HTX) (by omega) ⟨hgrow4.os, hgrow4.tape, hgrow4.output, hgrow4.size, hgrow4.block⟩ hown4 hwh4; have HR4 := hide hr4; have HT5 := hide ht4; have HB5 := hide hb4; clear hgrow4 hwh4 hr4 hb4 ht4; obtain ⟨ao4, cap4, rfl, -, -, -, -, -, -⟩ := owns_form hown4)
                                  all_goals (go_wp2_with fail; go_meet)
                                  all_goals exact ⟨_, (unhide HR4).keep fun _ _ => rfl, (unhide HT5).keep fun _ _ => rfl, by repeat (first | exact (unhide HBX).trans (unhide HB5) | apply Below.drew | apply Below.drawn)⟩
                                case rest =>
                                  obtain ⟨vF5, hq5, ht5, hb5⟩ := hcut
                                  have hk7 : k + 2 < ts.length := tok_next (unhide HW) hk6 hk2' (by omega)
                                  have HQ5 := hide hq5
                                  have HT5 := hide ht5
                                  have HB5 := hide hb5
                                  clear hq5 ht5 hb5 hown x1 m0 m1 m2 c5 n0 n2
                                  go_wp2
                                  go_roundw
                                  case rel => exact ⟨k + 2, n, _, vF5, by go_num, unhide HQ5, unhide HT5, hk7, by omega, by simp; omega, by rw [unhide HM, unhide HI], unhide HB5⟩
                                  case measure => simp [intOf]; omega
                              · have hkn : (((tokAt ts (k + 1)).k : Int) != 2) = true := by simp; omega
                                have HX := hide (unhide HX2 (by simpa using hk2'))
                                clear hk2'
                                go_wp2_with fail
                                refine (hwr1 _).mono ?_
                                rintro e w8 ⟨rfl, rfl⟩
                                go_wp2
                                go_ret
                                have hfin := rrows_bad2 (o := (.cells #[.string ⟨#[]⟩, .string ⟨#[]⟩, .bool neg2] 233)) (unhide HQ) (unhide HTK) (unhide HBW) hb hk6 (unhide HX)
                                rw [show ((k + 1 : Nat) : Int) = (k : Int) + 1 by omega] at hfin
                                exact hfin
              · have hv : valueAt ts (j + 2) = false := by unfold valueAt; rw [hk2]; simpa using hwb2
                have hwf : wordB true (tokAt ts (j + 2)).text = false := by simpa using hwb2
                have HX := hide (unhide HX2 hv)
                rw [hwf]
                clear hwd hwb2 hwf hfj
                go_wp2_with fail
                refine (hwr2 _).mono ?_
                rintro e w3 ⟨rfl, rfl⟩
                go_wp2
                go_ret
                have hfin := rrows_bad2 (o := (.cells #[SV (tokAt ts j).text, SV (tokAt ts (j + 2)).text, .bool neg] 233)) (unhide HQ) (unhide HTK) (unhide HBW) hb hj2 (unhide HX)
                rw [show ((j + 2 : Nat) : Int) = (j : Int) + 2 by omega] at hfin
                exact hfin
            · have hv : valueAt ts (j + 2) = false := by unfold valueAt; simp [hk2]
              have hkn : (((tokAt ts (j + 2)).k : Int) != 2) = true := by simp; omega
              have HX := hide (unhide HX2 hv)
              generalize wordB true (tokAt ts (j + 2)).text = b
              clear hwd hfj hk2
              go_wp2_with fail
              refine (hwr2 _).mono ?_
              rintro e w3 ⟨rfl, rfl⟩
              go_wp2
              go_ret
              have hfin := rrows_bad2 (o := (.cells #[SV (tokAt ts j).text, SV (tokAt ts (j + 2)).text, .bool neg] 233)) (unhide HQ) (unhide HTK) (unhide HBW) hb hj2 (unhide HX)
              rw [show ((j + 2 : Nat) : Int) = (j : Int) + 2 by omega] at hfin
              exact hfin
        · have hw1 : wordAt ts j = false := by unfold wordAt; rw [hk]; simpa using hwb
          have hwf : wordB false (tokAt ts j).text = false := by simpa using hwb
          have hwr := fun o => wrong_neg j (hqo o)
          rw [hwf]
          rw [hk] at k0
          clear hwd hwb hwf k1 hfj
          go_wp2_with fail
          refine (hwr _).mono ?_
          rintro e w3 ⟨rfl, rfl⟩
          go_wp2
          go_ret
          exact rrows_bad2 (unhide HQ) (unhide HTK) (unhide HBW) hb hj (unhide HBad _ (matcherI_0 hw1))
      · have hw1 : wordAt ts j = false := by unfold wordAt; simp [hk]
        have hkn : (((tokAt ts j).k : Int) != 0) = true := by simp; omega
        have hwr := fun o => wrong_neg j (hqo o)
        generalize wordB false (tokAt ts j).text = b
        clear hwd k1 hfj hk
        go_wp2_with fail
        refine (hwr _).mono ?_
        rintro e w3 ⟨rfl, rfl⟩
        go_wp2
        go_ret
        exact rrows_bad2 (unhide HQ) (unhide HTK) (unhide HBW) hb hj (unhide HBad _ (matcherI_0 hw1))

end Go.Proofs.YtbljamcdaoofbaaGreatDoor
