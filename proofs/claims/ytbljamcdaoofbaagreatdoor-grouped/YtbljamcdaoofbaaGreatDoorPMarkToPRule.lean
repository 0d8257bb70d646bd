/- Texts PMark, PRule, joined. -/
import Derived.Test.YtbljamcdaoofbaaGreatDoorPTakeOne
/- mark, sign, matcher of the program's reader. -/
namespace Go.Proofs.YtbljamcdaoofbaaGreatDoor
open Go.RowKit

/-- what mark answers, and leaves -/
def MarkPost (w : World) (base rb g cap : Nat) (ts : List Tok) (x : List UInt8) (i : Nat) (meas : List UInt8) (span : Int) (by_ : List UInt8) (vm vf : Value) (M : List Mch) (Fs : List Flt) (ok : Bool) (e : Ending) (w' : World) : Prop :=
  e = .returned (.bool ok) ∧ ReaderAt w' base rb g cap ts x (if ok = true then i + 1 else i) meas span by_ vm vf M Fs ∧ Below base w w'

set_option maxRecDepth 10000 in
set_option maxHeartbeats 4000000 in
theorem mark_any {w : World} {base rb g cap i : Nat} {ts : List Tok} {x meas by_ : List UInt8} {span : Int} {vm vf : Value} {M : List Mch} {Fs : List Flt} (s : List UInt8) (h : ReaderAt w base rb g cap ts x i meas span by_ vm vf M Fs) (hb : base ≤ w.heap.size) :
    Calls Tryz.prog 157 #[.pointer (some ⟨rb, 0, none⟩), .string ⟨s.toArray⟩] w (MarkPost w base rb g cap ts x i meas span by_ vm vf M Fs (markB ts i s)) := by
  have h1 : ReaderAt (w.alloc (.cells #[.string ⟨s.toArray⟩] 9)) base rb g cap ts x i meas span by_ vm vf M Fs := h.below ((Below.refl _ _).alloc (Nat.le_refl _) _)
  have ht := takeMark (s := s) (bm := w.heap.size) h1 (by simp; omega) (cell_of_block1 (heap_alloc_new _ _)).1
  have HB := hide ((Below.refl base w).alloc hb (.cells #[.string ⟨s.toArray⟩] 9))
  clear h1 h
  rw [show ((tokAt ts i).k == 3 && (tokAt ts i).text == s) = markB ts i s from rfl] at ht
  generalize markB ts i s = ok at *
  go_enter Tryz.func157, Tryz.ntmps157
  go_wp2_with fail
  refine ht.mono ?_
  rintro e w2 ⟨rfl, hr, hb2⟩
  have HR := hide hr
  clear hr ht
  cases ok
  all_goals
    simp only [if_true, if_false, reduceCtorEq]
    go_wp2
    go_ret
    exact ⟨rfl, unhide HR, (unhide HB).trans hb2⟩

/-- what sign answers, and leaves -/
def SignPost (w : World) (base rb g cap : Nat) (ts : List Tok) (x : List UInt8) (i : Nat) (meas : List UInt8) (span : Int) (by_ : List UInt8) (vm vf : Value) (M : List Mch) (Fs : List Flt) (neg ok : Bool) (e : Ending) (w' : World) : Prop :=
  e = .returned (.tuple #[.bool neg, .bool ok]) ∧ ReaderAt w' base rb g cap ts x (if ok = true then i + 1 else i) meas span by_ vm vf M Fs ∧ Below base w w'

set_option maxRecDepth 10000 in
set_option maxHeartbeats 4000000 in
theorem sign_any {w : World} {base rb g cap i : Nat} {ts : List Tok} {x meas by_ : List UInt8} {span : Int} {vm vf : Value} {M : List Mch} {Fs : List Flt} (s : List UInt8) (h : ReaderAt w base rb g cap ts x i meas span by_ vm vf M Fs) (hb : base ≤ w.heap.size) :
    Calls Tryz.prog 182 #[.pointer (some ⟨rb, 0, none⟩), .string ⟨s.toArray⟩] w (SignPost w base rb g cap ts x i meas span by_ vm vf M Fs (markB ts i [33, 61]) (markB ts i [33, 61] || markB ts i s)) := by
  have hm := mark_any [33, 61] h hb
  have hm2 := fun (w2 : World) (h2 : ReaderAt w2 base rb g cap ts x i meas span by_ vm vf M Fs) (hb2 : base ≤ w2.heap.size) => mark_any s h2 hb2
  clear h
  generalize markB ts i [33, 61] = n at *
  generalize markB ts i s = ok at *
  go_enter Tryz.func182, Tryz.ntmps182
  go_wp2_with fail
  refine hm.mono ?_
  rintro e w2 ⟨rfl, hr, hb2⟩
  clear hm
  cases n with
  | true =>
    have HR := hide hr
    clear hr hm2
    go_wp2
    go_ret2
    exact ⟨rfl, unhide HR, hb2⟩
  | false =>
    have hm3 := hm2 _ hr (by have := hb2.size; omega)
    clear hr hm2
    go_wp2_with fail
    refine hm3.mono ?_
    rintro e w3 ⟨rfl, hr3, hb3⟩
    have HR := hide hr3
    clear hr3 hm3
    cases ok
    all_goals
      go_wp2
      go_ret2
      exact ⟨rfl, unhide HR, hb2.trans hb3⟩

theorem Tryz.info171 : (Tryz.prog.info? 171).map (fun i => (i.zero, i.size, i.bytes)) = some (some (.agg #[.bool false, .string ByteArray.empty, .string ByteArray.empty]), 3, 40) := by kernel_rfl
theorem Tryz.info173 : (Tryz.prog.info? 173).map (fun i => (i.zero, i.size, i.bytes)) = some (some (.agg #[.bool false, .string ByteArray.empty]), 2, 24) := by kernel_rfl

theorem block6_set4 {w : World} {p : Nat} {v0 v1 v2 v3 v4 v5 : Value} {t : TypeId} (h : w.heap[p]? = some (.cells #[v0, v1, v2, v3, v4, v5] t (0, 0))) (u : Value) :
    (w.setCell ⟨p, 4, none⟩ u).heap[p]? = some (.cells #[v0, v1, v2, v3, u, v5] t (0, 0)) := by
  simp [World.setCell, Array.getElem?_modify, h]
theorem block6_set5 {w : World} {p : Nat} {v0 v1 v2 v3 v4 v5 : Value} {t : TypeId} (h : w.heap[p]? = some (.cells #[v0, v1, v2, v3, v4, v5] t (0, 0))) (u : Value) :
    (w.setCell ⟨p, 5, none⟩ u).heap[p]? = some (.cells #[v0, v1, v2, v3, v4, u] t (0, 0)) := by
  simp [World.setCell, Array.getElem?_modify, h]

/-- a matcher is laid behind the others -/
theorem ReaderAt.appM {w : World} {base rb g cap i : Nat} {ts : List Tok} {x meas by_ : List UInt8} {span : Int} {vm vf : Value} {M : List Mch} {Fs : List Flt} {w2 : World} {o : Obj} {v' : Value} {m : Mch} (h : ReaderAt w base rb g cap ts x i meas span by_ vm vf M Fs) (hb : base ≤ w.heap.size) (hl : M.length + 1 ≤ i)
    (hg : (w.alloc o).grownBy w2 vm.ownBlock) (ho : w2.ownsRow base 171 3 v' (M.length + 1) (M.flatMap cellsM ++ cellsM m)) :
    ReaderAt (w2.setCell ⟨rb, 4, none⟩ v') base rb g cap ts x i meas span by_ v' vf (M ++ [m]) Fs ∧ w2.cell? ⟨rb, 4, none⟩ = some vm ∧ w2.frozen? ⟨rb, 4, none⟩ = false ∧ Below base w (w2.setCell ⟨rb, 4, none⟩ v') := by
  have key : ∀ (b : Nat) (c : Array Value) (t : TypeId) (f : Nat × Nat), w.heap[b]? = some (Obj.cells c t f) → t ≠ 171 → w2.heap[b]? = some (Obj.cells c t f) := fun b c t f hb' hne => by
    have hbl := (Array.getElem?_eq_some_iff.1 hb').1
    rw [hg.block b (by simp; omega) (fun e => ?_), Go.RowKit.Below.heap_alloc _ _ _ hbl]
    · exact hb'
    · obtain ⟨_, cur, hc⟩ := ownsRow_type h.rowM e.symm
      exact ne_of_type hb' hc hne rfl
  have hrb := key _ _ _ _ h.block (by decide)
  obtain ⟨cur, hc, hcur⟩ := h.toks
  have hct := key _ _ _ _ hc (by decide)
  have hF2 : w2.ownsRow base 173 2 vf Fs.length (Fs.flatMap cellsF) := ownsRow_same h.rowF fun b hb' => by
    obtain ⟨_, c', hc'⟩ := ownsRow_type h.rowF hb'
    rw [key _ _ _ _ hc' (by decide), hc']
  obtain ⟨-, -, -, -, c4, -, cf⟩ := cell_of_block6 hrb
  refine ⟨⟨block6_set4 hrb v', ⟨cur, ?_, hcur⟩, ?_, ?_, h.brb, h.bg, h.small, h.caps, h.ilt, h.whole, h.fit, by simp; omega, h.flen⟩, c4, cf 4, ?_⟩
  · rw [Go.RowKit.Below.heap_setCell _ _ _ _ (ne_of_type hct hrb (by decide))]; exact hct
  · rw [List.flatMap_append, List.length_append, List.length_singleton]
    simp only [List.flatMap_cons, List.flatMap_nil, List.append_nil]
    refine ownsRow_same ho fun b hbo => Go.RowKit.Below.heap_setCell _ _ _ _ ?_
    obtain ⟨_, c', hc'⟩ := ownsRow_type ho hbo
    exact ne_of_type hc' hrb (by decide)
  · refine ownsRow_same hF2 fun b hbo => Go.RowKit.Below.heap_setCell _ _ _ _ ?_
    obtain ⟨_, c', hc'⟩ := ownsRow_type hF2 hbo
    exact ne_of_type hc' hrb (by decide)
  · exact (((Below.refl base w).alloc hb o).grown hg (by simp; omega) (fun k hk => (h.rowM.lt k hk).1)).setCell (p := ⟨rb, 4, none⟩) h.brb _

/-- a filter is laid behind the others -/
theorem ReaderAt.appF {w : World} {base rb g cap i : Nat} {ts : List Tok} {x meas by_ : List UInt8} {span : Int} {vm vf : Value} {M : List Mch} {Fs : List Flt} {w2 : World} {o : Obj} {v' : Value} {m : Flt} (h : ReaderAt w base rb g cap ts x i meas span by_ vm vf M Fs) (hb : base ≤ w.heap.size) (hl : Fs.length + 1 ≤ i)
    (hg : (w.alloc o).grownBy w2 vf.ownBlock) (ho : w2.ownsRow base 173 2 v' (Fs.length + 1) (Fs.flatMap cellsF ++ cellsF m)) :
    ReaderAt (w2.setCell ⟨rb, 5, none⟩ v') base rb g cap ts x i meas span by_ vm v' M (Fs ++ [m]) ∧ w2.cell? ⟨rb, 5, none⟩ = some vf ∧ w2.frozen? ⟨rb, 5, none⟩ = false ∧ Below base w (w2.setCell ⟨rb, 5, none⟩ v') := by
  have key : ∀ (b : Nat) (c : Array Value) (t : TypeId) (f : Nat × Nat), w.heap[b]? = some (Obj.cells c t f) → t ≠ 173 → w2.heap[b]? = some (Obj.cells c t f) := fun b c t f hb' hne => by
    have hbl := (Array.getElem?_eq_some_iff.1 hb').1
    rw [hg.block b (by simp; omega) (fun e => ?_), Go.RowKit.Below.heap_alloc _ _ _ hbl]
    · exact hb'
    · obtain ⟨_, cur, hc⟩ := ownsRow_type h.rowF e.symm
      exact ne_of_type hb' hc hne rfl
  have hrb := key _ _ _ _ h.block (by decide)
  obtain ⟨cur, hc, hcur⟩ := h.toks
  have hct := key _ _ _ _ hc (by decide)
  have hM2 : w2.ownsRow base 171 3 vm M.length (M.flatMap cellsM) := ownsRow_same h.rowM fun b hb' => by
    obtain ⟨_, c', hc'⟩ := ownsRow_type h.rowM hb'
    rw [key _ _ _ _ hc' (by decide), hc']
  obtain ⟨-, -, -, -, -, c5, cf⟩ := cell_of_block6 hrb
  refine ⟨⟨block6_set5 hrb v', ⟨cur, ?_, hcur⟩, ?_, ?_, h.brb, h.bg, h.small, h.caps, h.ilt, h.whole, h.fit, h.mlen, by simp; omega⟩, c5, cf 5, ?_⟩
  · rw [Go.RowKit.Below.heap_setCell _ _ _ _ (ne_of_type hct hrb (by decide))]; exact hct
  · refine ownsRow_same hM2 fun b hbo => Go.RowKit.Below.heap_setCell _ _ _ _ ?_
    obtain ⟨_, c', hc'⟩ := ownsRow_type hM2 hbo
    exact ne_of_type hc' hrb (by decide)
  · rw [List.flatMap_append, List.length_append, List.length_singleton]
    simp only [List.flatMap_cons, List.flatMap_nil, List.append_nil]
    refine ownsRow_same ho fun b hbo => Go.RowKit.Below.heap_setCell _ _ _ _ ?_
    obtain ⟨_, c', hc'⟩ := ownsRow_type ho hbo
    exact ne_of_type hc' hrb (by decide)
  · exact (((Below.refl base w).alloc hb o).grown hg (by simp; omega) (fun k hk => (h.rowF.lt k hk).1)).setCell (p := ⟨rb, 5, none⟩) h.brb _

end Go.Proofs.YtbljamcdaoofbaaGreatDoor

/- matcher, matchers, filters, rows, end of the program's reader. -/
namespace Go.Proofs.YtbljamcdaoofbaaGreatDoor
open Go.RowKit

/-- what a rule of the grammar answers, and leaves: it is at place j then, with the matchers M and the filters Fs -/
def RulePost (w : World) (base rb g cap : Nat) (ts : List Tok) (x meas : List UInt8) (span : Int) (by_ : List UInt8) (j : Nat) (ok : Bool) (M : List Mch) (Fs : List Flt) (e : Ending) (w' : World) : Prop :=
  e = .returned (.bool ok) ∧ (∃ vm vf, ReaderAt w' base rb g cap ts x j meas span by_ vm vf M Fs) ∧ Below base w w'

/-- the matchers behind a matcher, if it is one -/
def addM (M : List Mch) : Option Mch → List Mch
  | none => M
  | some m => M ++ [m]

set_option maxRecDepth 10000 in
set_option maxHeartbeats 4000000 in
theorem matcher_any {w : World} {base rb g cap i : Nat} {ts : List Tok} {x meas by_ : List UInt8} {span : Int} {vm vf : Value} {M : List Mch} {Fs : List Flt} (h : ReaderAt w base rb g cap ts x i meas span by_ vm vf M Fs) (hb : base ≤ w.heap.size) :
    Calls Tryz.prog 181 #[.pointer (some ⟨rb, 0, none⟩)] w (RulePost w base rb g cap ts x meas span by_ (matcherI ts i).1 (matcherI ts i).2.isSome (addM M (matcherI ts i).2) Fs) := by
  obtain ⟨i1, hi1, hz1, hs1, hb1⟩ := info_parts Tryz.info171
  have hsm := h.small
  have hil := h.ilt
  have hml0 := h.mlen
  have ht := takeName h hb
  rw [show ((tokAt ts i).k == 0 && wordB false (tokAt ts i).text) = wordAt ts i from rfl] at ht
  generalize hres : matcherI ts i = res
  have HS := hide hres
  clear hres h
  go_enter Tryz.func181, Tryz.ntmps181
  go_wp2_with fail
  refine ht.mono ?_
  rintro e w1 ⟨rfl, hr1, hb1'⟩
  clear ht
  have hsz1 := hb1'.size
  cases h1 : wordAt ts i with
  | false =>
    obtain rfl : (i, none) = res := by rw [← unhide HS, matcherI, if_pos h1]
    rw [h1] at hr1
    have HR := hide hr1
    clear hr1 h1 HS
    simp only [if_false, reduceCtorEq]
    go_wp2
    go_ret
    exact ⟨rfl, ⟨_, _, unhide HR⟩, hb1'⟩
  | true =>
    rw [h1] at hr1
    have hs := sign_any [61] hr1 (by omega)
    rw [if_pos rfl] at hs
    clear hr1
    simp only [if_true]
    go_wp2_with fail
    refine hs.mono ?_
    rintro e w2 ⟨rfl, hr2, hb2'⟩
    clear hs
    have hsz2 := hb2'.size
    cases h2 : (markB ts (i + 1) [33, 61] || markB ts (i + 1) [61]) with
    | false =>
      obtain rfl : (i + 1, none) = res := by rw [← unhide HS, matcherI, if_neg (by simp [h1]), if_pos h2]
      rw [h2] at hr2
      have HR := hide hr2
      clear hr2 h1 h2 HS
      generalize markB ts (i + 1) [33, 61] = neg at *
      go_wp2
      go_ret
      exact ⟨rfl, ⟨_, _, unhide HR⟩, hb1'.trans hb2'⟩
    | true =>
      rw [h2, if_pos rfl] at hr2
      have hv := takeValue hr2 (by omega)
      rw [show i + 1 + 1 = i + 2 from rfl, show ((tokAt ts (i + 2)).k == 2 && wordB true (tokAt ts (i + 2)).text) = valueAt ts (i + 2) from rfl] at hv
      clear hr2
      go_wp2_with fail
      refine hv.mono ?_
      rintro e w3 ⟨rfl, hr3, hb3'⟩
      clear hv
      have hsz3 := hb3'.size
      cases h3 : valueAt ts (i + 2) with
      | false =>
        obtain rfl : (i + 2, none) = res := by rw [← unhide HS, matcherI, if_neg (by simp [h1]), if_neg (by simp [h2]), if_pos h3]
        rw [h3] at hr3
        have HR := hide hr3
        clear hr3 h1 h2 h3 HS
        simp only [if_false, reduceCtorEq]
        go_wp2
        go_ret
        exact ⟨rfl, ⟨_, _, unhide HR⟩, (hb1'.trans hb2').trans hb3'⟩
      | true =>
        obtain rfl : (i + 3, some ⟨(tokAt ts i).text, (tokAt ts (i + 2)).text, markB ts (i + 1) [33, 61]⟩) = res := by rw [← unhide HS, matcherI, if_neg (by simp [h1]), if_neg (by simp [h2]), if_neg (by simp [h3])]
        rw [h3, if_pos rfl, show i + 2 + 1 = i + 3 from rfl] at hr3
        have hml := hr3.mlen
        have hil3 := hr3.ilt
        obtain ⟨-, -, -, -, c4, -, cf⟩ := cell_of_block6 hr3.block
        obtain ⟨ao, capm, hvm, -, -, -, -, -, -⟩ := owns_form hr3.rowM
        subst hvm
        have hown := hr3.rowM
        have hbrb := hr3.brb
        have HR := hide hr3
        clear hr3 h1 h2 h3 HS cf
        generalize markB ts (i + 1) [33, 61] = neg at *
        simp only [if_true]
        go_wp2_with (at_builtin; refine wpList_append_at _ rfl _ _ 99 rfl base 171 i1 (.agg #[.bool false, .string ByteArray.empty, .string ByteArray.empty]) 3 40 Tryz.underlying99 hi1 hz1 hs1 hb1 rfl (by decide) _ _ _ rfl (hown.alloc _) (some ⟨w3.heap.size, 0, none⟩) 1 1 [.bool neg, SV (tokAt ts i).text, SV (tokAt ts (i + 2)).text] rfl rfl (by intro e; cases e) (cells_new w3 _ _) (by intro u hu; simp at hu; rcases hu with rfl | rfl | rfl <;> rfl) (by unfold maxLen; omega) (by omega) (by simp; omega) ?_; intro v2 w4 hown4 hgrow4 hwh4; obtain ⟨hr4, d4, f4, hb4⟩ := (unhide HR).appM (m := ⟨(tokAt ts i).text, (tokAt ts (i + 2)).text, neg⟩) (by omega) (by omega) hgrow4 hown4; have HR4 := hide hr4; have HB4 := hide hb4; clear hgrow4 hwh4 hr4 hb4; obtain ⟨ao4, cap4, rfl, -, -, -, -, -, -⟩ := owns_form hown4)
        go_ret
        exact ⟨rfl, ⟨_, _, unhide HR4⟩, ((hb1'.trans hb2').trans hb3').trans (unhide HB4)⟩

/-- how many tokens are left, as the reader has it -/
def leftOf (rb : Nat) (w : World) : Nat := match w.cell? ⟨rb, 0, none⟩ with | some (.slice _ n _) => n | _ => 0
theorem leftOf_at {w : World} {base rb g cap i : Nat} {ts : List Tok} {x meas by_ : List UInt8} {span : Int} {vm vf : Value} {M : List Mch} {Fs : List Flt} (h : ReaderAt w base rb g cap ts x i meas span by_ vm vf M Fs) : leftOf rb w = ts.length - i := by
  simp [leftOf, (cell_of_block6 h.block).1]

theorem matchersI_bad {ts : List Tok} {n i j : Nat} {M : List Mch} (h : matcherI ts i = (j, none)) : matchersI ts (n + 1) i M = (j, false, M) := by
  rw [matchersI, h]
theorem matchersI_end {ts : List Tok} {n i j : Nat} {m : Mch} {M : List Mch} (h : matcherI ts i = (j, some m)) (hm : markB ts j [44] = false) : matchersI ts (n + 1) i M = (j, true, M ++ [m]) := by
  rw [matchersI, h]
  simp [hm]
theorem matchersI_more {ts : List Tok} {n i j : Nat} {m : Mch} {M : List Mch} (h : matcherI ts i = (j, some m)) (hm : markB ts j [44] = true) : matchersI ts (n + 1) i M = matchersI ts n (j + 1) (M ++ [m]) := by
  rw [matchersI, h]
  simp [hm]

set_option maxRecDepth 10000 in
set_option maxHeartbeats 4000000 in
theorem matchers_any {w : World} {base rb g cap i : Nat} {ts : List Tok} {x meas by_ : List UInt8} {span : Int} {vm vf : Value} {M : List Mch} {Fs : List Flt} (h : ReaderAt w base rb g cap ts x i meas span by_ vm vf M Fs) (hb : base ≤ w.heap.size) (n : Nat) (hn : ts.length ≤ n + i) :
    Calls Tryz.prog 160 #[.pointer (some ⟨rb, 0, none⟩)] w (RulePost w base rb g cap ts x meas span by_ (matchersI ts n i M).1 (matchersI ts n i M).2.1 (matchersI ts n i M).2.2 Fs) := by
  generalize hres : matchersI ts n i M = res
  have HS := hide hres
  clear hres
  go_enter Tryz.func160, Tryz.ntmps160
  go_wp2_with fail
  go_loopw [] (fun wr => ∃ (j m : Nat) (M' : List Mch) (vm vf : Value), ReaderAt wr base rb g cap ts x j meas span by_ vm vf M' Fs ∧ ts.length ≤ m + j ∧ res = matchersI ts m j M' ∧ Below base w wr)
    (fun wr => leftOf rb wr)
  case atStart => exact ⟨i, n, M, vm, vf, h, hn, (unhide HS).symm, Below.refl _ _⟩
  case round =>
    obtain ⟨j, m, M', vm', vf', hr, hm, hres, hbw⟩ := hrel
    have hil := hr.ilt
    have hsz := hbw.size
    obtain ⟨m, rfl⟩ : ∃ m', m = m' + 1 := ⟨m - 1, by omega⟩
    have hleft := leftOf_at hr
    have HL := hide hleft
    have HE := hide hres
    have hma := matcher_any hr (by omega)
    have hge := matcherI_le (ts := ts) (i := j)
    clear hr hleft hres
    go_wp2_with fail
    refine hma.mono ?_
    rintro e w1 ⟨rfl, ⟨vm1, vf1, hr1⟩, hb1⟩
    clear hma
    have hsz1 := hb1.size
    cases hmi : matcherI ts j with
    | mk j' o =>
      rw [hmi] at hr1 hge
      cases o with
      | none =>
        have HR := hide hr1
        have HM := hide hmi
        clear hr1 hmi
        go_wp2
        go_ret
        rw [unhide HE, matchersI_bad (unhide HM)]
        exact ⟨rfl, ⟨_, _, unhide HR⟩, hbw.trans hb1⟩
      | some mm =>
        have hr1' : ReaderAt w1 base rb g cap ts x j' meas span by_ vm1 vf1 (M' ++ [mm]) Fs := hr1
        have hil1 := hr1'.ilt
        have hmk := mark_any [44] hr1' (by omega)
        have HM := hide hmi
        have HR := hide hr1'
        clear hr1 hr1' hmi
        simp only [Option.isSome_some]
        go_wp2_with fail
        refine hmk.mono ?_
        rintro e w2 ⟨rfl, hr2, hb2⟩
        clear hmk
        cases h44 : markB ts j' [44] with
        | false =>
          rw [h44] at hr2
          have HR2 := hide hr2
          have H4 := hide h44
          clear hr2 h44
          go_wp2
          go_ret
          rw [unhide HE, matchersI_end (unhide HM) (unhide H4)]
          exact ⟨rfl, ⟨_, _, unhide HR2⟩, (hbw.trans hb1).trans hb2⟩
        | true =>
          rw [h44, if_pos rfl] at hr2
          have hl2 := leftOf_at hr2
          have HL2 := hide hl2
          have HR2 := hide hr2
          have H4 := hide h44
          clear hr2 h44 hl2
          go_wp2
          go_roundw
          case rel => exact ⟨j' + 1, m, _, _, _, unhide HR2, by omega, by rw [unhide HE, matchersI_more (unhide HM) (unhide H4)], (hbw.trans hb1).trans hb2⟩
          case measure =>
            rw [unhide HL2, unhide HL]
            omega

theorem filtersI_end {ts : List Tok} {n i : Nat} {Fs : List Flt} (h : (markB ts i [33, 61] || markB ts i [124, 61]) = false) : filtersI ts (n + 1) i Fs = (i, true, Fs) := by
  rw [filtersI, if_pos h]
theorem filtersI_bad {ts : List Tok} {n i : Nat} {Fs : List Flt} (h : (markB ts i [33, 61] || markB ts i [124, 61]) = true) (h2 : ((tokAt ts (i + 1)).k == 2) = false) : filtersI ts (n + 1) i Fs = (i + 1, false, Fs) := by
  rw [filtersI, if_neg (by simp [h]), if_pos h2]
theorem filtersI_more {ts : List Tok} {n i : Nat} {Fs : List Flt} (h : (markB ts i [33, 61] || markB ts i [124, 61]) = true) (h2 : ((tokAt ts (i + 1)).k == 2) = true) : filtersI ts (n + 1) i Fs = filtersI ts n (i + 2) (Fs ++ [⟨(tokAt ts (i + 1)).text, markB ts i [33, 61]⟩]) := by
  rw [filtersI, if_neg (by simp [h]), if_neg (by simp [h2])]

set_option maxRecDepth 10000 in
set_option maxHeartbeats 4000000 in
theorem filters_any {w : World} {base rb g cap i : Nat} {ts : List Tok} {x meas by_ : List UInt8} {span : Int} {vm vf : Value} {M : List Mch} {Fs : List Flt} (h : ReaderAt w base rb g cap ts x i meas span by_ vm vf M Fs) (hb : base ≤ w.heap.size) (n : Nat) (hn : ts.length ≤ n + i) :
    Calls Tryz.prog 161 #[.pointer (some ⟨rb, 0, none⟩)] w (RulePost w base rb g cap ts x meas span by_ (filtersI ts n i Fs).1 (filtersI ts n i Fs).2.1 M (filtersI ts n i Fs).2.2) := by
  obtain ⟨i1, hi1, hz1, hs1, hb1⟩ := info_parts Tryz.info173
  generalize hres : filtersI ts n i Fs = res
  have HS := hide hres
  clear hres
  go_enter Tryz.func161, Tryz.ntmps161
  go_wp2_with fail
  go_loopw [] (fun wr => ∃ (j m : Nat) (F' : List Flt) (vm vf : Value), ReaderAt wr base rb g cap ts x j meas span by_ vm vf M F' ∧ ts.length ≤ m + j ∧ res = filtersI ts m j F' ∧ Below base w wr)
    (fun wr => leftOf rb wr)
  case atStart => exact ⟨i, n, Fs, vm, vf, h, hn, (unhide HS).symm, Below.refl _ _⟩
  case round =>
    obtain ⟨j, m, F', vm', vf', hr, hm, hres, hbw⟩ := hrel
    have hil := hr.ilt
    have hsm := hr.small
    have hfl := hr.flen
    have hsz := hbw.size
    obtain ⟨m, rfl⟩ : ∃ m', m = m' + 1 := ⟨m - 1, by omega⟩
    have hleft := leftOf_at hr
    have HL := hide hleft
    have HE := hide hres
    have hsg := sign_any [124, 61] hr (by omega)
    clear hr hleft hres
    go_wp2_with fail
    refine hsg.mono ?_
    rintro e w1 ⟨rfl, hr1, hb1'⟩
    clear hsg
    have hsz1 := hb1'.size
    cases h1 : (markB ts j [33, 61] || markB ts j [124, 61]) with
    | false =>
      rw [h1] at hr1
      have HR := hide hr1
      have HM := hide (filtersI_end (n := m) (Fs := F') h1)
      clear hr1 h1
      generalize markB ts j [33, 61] = neg at *
      go_wp2
      go_ret
      rw [unhide HE, unhide HM]
      exact ⟨rfl, ⟨_, _, unhide HR⟩, hbw.trans hb1'⟩
    | true =>
      rw [h1, if_pos rfl] at hr1
      have hta := takeAny hr1 (by omega)
      simp only [Bool.and_true] at hta
      have HM := hide h1
      clear hr1 h1
      go_wp2_with fail
      refine hta.mono ?_
      rintro e w2 ⟨rfl, hr2, hb2'⟩
      clear hta
      have hsz2 := hb2'.size
      cases h2 : ((tokAt ts (j + 1)).k == 2) with
      | false =>
        rw [h2] at hr2
        have HR := hide hr2
        have H2 := hide h2
        clear hr2 h2
        simp only [if_false, reduceCtorEq]
        go_wp2
        go_ret
        rw [unhide HE, filtersI_bad (unhide HM) (unhide H2)]
        exact ⟨rfl, ⟨_, _, unhide HR⟩, (hbw.trans hb1').trans hb2'⟩
      | true =>
        rw [h2, if_pos rfl, show j + 1 + 1 = j + 2 from rfl] at hr2
        have hil2 := hr2.ilt
        obtain ⟨-, -, -, -, -, c5, cf⟩ := cell_of_block6 hr2.block
        obtain ⟨ao, capf, hvf, -, -, -, -, -, -⟩ := owns_form hr2.rowF
        subst hvf
        have hown := hr2.rowF
        have hbrb := hr2.brb
        have HR := hide hr2
        have H2 := hide h2
        have HM2 := hide (filtersI_more (n := m) (Fs := F') (unhide HM) h2)
        clear hr2 h2 cf
        generalize markB ts j [33, 61] = neg at *
        simp only [if_true]
        go_wp2_with (at_builtin; refine wpList_append_at _ rfl _ _ 100 rfl base 173 i1 (.agg #[.bool false, .string ByteArray.empty]) 2 24 Tryz.underlying100 hi1 hz1 hs1 hb1 rfl (by decide) _ _ _ rfl (hown.alloc _) (some ⟨w2.heap.size, 0, none⟩) 1 1 [.bool neg, SV (tokAt ts (j + 1)).text] rfl rfl (by intro e; cases e) (cells_new w2 _ _) (by intro u hu; simp at hu; rcases hu with rfl | rfl <;> rfl) (by unfold maxLen; omega) (by omega) (by simp; omega) ?_; intro v2 w4 hown4 hgrow4 hwh4; obtain ⟨hr4, d4, f4, hb4⟩ := (unhide HR).appF (m := ⟨(tokAt ts (j + 1)).text, neg⟩) (by omega) (by omega) hgrow4 hown4; have hl4 := hide (leftOf_at hr4); have HR4 := hide hr4; have HB4 := hide hb4; clear hgrow4 hwh4 hr4 hb4; obtain ⟨ao4, cap4, rfl, -, -, -, -, -, -⟩ := owns_form hown4)
        go_roundw
        case rel => exact ⟨j + 2, m, _, _, _, unhide HR4, by omega, by rw [unhide HE, unhide HM2], ((hbw.trans hb1').trans hb2').trans (unhide HB4)⟩
        case measure =>
          rw [unhide hl4, unhide HL]
          omega

set_option maxRecDepth 10000 in
set_option maxHeartbeats 4000000 in
theorem end_any {w : World} {base rb g cap i : Nat} {ts : List Tok} {x meas by_ : List UInt8} {span : Int} {vm vf : Value} {M : List Mch} {Fs : List Flt} (h : ReaderAt w base rb g cap ts x i meas span by_ vm vf M Fs) :
    Calls Tryz.prog 125 #[.pointer (some ⟨rb, 0, none⟩)] w fun e w' => e = .returned (.bool ((tokAt ts i).k == 4)) ∧ Below w.heap.size w w' := by
  obtain ⟨b0, -, -, -, -, -, bf⟩ := cell_of_block6 h.block
  obtain ⟨k0, k1, k2⟩ := h.tok h.ilt
  have hil := h.ilt
  have hsm := h.small
  have hcp := h.caps
  have hk5 := (tok_fit h).1
  have HP := hide (pk_eq hk5 (by omega : 4 ≤ 5))
  clear bf h k1 k2
  go_enter Tryz.func125, Tryz.ntmps125
  go_wp2
  go_ret
  exact ⟨ret_bool (unhide HP), Below.refl _ _⟩

theorem filtersI_le {ts : List Tok} {n i : Nat} {Fs : List Flt} : i ≤ (filtersI ts n i Fs).1 := by
  induction n generalizing i Fs with
  | zero => simp [filtersI]
  | succ n ih =>
    rw [filtersI]
    split
    · simp
    · split
      · simp
      · exact Nat.le_trans (by omega) ih
theorem matchersI_le {ts : List Tok} {n i : Nat} {M : List Mch} : i ≤ (matchersI ts n i M).1 := by
  induction n generalizing i M with
  | zero => simp [matchersI]
  | succ n ih =>
    rw [matchersI]
    have hm := matcherI_le (ts := ts) (i := i)
    split
    · rename_i h; rw [h] at hm; exact hm
    · rename_i j m h
      rw [h] at hm
      split
      · exact Nat.le_trans (Nat.le_succ_of_le hm) ih
      · exact hm

set_option maxRecDepth 10000 in
set_option maxHeartbeats 4000000 in
theorem prows_any {w : World} {base rb g cap i : Nat} {ts : List Tok} {x meas by_ : List UInt8} {span : Int} {vm vf : Value} (h : ReaderAt w base rb g cap ts x i meas span by_ vm vf [] []) (hb : base ≤ w.heap.size) :
    Calls Tryz.prog 126 #[.pointer (some ⟨rb, 0, none⟩)] w (RulePost w base rb g cap ts x meas span by_ (rowsI ts i).1 (rowsI ts i).2.1 (rowsI ts i).2.2.1 (rowsI ts i).2.2.2) := by
  have hm := mark_any [123] h hb
  clear h
  generalize hres : rowsI ts i = res
  have HS := hide hres
  clear hres
  go_enter Tryz.func126, Tryz.ntmps126
  go_wp2_with fail
  refine hm.mono ?_
  rintro e w1 ⟨rfl, hr1, hb1⟩
  clear hm
  have hsz1 := hb1.size
  cases h1 : markB ts i [123] with
  | false =>
    rw [h1] at hr1
    have HR := hide hr1
    obtain rfl : (i, false, [], []) = res := by rw [← unhide HS, rowsI, if_pos h1]
    clear hr1 h1 HS
    go_wp2
    go_ret
    exact ⟨rfl, ⟨_, _, unhide HR⟩, hb1⟩
  | true =>
    rw [h1, if_pos rfl] at hr1
    have hms := matchers_any hr1 (by omega) ts.length (by omega)
    have hle := matchersI_le (ts := ts) (n := ts.length) (i := i + 1) (M := [])
    clear hr1
    go_wp2_with fail
    refine hms.mono ?_
    rintro e w2 ⟨rfl, ⟨vm2, vf2, hr2⟩, hb2⟩
    clear hms
    have hsz2 := hb2.size
    have hE := unhide HS
    rw [rowsI, if_neg (by simp [h1])] at hE
    generalize matchersI ts ts.length (i + 1) [] = R at *
    obtain ⟨j, ok, Ms⟩ := R
    simp only at hr2 hle hE
    cases ok with
    | false =>
      rw [if_pos rfl] at hE
      subst hE
      have HR := hide hr2
      clear hr2 h1 HS
      go_wp2
      go_ret
      exact ⟨rfl, ⟨_, _, unhide HR⟩, hb1.trans hb2⟩
    | true =>
      rw [if_neg (by simp)] at hE
      have hmk := mark_any [125] hr2 (by omega)
      clear hr2
      go_wp2_with fail
      refine hmk.mono ?_
      rintro e w3 ⟨rfl, hr3, hb3⟩
      clear hmk
      have hsz3 := hb3.size
      cases h3 : markB ts j [125] with
      | false =>
        rw [h3] at hr3
        rw [if_pos h3] at hE
        subst hE
        have HR := hide hr3
        clear hr3 h1 h3 HS
        go_wp2
        go_ret
        exact ⟨rfl, ⟨_, _, unhide HR⟩, (hb1.trans hb2).trans hb3⟩
      | true =>
        rw [h3, if_pos rfl] at hr3
        rw [if_neg (by simp [h3])] at hE
        have hfs := filters_any hr3 (by omega) ts.length (by omega)
        generalize filtersI ts ts.length (j + 1) [] = R2 at *
        subst hE
        clear hr3 h1 h3 HS
        go_wp2_with fail
        refine hfs.mono ?_
        rintro e w4 ⟨rfl, hr4, hb4⟩
        have HR := hide hr4
        clear hr4 hfs
        go_wp2
        go_ret
        exact ⟨rfl, unhide HR, ((hb1.trans hb2).trans hb3).trans hb4⟩

end Go.Proofs.YtbljamcdaoofbaaGreatDoor
