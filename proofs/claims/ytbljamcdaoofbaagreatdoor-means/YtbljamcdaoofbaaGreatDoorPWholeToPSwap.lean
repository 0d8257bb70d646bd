/- Texts PWhole, RRead, RowsSpec, PSwap, joined. -/
import Derived.Test.YtbljamcdaoofbaaGreatDoorRSpanToPMeas
import Derived.Test.YtbljamcdaoofbaaGreatDoorSourcesToPTok
import Derived.Test.YtbljamcdaoofbaaGreatDoorRelPushToAsked
import Derived.OneCell
/- whole and Read: the program's query of a text. -/
namespace Go.Proofs.YtbljamcdaoofbaaGreatDoor
open Go.RowKit

set_option maxRecDepth 10000 in
set_option maxHeartbeats 4000000 in
theorem whole_any {w : World} {base rb g cap : Nat} {ts : List Tok} {x : List UInt8} {vm vf : Value} (h : ReaderAt w base rb g cap ts x 0 [] 0 [] vm vf [] []) (hb : base ≤ w.heap.size) (hG : ErrAt w) (h8 : 8 ≤ base) :
    Calls Tryz.prog 98 #[.pointer (some ⟨rb, 0, none⟩)] w (RuleP w base rb g cap ts x (wholeI ts).1 (wholeI ts).2.1 (wholeI ts).2.2.meas (wholeI ts).2.2.span (wholeI ts).2.2.by_ (wholeI ts).2.2.ms (wholeI ts).2.2.fs) := by
  obtain ⟨b0, -, -, -, -, -, -⟩ := cell_of_block6 h.block
  obtain ⟨k0, -, -⟩ := h.tok h.ilt
  have hil := h.ilt
  have hsm := h.small
  have hcp := h.caps
  have hk5 := (tok_fit h).1
  have HK := hide (pk_eq hk5 (by omega : 0 ≤ 5))
  have hme := measure_any h hb hG h8
  have hro := prows_any h hb
  clear h
  rw [show 0 * 3 = 0 from rfl] at b0 k0
  generalize hres : wholeI ts = res
  have HS := hide hres
  clear hres
  cases h0 : ((tokAt ts 0).k == 0) with
  | true =>
    have hp : (pk (tokAt ts 0).k == 2) = true := (unhide HK).trans h0
    have hE : ((measI ts).1, (measI ts).2.1 && ((tokAt ts (measI ts).1).k == 4), (measI ts).2.2) = res := by
      rw [← unhide HS, wholeI, anyI, if_pos h0]
    clear HK HS h0 hro
    go_enter Tryz.func98, Tryz.ntmps98
    go_wp2_with fail
    refine hme.mono ?_
    rintro e w1 ⟨rfl, hb1, hg1, hx1⟩
    clear hme
    generalize measI ts = R at *
    obtain ⟨j, ok, q⟩ := R
    simp only at hg1 hx1 hE
    cases ok with
    | false =>
      obtain ⟨m', s', b', vm', vf', M', F', hr⟩ := hx1 rfl
      have HR := hide hr
      subst hE
      clear hr hg1 hx1
      go_wp2
      go_ret
      exact RuleP.bad (unhide HR) hb1
    | true =>
      obtain ⟨vm1, vf1, hr⟩ := hg1 rfl
      have he := end_any hr
      have HR := hide (fun (w2 : World) (hb2 : Below w1.heap.size w1 w2) => hr.below hb2)
      have hsz := hb1.size
      clear hr hg1 hx1
      rw [Bool.true_and] at hE
      generalize ((tokAt ts j).k == 4) = ok at *
      subst hE
      go_wp2_with fail
      refine he.mono ?_
      rintro e w2 ⟨rfl, hb2⟩
      clear he
      have HR2 := hide (unhide HR w2 hb2)
      cases ok
      · go_wp2
        go_ret
        exact RuleP.bad (unhide HR2) (hb1.trans (hb2.mono (by omega)))
      · go_wp2
        go_ret
        exact RuleP.good (unhide HR2) (hb1.trans (hb2.mono (by omega)))
  | false =>
    have hp : (pk (tokAt ts 0).k == 2) = false := (unhide HK).trans h0
    have hE : ((rowsI ts 0).1, (rowsI ts 0).2.1 && ((tokAt ts (rowsI ts 0).1).k == 4), (⟨(rowsI ts 0).2.2.1, (rowsI ts 0).2.2.2, [], 0, []⟩ : Qry)) = res := by
      rw [← unhide HS, wholeI, anyI, if_neg (by simp [h0])]
    clear HK HS h0 hme
    go_enter Tryz.func98, Tryz.ntmps98
    go_wp2_with fail
    refine hro.mono ?_
    rintro e w1 ⟨rfl, ⟨vm1, vf1, hr⟩, hb1⟩
    clear hro
    generalize rowsI ts 0 = R at *
    obtain ⟨j, ok, M1, F1⟩ := R
    simp only at hr hE
    have hsz := hb1.size
    cases ok with
    | false =>
      have HR := hide hr
      subst hE
      clear hr
      go_wp2
      go_ret
      exact RuleP.bad (unhide HR) hb1
    | true =>
      have he := end_any hr
      have HR := hide (fun (w2 : World) (hb2 : Below w1.heap.size w1 w2) => hr.below hb2)
      clear hr
      rw [Bool.true_and] at hE
      generalize ((tokAt ts j).k == 4) = ok at *
      subst hE
      go_wp2_with fail
      refine he.mono ?_
      rintro e w2 ⟨rfl, hb2⟩
      clear he
      have HR2 := hide (unhide HR w2 hb2)
      cases ok
      · go_wp2
        go_ret
        exact RuleP.bad (unhide HR2) (hb1.trans (hb2.mono (by omega)))
      · go_wp2
        go_ret
        exact RuleP.good (unhide HR2) (hb1.trans (hb2.mono (by omega)))

/-- A query of the program lies in block rb, one cell behind its head. -/
structure QueryAt (w : World) (base rb : Nat) (q : Qry) (vm vf : Value) : Prop where
  block : ∃ v0, w.heap[rb]? = some (.cells #[v0, SV q.meas, .int .i64 q.span, SV q.by_, vm, vf] 162 (0, 0))
  rowM : w.ownsRow base 171 3 vm q.ms.length (q.ms.flatMap cellsM)
  rowF : w.ownsRow base 173 2 vf q.fs.length (q.fs.flatMap cellsF)
  brb : base ≤ rb
  many : q.ms.length ≤ 200 ∧ q.fs.length ≤ 200

/-- the query of a text, if it is one; where it is wrong -/
def parseL (l : List UInt8) : Nat × Bool × Qry := ((tokAt (toks l 0) (wholeI (toks l 0)).1).pos, (wholeI (toks l 0)).2.1, (wholeI (toks l 0)).2.2)

def ReadPost (w : World) (p : Nat × Bool × Qry) (e : Ending) (w' : World) : Prop :=
  Below w.heap.size w w' ∧ (p.2.1 = true → ∃ rb vm vf, e = .returned (.tuple #[.pointer (some ⟨rb, 1, none⟩), .int .i64 0, .bool true]) ∧ QueryAt w' w.heap.size rb p.2.2 vm vf) ∧
    (p.2.1 = false → e = .returned (.tuple #[.pointer none, .int .i64 p.1, .bool false]))

theorem takeWhile_all (f : UInt8 → Bool) (l : List UInt8) : ∀ y ∈ l.takeWhile f, f y = true := by
  induction l with
  | nil => simp
  | cons c r ih =>
    intro y hy
    rw [List.takeWhile_cons] at hy
    split at hy
    · rename_i hc
      rcases List.mem_cons.1 hy with rfl | hy
      · exact hc
      · exact ih y hy
    · simp at hy

theorem toks_digits (s : List UInt8) (p : Nat) : ∀ t ∈ toks s p, t.k = 1 → t.text ≠ [] ∧ t.text.all isD = true := by
  induction h : s.length - p using Nat.strongRecOn generalizing p with
  | ind n ih =>
    have key : ∀ l : List UInt8, (tok1 l).1 = 1 → (tok1 l).2.1 ≠ [] ∧ (tok1 l).2.1.all isD = true := by
      intro l
      cases l with
      | nil => simp [tok1]
      | cons c r =>
        rw [tok1_cons]
        split
        · simp
        · split
          · rename_i hD
            intro _
            refine ⟨by simp [hD], ?_⟩
            rw [List.all_eq_true]
            intro y hy
            exact takeWhile_all _ _ y hy
          · repeat' split
            all_goals simp
    rw [toks]
    split
    · rename_i hk
      have hg := tok1_go hk
      rw [List.length_drop] at hg
      intro t ht
      rcases List.mem_cons.1 ht with rfl | ht
      · exact key _
      · exact ih _ (by omega) (p + blanks (s.drop p) + (tok1 (s.drop (p + blanks (s.drop p)))).2.2) rfl t ht
    · intro t ht
      rw [List.mem_singleton] at ht
      subst ht
      exact key _

/-- the reader, when it was made -/
theorem reader_new {w w1 : World} {l x : List UInt8} {g cap : Nat} (hl : l.length ≤ 200) (hown : w1.ownsRow w.heap.size 165 3 (.slice (some ⟨g, 0, none⟩) (toks l 0).length cap) (toks l 0).length (((toks l 0).map (fixT x)).flatMap cellsP)) (hb : Below w.heap.size w w1) (hcap : (toks l 0).length ≤ cap) :
    ReaderAt (w1.alloc (.cells #[.slice (some ⟨g, 0, none⟩) (toks l 0).length cap, .string ⟨#[]⟩, .int .i64 0, .string ⟨#[]⟩, .slice none 0 0, .slice none 0 0] 162)) w.heap.size w1.heap.size g cap (toks l 0) x 0 [] 0 [] (.slice none 0 0) (.slice none 0 0) [] [] := by
  have hw := toks_whole l 0
  have hlen := toks_len l 0 (Nat.zero_le _)
  have hpos : 0 < (toks l 0).length := by
    cases h : toks l 0 with
    | nil => rw [h] at hw; exact hw.elim
    | cons _ _ => simp
  obtain ⟨hgl, cur, hc⟩ := ownsRow_type hown (g := g) rfl
  refine ⟨?_, ⟨cur, ?_, ?_⟩, World.ownsRow_nil _ _ _ _, World.ownsRow_nil _ _ _ _, hb.size, (hown.lt g rfl).1, by omega, hcap, hpos, hw, ?_, Nat.zero_le _, Nat.zero_le _⟩
  · rw [heap_alloc_new]
    simp
  · rw [Go.RowKit.Below.heap_alloc _ _ _ hgl]; exact hc
  · intro j hj
    rw [← hown.cellAt j hj]
    simp [World.cell?, hc]
  · intro t ht
    have h1 := toks_fit l 0 (Nat.zero_le _) t ht
    exact ⟨h1.1, by omega, toks_digits l 0 t ht⟩

set_option maxRecDepth 10000 in
set_option maxHeartbeats 4000000 in
theorem read_any (l : List UInt8) (w : World) (hl : l.length ≤ 200) (hG : ErrAt w) (h8 : 8 ≤ w.heap.size) :
    Calls Tryz.prog 63 #[.string ⟨l.toArray⟩] w (ReadPost w (parseL l)) := by
  have hcut := pCut_any l w hl
  have hw := toks_whole l 0
  have hpos : 0 < (toks l 0).length := by
    cases h : toks l 0 with
    | nil => rw [h] at hw; exact hw.elim
    | cons _ _ => simp
  have hP : parseL l = ((tokAt (toks l 0) (wholeI (toks l 0)).1).pos, (wholeI (toks l 0)).2.1, (wholeI (toks l 0)).2.2) := rfl
  have HP := hide hP
  clear hP hw
  go_enter Tryz.func63, Tryz.ntmps63
  go_wp2_with fail
  refine hcut.mono ?_
  rintro e w1 ⟨v, x, rfl, hown, hb1⟩
  clear hcut
  obtain ⟨g, cap, rfl, -, -, hnc, -, -, -⟩ := owns_open hown hpos
  have hr := reader_new hl hown hb1 hnc
  have hsz := hb1.size
  have hbW : Below w.heap.size w (w1.alloc (.cells #[.slice (some ⟨g, 0, none⟩) (toks l 0).length cap, .string ⟨#[]⟩, .int .i64 0, .string ⟨#[]⟩, .slice none 0 0, .slice none 0 0] 162)) := hb1.alloc hsz _
  have hwh := whole_any hr (by simp; omega) (hG.below hbW hG.lt) h8
  have HB := hide hbW
  clear hr hbW hown
  generalize wholeI (toks l 0) = R at *
  go_wp2_with fail
  refine hwh.mono ?_
  rintro e w2 ⟨rfl, hb2, hg2, hx2⟩
  clear hwh
  obtain ⟨j, ok, q⟩ := R
  simp only at hg2 hx2
  have hPL := unhide HP
  simp only at hPL
  cases ok with
  | false =>
    obtain ⟨m', s', b', vm', vf', M', F', hr⟩ := hx2 rfl
    obtain ⟨b0, -, -, -, -, -, -⟩ := cell_of_block6 hr.block
    obtain ⟨-, k1, -⟩ := hr.tok hr.ilt
    have hil := hr.ilt
    have hcp := hr.caps
    have hsm := hr.small
    clear hr hg2 hx2
    go_wp2
    go_quiet (fail)
    go_wp2
    go_ret3
    rw [hPL]
    exact ⟨Go.Proofs.YtbljamcdaoofbaaGreatDoor.Below.drawn ((unhide HB).trans hb2) _, (fun h => by cases h), fun _ => rfl⟩
  | true =>
    obtain ⟨vm, vf, hr⟩ := hg2 rfl
    have hq : QueryAt w2 w.heap.size w1.heap.size q vm vf := ⟨⟨_, hr.block⟩, hr.rowM, hr.rowF, hr.brb, by have := hr.mlen; have := hr.flen; have := hr.ilt; have := hr.small; omega⟩
    have HQ := hide hq
    clear hr hq hg2 hx2
    go_wp2
    go_ret3
    rw [hPL]
    exact ⟨(unhide HB).trans hb2, fun _ => ⟨_, vm, vf, rfl, unhide HQ⟩, fun h => by cases h⟩

end Go.Proofs.YtbljamcdaoofbaaGreatDoor

/- The reference's Parse. -/
namespace Go.Proofs.YtbljamcdaoofbaaGreatDoor
open Go.RowKit

theorem tok1_kinds (l : List UInt8) : ((tok1 l).1 = 0 → (tok1 l).2.1 ≠ [] ∧ (tok1 l).2.1.all isL = true) ∧ ((tok1 l).1 = 3 → (tok1 l).2.1.all (fun c => !isL c) = true) := by
  cases l with
  | nil => simp [tok1]
  | cons c r =>
    rw [tok1_cons]
    split
    · rename_i hL
      refine ⟨fun _ => ⟨by simp [hL], ?_⟩, by simp⟩
      rw [List.all_eq_true]
      exact takeWhile_all _ _
    · rename_i hL
      split
      · simp
      · split
        · cases quoteAt r <;> simp
        · split
          · split
            · refine ⟨by simp, fun _ => ?_⟩
              simp only [List.all_cons, List.all_nil, Bool.and_true]
              simp [show isL c = false by simpa using hL]
              decide
            · simp
          · split
            · refine ⟨by simp, fun _ => ?_⟩
              simp [show isL c = false by simpa using hL]
            · simp

theorem toks_all {P : Tok → Prop} (s : List UInt8) (h : ∀ q, P ⟨(tok1 (s.drop q)).1, q, (tok1 (s.drop q)).2.1⟩) (p : Nat) : ∀ t ∈ toks s p, P t := by
  induction hn : s.length - p using Nat.strongRecOn generalizing p with
  | ind n ih =>
    rw [toks]
    split
    · rename_i hk
      have hg := tok1_go hk
      rw [List.length_drop] at hg
      intro t ht
      rcases List.mem_cons.1 ht with rfl | ht
      · exact h _
      · exact ih _ (by omega) (p + blanks (s.drop p) + (tok1 (s.drop (p + blanks (s.drop p)))).2.2) rfl t ht
    · intro t ht
      rw [List.mem_singleton] at ht
      subst ht
      exact h _

theorem toks_Fit (s : List UInt8) (hs : s.length ≤ 200) : Fit (toks s 0) := by
  intro t ht
  have h1 := toks_fit s 0 (Nat.zero_le _) t ht
  have h2 := toks_all (P := fun t => (t.k = 0 → t.text ≠ [] ∧ t.text.all isL = true) ∧ (t.k = 3 → t.text.all (fun c => !isL c) = true)) s (fun q => tok1_kinds _) 0 t ht
  exact ⟨h1.1, by omega, h2.1, h2.2, toks_digits s 0 t ht⟩

theorem toks_pos (s : List UInt8) : 0 < (toks s 0).length := by
  have hw := toks_whole s 0
  cases h : toks s 0 with
  | nil => rw [h] at hw; exact hw.elim
  | cons _ _ => simp

/-- what Parse answers, and leaves -/
def RReadPost (w : World) (l : List UInt8) (e : Ending) (w' : World) : Prop :=
  Below w.heap.size w w' ∧ (200 < l.length → e = .returned (.tuple #[.pointer none, .int .i64 7, .int .i64 0])) ∧
    (l.length ≤ 200 → (parseL l).2.1 = true → ∃ qb vM vF, e = .returned (.tuple #[.pointer (some ⟨qb, 0, none⟩), .int .i64 0, .int .i64 0]) ∧ RQAt w' w.heap.size qb vM vF (parseL l).2.2.meas (parseL l).2.2.span (parseL l).2.2.by_ (-1) (parseL l).2.2.ms (parseL l).2.2.fs) ∧
    (l.length ≤ 200 → (parseL l).2.1 = false → e = .returned (.tuple #[.pointer none, .int .i64 8, .int .i64 (parseL l).1]))

/-- behind measure or rows: the query so far -/
structure AnyAt (w W : World) (base qb g : Nat) (ts : List Tok) (p : Nat × Bool × Qry) : Prop where
  toks : RToks W g ts
  below : Below base w W
  lt : p.1 < ts.length
  good : p.2.1 = true → ∃ vM vF, RQAt W base qb vM vF p.2.2.meas p.2.2.span p.2.2.by_ (-1) p.2.2.ms p.2.2.fs
  bad : p.2.1 = false → ∃ vM vF m sp b M F, RQAt W base qb vM vF m sp b p.1 M F

theorem read_no {w w' : World} {l : List UInt8} {p : Nat} {q : Qry} (hp : parseL l = (p, false, q)) (hb : Below w.heap.size w w') (hl : l.length ≤ 200) : RReadPost w l (.returned (.tuple #[.pointer none, .int .i64 8, .int .i64 p])) w' := by
  refine ⟨hb, fun h => absurd h (by omega), (fun _ h => by rw [hp] at h; cases h), fun _ _ => by rw [hp]⟩
theorem read_yes {w w' : World} {l : List UInt8} {p qb : Nat} {vM vF : Value} {q : Qry} (hp : parseL l = (p, (true && (4 == 4)), q)) (hb : Below w.heap.size w w') (hl : l.length ≤ 200) (hq : RQAt w' w.heap.size qb vM vF q.meas q.span q.by_ (-1) q.ms q.fs) :
    RReadPost w l (.returned (.tuple #[.pointer (some ⟨qb, 0, none⟩), .int .i64 0, .int .i64 0])) w' := by
  refine ⟨hb, fun h => absurd h (by omega), fun _ _ => ⟨qb, vM, vF, rfl, by rw [hp]; exact hq⟩, fun _ h => by rw [hp] at h; cases h⟩

theorem meas_text {ts : List Tok} (h : (measI ts).2.1 = true) : (measI ts).2.2.meas = (tokAt ts 0).text := by
  unfold measI at h ⊢
  repeat' split at h
  all_goals simp_all

theorem any_rows {ts : List Tok} (hk : ((tokAt ts 0).k == 0) = false ∨ measB (tokAt ts 0).text = false) : (anyI ts).1 = (rowsI ts 0).1 ∧ (anyI ts).2.1 = (rowsI ts 0).2.1 ∧ ((rowsI ts 0).2.1 = true → (anyI ts).2.2 = ⟨(rowsI ts 0).2.2.1, (rowsI ts 0).2.2.2, [], 0, []⟩) := by
  cases h0 : ((tokAt ts 0).k == 0) with
  | false =>
    rw [anyI, if_neg (by simp [h0])]
    exact ⟨rfl, rfl, fun _ => rfl⟩
  | true =>
    have hm : measB (tokAt ts 0).text = false := by
      rcases hk with e | e
      · rw [h0] at e; cases e
      · exact e
    have hk0 : (tokAt ts 0).k = 0 := by simpa using h0
    have hr : rowsI ts 0 = (0, false, [], []) := by
      rw [rowsI, if_pos]
      unfold markB
      rw [hk0]
      rfl
    rw [anyI, if_pos h0, measI, if_pos (by rw [h0, hm]; rfl), hr]
    exact ⟨rfl, rfl, fun h => by cases h⟩

set_option maxRecDepth 10000 in
set_option maxHeartbeats 8000000 in
theorem parse_any (l : List UInt8) (w : World) (hl : l.length ≤ 1048576) :
    Calls Tryz.prog 119 #[.string ⟨l.toArray⟩] w (RReadPost w l) := by
  by_cases h200 : (200 : Int) < l.length
  · go_enter Tryz.func119, Tryz.ntmps119
    go_wp2_with fail
    go_ret3
    exact ⟨Below.refl _ _, fun _ => rfl, fun h => absurd h (by omega), fun h => absurd h (by omega)⟩
  · have hl2 : l.length ≤ 200 := by omega
    have htk := tokens_any l w hl2
    have hpos := toks_pos l
    have hfit := toks_Fit l hl2
    have hwh := toks_whole l 0
    have hlen := toks_len l 0 (Nat.zero_le _)
    have HP := hide (show parseL l = ((tokAt (toks l 0) (wholeI (toks l 0)).1).pos, (wholeI (toks l 0)).2.1, (wholeI (toks l 0)).2.2) from rfl)
    go_enter Tryz.func119, Tryz.ntmps119
    go_wp2_with fail
    refine htk.mono ?_
    rintro e w1 ⟨v, rfl, hown, hb1⟩
    clear htk
    obtain ⟨g, cap, rfl, hg, hgl, hnc, hcm, hcell, -⟩ := owns_open hown hpos
    have hrt : RToks w1 g (toks l 0) := by
      obtain ⟨_, cur, hc⟩ := ownsRow_type hown (g := g) rfl
      exact ⟨cur, hc, fun j hj => by rw [← hcell j hj]; simp [World.cell?, hc]⟩
    have hsz1 := hb1.size
    have HF := hide hfit
    have HW := hide hwh
    clear hown hcell hfit hwh
    generalize toks l 0 = ts at *
    obtain ⟨k0, -, k2⟩ := hrt.at hpos
    have hqn : ∀ m : List UInt8, RQAt (w1.alloc (.cells #[.slice none 0 0, .slice none 0 0, SV m, .int .i64 0, .string ⟨#[]⟩, .int .i64 (-1)] 190)) w.heap.size w1.heap.size (.slice none 0 0) (.slice none 0 0) m 0 [] (-1) [] [] := fun m =>
      ⟨heap_alloc_new _ _, World.ownsRow_nil _ _ _ _, World.ownsRow_nil _ _ _ _, (fun g hg => by simp [Value.ownBlock] at hg), hsz1⟩
    have htn : ∀ o, RToks (w1.alloc o) g ts := fun o => hrt.keep fun b hb => Go.RowKit.Below.heap_alloc _ _ _ hb
    have hbn : ∀ o, Below w.heap.size w (w1.alloc o) := fun o => hb1.alloc hsz1 o
    have HBN := hide hbn
    have hmeas : ∀ m : List UInt8, m = (tokAt ts 0).text → measB (tokAt ts 0).text = true → (tokAt ts 0).k = 0 →
        Calls Tryz.prog 144 #[.pointer (some ⟨w1.heap.size, 0, none⟩), .slice (some ⟨g, 0, none⟩) ts.length cap] (w1.alloc (.cells #[.slice none 0 0, .slice none 0 0, SV m, .int .i64 0, .string ⟨#[]⟩, .int .i64 (-1)] 190)) fun e w' => e = .returned (.int .i64 (anyI ts).1) ∧ AnyAt w w' w.heap.size w1.heap.size g ts (anyI ts) := by
      intro m hm hb hk
      have h1 := tok_next (unhide HW) hpos hk (by omega)
      refine (rmeasure_any (hqn m) (htn _) h1 (by omega) (unhide HF) (unhide HW) (by simp; omega) (by rw [hk, hb]; rfl) hm).mono ?_
      rintro e w2 ⟨rfl, ht2, hb2, hg2, hx2⟩
      have hA : anyI ts = measI ts := by rw [anyI, if_pos (by rw [hk]; rfl)]
      rw [hA]
      refine ⟨rfl, ht2, (unhide HBN _).trans hb2, ?_, fun hok => ?_, fun hok => ?_⟩
      · cases hok : (measI ts).2.1 with
        | false => exact (hx2 hok).1
        | true => exact (hg2 hok).1
      · obtain ⟨-, vM, vF, hq⟩ := hg2 hok
        rw [meas_text hok, ← hm]
        exact ⟨vM, vF, hq⟩
      · obtain ⟨-, vM, vF, sp, b, M, F, hq⟩ := hx2 hok
        exact ⟨vM, vF, _, _, _, _, _, hq⟩
    have hrows : (((tokAt ts 0).k == 0) = false ∨ measB (tokAt ts 0).text = false) →
        Calls Tryz.prog 145 #[.pointer (some ⟨w1.heap.size, 0, none⟩), .slice (some ⟨g, 0, none⟩) ts.length cap, .int .i64 0] (w1.alloc (.cells #[.slice none 0 0, .slice none 0 0, .string ⟨#[]⟩, .int .i64 0, .string ⟨#[]⟩, .int .i64 (-1)] 190)) fun e w' => e = .returned (.int .i64 (anyI ts).1) ∧ AnyAt w w' w.heap.size w1.heap.size g ts (anyI ts) := by
      intro hk
      have hr := rrows_any (i := 0) (cap := cap) (hqn []) (htn _) hpos (by omega) (unhide HF) (unhide HW) (by simp; omega)
      refine hr.mono ?_
      rintro e w2 ⟨rfl, ht2, hb2, hg2, hx2⟩
      have hA := any_rows hk
      rw [hA.1]
      refine ⟨rfl, ht2, (unhide HBN _).trans hb2, ?_, fun hok => ?_, fun hok => ?_⟩
      · rw [hA.1]
        cases hok : (rowsI ts 0).2.1 with
        | false => exact (hx2 hok).1
        | true => exact (hg2 hok).1
      · rw [hA.2.1] at hok
        obtain ⟨-, vM, vF, hq⟩ := hg2 hok
        rw [hA.2.2 hok]
        exact ⟨vM, vF, hq⟩
      · rw [hA.2.1] at hok
        obtain ⟨-, vM, vF, M, F, hq⟩ := hx2 hok
        rw [hA.1]
        exact ⟨vM, vF, _, _, _, _, _, hq⟩
    clear hqn htn hbn hrt
    go_wp2_with fail
    all_goals
      first
        | (go_at_call 144; refine (hmeas _ (by first | rfl | (symm; assumption)) (by clear hmeas hrows; simp_all [measB]) (by assumption)).mono ?_)
        | (go_at_call 145; refine (hrows (by first | (left; simp [*]; done) | (right; clear hmeas hrows; simp_all [measB]; done))).mono ?_)
      rintro e w2 ⟨rfl, hA⟩
      clear hmeas hrows k0 k2
      have hjl := hA.lt
      obtain ⟨kj, pj, -⟩ := hA.toks.at hjl
      have hsz2 := hA.below.size
      have hw : wholeI ts = ((anyI ts).1, (anyI ts).2.1 && ((tokAt ts (anyI ts).1).k == 4), (anyI ts).2.2) := rfl
      have HWI := hide hw
      clear hw
      generalize anyI ts = A at *
      obtain ⟨j, ok, q⟩ := A
      simp only at hjl kj pj HWI ⊢
      cases ok with
      | false =>
        obtain ⟨vM, vF, m, sp, b, M, F, hq⟩ := hA.bad rfl
        obtain ⟨-, -, -, -, -, c5, -⟩ := rcell6 hq.block
        simp only at c5
        have HA := hide hA
        have hji : (j : Int) < ts.length := by omega
        clear hq hA
        go_wp2
        go_quiet (fail)
        go_wp2
        go_ret3
        have hpl := unhide HP
        rw [unhide HWI] at hpl
        exact read_no hpl (Go.Proofs.YtbljamcdaoofbaaGreatDoor.Below.drawn (unhide HA).below _) hl2
      | true =>
        obtain ⟨vM, vF, hq⟩ := hA.good rfl
        simp only at hq
        obtain ⟨-, -, -, -, -, c5, -⟩ := rcell6 hq.block
        have hji : (j : Int) < ts.length := by omega
        by_cases hk4 : (tokAt ts j).k = 4
        · rw [hk4] at kj HWI
          have HA := hide hA
          have HQ := hide hq
          clear hq hA
          go_wp2
          go_ret3
          have hpl := unhide HP
          rw [unhide HWI] at hpl
          exact read_yes hpl (unhide HA).below hl2 (unhide HQ)
        · have hkn : (((tokAt ts j).k : Int) != 4) = true := by simp; omega
          have hwr := wrong_neg j hq
          have hq5 := hq.setBad j
          have ht5 := hA.toks.set hq 5 (.int .i64 j)
          have hb5 : Below w.heap.size w (w2.setCell ⟨w1.heap.size, 5, none⟩ (.int .i64 j)) := hA.below.setCell (p := ⟨w1.heap.size, 5, none⟩) hq.bqb _
          obtain ⟨-, -, -, -, -, d5, -⟩ := rcell6 hq5.block
          obtain ⟨-, dj, -⟩ := ht5.at hjl
          have HB5 := hide hb5
          have hkf : ((tokAt ts j).k == 4) = false := by simpa using hk4
          have HWI2 := hide (show wholeI ts = (j, false, q) by rw [unhide HWI, hkf]; rfl)
          clear hq hA hq5 ht5 hb5 hk4 hkf
          generalize (w2.setCell ⟨w1.heap.size, 5, none⟩ (.int .i64 (j : Int))) = Y at *
          go_wp2_with fail
          refine hwr.mono ?_
          rintro e w3 ⟨rfl, rfl⟩
          go_wp2
          go_quiet (fail)
          go_wp2
          go_ret3
          have hpl := unhide HP
          rw [unhide HWI2] at hpl
          exact read_no hpl (Go.Proofs.YtbljamcdaoofbaaGreatDoor.Below.drawn (unhide HB5) _) hl2

end Go.Proofs.YtbljamcdaoofbaaGreatDoor

/- What Rows answers, as a plain function; what is known of a query and of a store. -/
namespace Go.Proofs.YtbljamcdaoofbaaGreatDoor
open Go.RowKit

theorem tokAt_text (ts : List Tok) (n : Nat) (h : ∀ t ∈ ts, t.text.length ≤ n) (i : Nat) : (tokAt ts i).text.length ≤ n := by
  by_cases hi : i < ts.length
  · exact h _ (tokAt_mem hi)
  · unfold tokAt
    rw [List.getD_eq_getElem?_getD, List.getElem?_eq_none (by omega)]
    exact Nat.zero_le _

theorem matchersI_len (ts : List Tok) : ∀ (n i : Nat) (acc : List Mch), (matchersI ts n i acc).2.2.length ≤ acc.length + n
  | 0, i, acc => by simp [matchersI]
  | n + 1, i, acc => by
    unfold matchersI
    split
    · simp
    · rename_i j m _
      split
      · have := matchersI_len ts n (j + 1) (acc ++ [m])
        simp at this ⊢
        omega
      · simp

theorem filtersI_len (ts : List Tok) : ∀ (n i : Nat) (acc : List Flt), (filtersI ts n i acc).2.2.length ≤ acc.length + n
  | 0, i, acc => by simp [filtersI]
  | n + 1, i, acc => by
    unfold filtersI
    split
    · simp
    · split
      · simp
      · have := filtersI_len ts n (i + 2) (acc ++ [⟨(tokAt ts (i + 1)).text, markB ts i [33, 61]⟩])
        simp at this ⊢
        omega

theorem filtersI_text (ts : List Tok) (b : Nat) (h : ∀ t ∈ ts, t.text.length ≤ b) : ∀ (n i : Nat) (acc : List Flt), (∀ f ∈ acc, f.text.length ≤ b) → ∀ f ∈ (filtersI ts n i acc).2.2, f.text.length ≤ b
  | 0, i, acc, ha => by simpa [filtersI] using ha
  | n + 1, i, acc, ha => by
    unfold filtersI
    split
    · exact ha
    · split
      · exact ha
      · refine filtersI_text ts b h n (i + 2) _ ?_
        intro f hf
        rcases List.mem_append.1 hf with hf | hf
        · exact ha f hf
        · rw [List.mem_singleton.1 hf]
          exact tokAt_text ts b h _

theorem rowsI_small (ts : List Tok) (b i : Nat) (h : ∀ t ∈ ts, t.text.length ≤ b) : (rowsI ts i).2.2.1.length ≤ ts.length ∧ (rowsI ts i).2.2.2.length ≤ ts.length ∧ ∀ f ∈ (rowsI ts i).2.2.2, f.text.length ≤ b := by
  have h1 := matchersI_len ts ts.length (i + 1) []
  have h2 := filtersI_len ts ts.length ((matchersI ts ts.length (i + 1) []).1 + 1) []
  have h3 := filtersI_text ts b h ts.length ((matchersI ts ts.length (i + 1) []).1 + 1) [] (fun f hf => by simp at hf)
  simp only [List.length_nil, Nat.zero_add] at h1 h2
  unfold rowsI
  split
  · simp
  · split
    · exact ⟨h1, by simp, fun f hf => by simp at hf⟩
    · split
      · exact ⟨h1, by simp, fun f hf => by simp at hf⟩
      · exact ⟨h1, h2, h3⟩

/-- a query of a text that is not too long is small -/
theorem parse_small (l : List UInt8) (hl : l.length ≤ 200) : (parseL l).2.2.ms.length ≤ 201 ∧ (parseL l).2.2.fs.length ≤ 201 ∧ ∀ f ∈ (parseL l).2.2.fs, f.text.length ≤ 200 := by
  have hlen := toks_len l 0 (Nat.zero_le _)
  have hfit : ∀ t ∈ toks l 0, t.text.length ≤ 200 := fun t ht => Nat.le_trans (toks_fit l 0 (Nat.zero_le _) t ht).2.2.2 hl
  show (anyI (toks l 0)).2.2.ms.length ≤ 201 ∧ (anyI (toks l 0)).2.2.fs.length ≤ 201 ∧ ∀ f ∈ (anyI (toks l 0)).2.2.fs, f.text.length ≤ 200
  generalize toks l 0 = ts at *
  have h0 := rowsI_small ts 200 0 hfit
  have h2 := rowsI_small ts 200 2 hfit
  have he : emptyQ.ms.length ≤ 201 ∧ emptyQ.fs.length ≤ 201 ∧ ∀ f ∈ emptyQ.fs, f.text.length ≤ 200 := ⟨by simp [emptyQ], by simp [emptyQ], fun f hf => by simp [emptyQ] at hf⟩
  unfold anyI
  split
  · unfold measI
    split
    · exact he
    · split
      · exact he
      · split
        · exact he
        · split
          · exact he
          · split
            · exact he
            · exact ⟨by have := h2.1; show (rowsI ts 2).2.2.1.length ≤ 201; omega, by have := h2.2.1; show (rowsI ts 2).2.2.2.length ≤ 201; omega, h2.2.2⟩
  · exact ⟨by have := h0.1; show (rowsI ts 0).2.2.1.length ≤ 201; omega, by have := h0.2.1; show (rowsI ts 0).2.2.2.length ≤ 201; omega, h0.2.2⟩

/-- the error and the place that Rows tells -/
def rowsE (l : List UInt8) (fr tt lim : Int) : Int × Int :=
  if 200 < l.length then (7, 0)
  else if (parseL l).2.1 = false then (8, (parseL l).1)
  else if ((parseL l).2.2.meas == []) = false then (9, 0)
  else if fr < 0 ∨ tt < fr ∨ 1000001 < tt then (10, 0)
  else if lim < 0 ∨ 50 < lim then (11, 0)
  else (0, 0)

/-- the rows that it tells -/
def rowsA (l : List UInt8) (fr tt lim : Int) (bw : Bool) (L : List Rw) : List Rw :=
  if (rowsE l fr tt lim).1 = 0 then (ordR bw (askedL (parseL l).2.2.ms (parseL l).2.2.fs fr tt L)).take lim.toNat else []

/-- rows, an error and a place came out -/
def RowsP3 (w : World) (R : List Rw) (er pl : Int) (e : Ending) (w' : World) : Prop :=
  ∃ v, e = .returned (.tuple #[v, .int .i64 er, .int .i64 pl]) ∧ w'.ownsRow w.heap.size 38 3 v R.length (R.flatMap cellsR) ∧ Below w.heap.size w w'

theorem RowsP3.no {w w' : World} (er pl : Int) (hb : Below w.heap.size w w') : RowsP3 w [] er pl (.returned (.tuple #[.slice none 0 0, .int .i64 er, .int .i64 pl])) w' := ⟨_, rfl, World.ownsRow_nil _ _ _ _, hb⟩

/-- streams have labels, lines are short -/
structure Fine (S : List Strm) (L : List Rw) : Prop where
  labs : ∀ y ∈ S, labelsB y.1 = true ∧ y.1.length ≤ 1048576
  lines : ∀ r ∈ L, r.2.2.length ≤ 40 ∧ r.1.length ≤ 1048576

theorem Fine.empty : Fine [] [] := ⟨fun y hy => (by cases hy), fun r hr => (by cases hr)⟩

theorem Fine.push {S : List Strm} {L : List Rw} (h : Fine S L) (l : List UInt8) (t : Int) (x : List UInt8) (hl : l.length ≤ 1048576) : Fine (pushR S L l t x).2.1 (pushR S L l t x).2.2 := by
  unfold pushR
  split
  · exact h
  · rename_i h1
    have h1' : labelsB l = true := by simpa using h1
    split
    · exact h
    · split
      · exact h
      · rename_i h3
        have hL : ∀ r ∈ L ++ [(l, t, x)], r.2.2.length ≤ 40 ∧ r.1.length ≤ 1048576 := by
          intro r hr
          rcases List.mem_append.1 hr with hr | hr
          · exact h.lines r hr
          · rw [List.mem_singleton.1 hr]
            exact ⟨by show x.length ≤ 40; omega, hl⟩
        split
        · rename_i hk
          split
          · exact h
          · split
            · exact h
            · refine ⟨?_, hL⟩
              intro y hy
              rcases List.mem_or_eq_of_mem_set hy with hy | rfl
              · exact h.labs y hy
              · exact h.labs (S[at_ S l]) (List.getElem_mem hk)
        · split
          · exact h
          · split
            · exact h
            · refine ⟨?_, hL⟩
              intro y hy
              rcases List.mem_append.1 hy with hy | hy
              · exact h.labs y hy
              · rw [List.mem_singleton.1 hy]; exact ⟨h1', hl⟩

theorem Fine.drop {S : List Strm} {L : List Rw} (h : Fine S L) (b : Int) : Fine S (dropR L b).2.2 := by
  unfold dropR
  split
  · exact h
  · exact ⟨h.labs, fun r hr => h.lines r (List.mem_filter.1 hr).1⟩

end Go.Proofs.YtbljamcdaoofbaaGreatDoor

/- The queue's Swap, Push, Pop. -/
namespace Go.Proofs.YtbljamcdaoofbaaGreatDoor
open Go.RowKit

def qd : Src := ⟨[], [], .slice none 0 0⟩

theorem cellsQ_set (L : List Src) (k : Nat) (x : Src) (h : k < L.length) : ((L.flatMap cellsQ).set (k * 2) (SV x.lab)).set (k * 2 + 1) x.vl = (L.set k x).flatMap cellsQ := by
  induction L generalizing k with
  | nil => simp at h
  | cons y L ih =>
    cases k with
    | zero => simp [cellsQ]
    | succ k =>
      have := ih k (by simpa using h)
      simp only [List.flatMap_cons, cellsQ, List.cons_append, List.nil_append, Nat.add_mul, Nat.one_mul, List.set_cons_succ] at this ⊢
      rw [this]
theorem cellsQ_len (L : List Src) : (L.flatMap cellsQ).length = L.length * 2 := by
  induction L with
  | nil => rfl
  | cons x L ih => simp [cellsQ, ih]; omega

theorem LinesAt.set {w : World} {base : Nat} {s : Src} (h : LinesAt w base s) (p : Addr) (u : Value) (hp : base ≤ p.block) : LinesAt (w.setCell p u) base s := h.below ((Below.refl base w).setCell hp u)

theorem QAt.ne {w : World} {base qp g n cap : Nat} {bw : Bool} {ss : List Src} (h : QAt w base qp bw (.slice (some ⟨g, 0, none⟩) n cap) ss) : qp ≠ g := by
  obtain ⟨-, cur, hc⟩ := ownsRow_type h.row (g := g) rfl
  exact ne_of_type h.block hc (by decide)
theorem QAt.bg {w : World} {base qp g n cap : Nat} {bw : Bool} {ss : List Src} (h : QAt w base qp bw (.slice (some ⟨g, 0, none⟩) n cap) ss) : base ≤ g := by
  obtain ⟨ao, c, e, -, -, -, hao, -, -⟩ := owns_form h.row
  simp only [Value.slice.injEq] at e
  exact (hao _ e.1.symm).2.2.1

theorem QAt.stored {w : World} {base qp g n cap k : Nat} {bw : Bool} {ss : List Src} (h : QAt w base qp bw (.slice (some ⟨g, 0, none⟩) n cap) ss) (hk : k < ss.length) (x : Src) (hx : LinesAt w base x) (hf : x.lines ≠ []) :
    QAt ((w.setCell ⟨g, k * 2, none⟩ (SV x.lab)).setCell ⟨g, k * 2 + 1, none⟩ x.vl) base qp bw (.slice (some ⟨g, 0, none⟩) n cap) (ss.set k x) := by
  have hne := h.ne
  have hbg := h.bg
  have hn : n = ss.length := by
    rcases h.row.2 with ⟨h', _⟩ | ⟨g', cap', cur', h', _⟩
    · simp at h'
    · simp at h'; exact h'.2.1
  subst hn
  refine ⟨?_, ?_, ?_, ?_, h.bqp, by simpa using h.few⟩
  · rw [Go.RowKit.Below.heap_setCell _ _ _ _ hne, Go.RowKit.Below.heap_setCell _ _ _ _ hne]; exact h.block
  · have h1 := (h.row.stored (k * 2) (SV x.lab)).1
    have h2 := (h1.stored (k * 2 + 1) x.vl).1
    rw [cellsQ_set ss k x hk] at h2
    simpa using h2
  · intro s hs
    rcases List.mem_or_eq_of_mem_set hs with hs | rfl
    · exact ((h.lines s hs).set _ _ hbg).set _ _ hbg
    · exact (hx.set _ _ hbg).set _ _ hbg
  · intro s hs
    rcases List.mem_or_eq_of_mem_set hs with hs | rfl
    · exact h.full s hs
    · exact hf

theorem QAt.drew {w : World} {base qp : Nat} {bw : Bool} {vS : Value} {ss : List Src} (h : QAt w base qp bw vS ss) (n : Nat) : QAt (w.drewN n) base qp bw vS ss := ⟨h.block, h.row, h.lines, h.full, h.bqp, h.few⟩

set_option maxRecDepth 10000 in
set_option maxHeartbeats 4000000 in
theorem qSwap_any {w : World} {base qp : Nat} {bw : Bool} {vS : Value} {ss : List Src} (i j : Nat) (h : QAt w base qp bw vS ss) (hi : i < ss.length) (hj : j < ss.length) :
    Calls Tryz.prog 232 #[.pointer (some ⟨qp, 0, none⟩), .int .i64 i, .int .i64 j] w fun e w' => e = .returned (.tuple #[]) ∧ QAt w' base qp bw vS (swapL qd ss i j) ∧ Moved (qF qp vS) w w' := by
  obtain ⟨c0, c1, fz⟩ := cell_of_block2 h.block
  have hqp := (Array.getElem?_eq_some_iff.1 h.block).1
  obtain ⟨g, cap, rfl, -, hgw, hnc, hcm, hcell, hfz⟩ := owns_open h.row (by omega)
  have hfew := h.few
  have hne := h.ne
  obtain ⟨a0, a1⟩ := cellsQ_at ss i hi
  obtain ⟨b0, b1⟩ := cellsQ_at ss j hj
  have m0 := (hcell (i * 2) (by omega)).trans a0
  have m1 := (hcell (i * 2 + 1) (by omega)).trans a1
  have l0 := (hcell (j * 2) (by omega)).trans b0
  have l1 := (hcell (j * 2 + 1) (by omega)).trans b1
  have e1 : ss.getD i qd = ss[i] := by simp [List.getD_eq_getElem?_getD, hi]
  have e2 : ss.getD j qd = ss[j] := by simp [List.getD_eq_getElem?_getD, hj]
  have hA := (h.lines _ (List.getElem_mem hi))
  have hB := (h.lines _ (List.getElem_mem hj))
  have h1 := h.stored hi ss[j] hB (h.full _ (List.getElem_mem hj))
  have hbg := h.bg
  have h2 := h1.stored (k := j) (by simpa using hj) ss[i] ((hA.set _ _ hbg).set _ _ hbg) (h.full _ (List.getElem_mem hi))
  obtain ⟨ga, oa, ka, va, -⟩ := id hA
  obtain ⟨gb, ob, kb, vb, -⟩ := id hB
  have HQ := hide (show QAt _ base qp bw _ (swapL qd ss i j) by unfold swapL; rw [e1, e2]; exact h2)
  clear h1 h2 hA hB e1 e2 h hcell a0 a1 b0 b1
  have f0 := hfz (i * 2)
  have f1 := hfz (i * 2 + 1)
  have f2 := hfz (j * 2)
  have f3 := hfz (j * 2 + 1)
  clear hfz fz
  generalize ss[i] = A at *
  generalize ss[j] = B at *
  obtain ⟨labA, linA, vA⟩ := A
  obtain ⟨labB, linB, vB⟩ := B
  simp only at va vb m0 m1 l0 l1 HQ
  subst va vb
  have hil : (i : Int) < ss.length := by omega
  have hjl : (j : Int) < ss.length := by omega
  generalize ss.length = N at *
  generalize swapL qd ss i j = R at *
  go_enter Tryz.func232, Tryz.ntmps232
  go_upto_region 0 with fail
  have hij : i * 2 ≠ j * 2 + 1 := by omega
  have hji : j * 2 ≠ i * 2 + 1 := by omega
  have fin : ∀ (W : World), QAt W base qp bw (.slice (some ⟨g, 0, none⟩) N cap) R → QAt W.drew base qp bw (.slice (some ⟨g, 0, none⟩) N cap) R := fun W h => ⟨h.block, h.row, h.lines, h.full, h.bqp, h.few⟩
  have mv : ∀ (W : World) (o1 o2 o3 o4 : Nat) (u1 u2 u3 u4 : Value), W = w → Moved (qF qp (.slice (some ⟨g, 0, none⟩) N cap)) w ((((W.setCell ⟨g, o1, none⟩ u1).setCell ⟨g, o2, none⟩ u2).setCell ⟨g, o3, none⟩ u3).setCell ⟨g, o4, none⟩ u4).drew := by
    intro W o1 o2 o3 o4 u1 u2 u3 u4 e
    subst e
    exact (((((Moved.refl _ _).setCell (.inl (.inr rfl)) _).setCell (.inl (.inr rfl)) _).setCell (.inl (.inr rfl)) _).setCell (.inl (.inr rfl)) _).drew
  have HM := hide mv
  have HF := hide fin
  clear mv fin
  by_cases e : i = j
  · subst e
    have E1 : SV labB = SV labA := Option.some.inj (l0.symm.trans m0)
    have E2 : (Value.slice (some ⟨gb, ob, none⟩) linB.length kb) = (Value.slice (some ⟨ga, oa, none⟩) linA.length ka) := Option.some.inj (l1.symm.trans m1)
    rw [E1, E2] at HQ
    clear l0 l1 E1 E2
    go_region
    go_wp2
    go_end0
    exact ⟨rfl, unhide HF _ (unhide HQ), unhide HM _ _ _ _ _ _ _ _ _ rfl⟩
  · have e2 : i * 2 ≠ j * 2 := by omega
    have e3 : j * 2 ≠ i * 2 := by omega
    go_region
    go_wp2
    go_end0
    exact ⟨rfl, unhide HF _ (unhide HQ), unhide HM _ _ _ _ _ _ _ _ _ rfl⟩

end Go.Proofs.YtbljamcdaoofbaaGreatDoor
