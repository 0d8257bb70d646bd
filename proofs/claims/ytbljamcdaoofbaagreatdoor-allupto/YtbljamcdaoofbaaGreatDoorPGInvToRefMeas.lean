/- Texts PGInv, PGVal, PGKeys, PMNew, RefMeas, joined. -/
import Derived.Test.YtbljamcdaoofbaaGreatDoorMeasAllToPGFold
import Derived.Test.YtbljamcdaoofbaaGreatDoorPDropAllToHeap
import Derived.Test.YtbljamcdaoofbaaGreatDoorRefRowsToPRowsAll
/- What the groups hold when some lines are in. -/
namespace Go.Proofs.YtbljamcdaoofbaaGreatDoor
open Go.RowKit

abbrev KL := List UInt8 × List UInt8
def selP (P : List KL) (k : List UInt8) : List KL := P.filter (fun x => x.1 == k)
def TotG (P : List KL) (g : Grp) : Prop := g.n = (selP P g.key).length ∧ g.b = ((selP P g.key).map (fun x => x.2.length)).sum ∧ g.s = ((selP P g.key).map (fun x => numV x.2)).sum

structure GInv (gs : List Grp) (P : List KL) : Prop where
  rise : GRise gs
  mem : ∀ k, (∃ g ∈ gs, g.key = k) ↔ (∃ x ∈ P, x.1 = k)
  tot : ∀ g ∈ gs, TotG P g

theorem GInv.empty : GInv [] [] := ⟨List.Pairwise.nil, fun k => by simp, fun g hg => by cases hg⟩

theorem GInv.put {gs : List Grp} {P : List KL} (h : GInv gs P) (key : List UInt8) : ∀ g ∈ putG gs key, TotG P g := by
  intro g hg
  by_cases hex : ∃ g ∈ gs, g.key = key
  · have e : putG gs key = gs := by unfold putG; rw [if_pos hex]
    rw [e] at hg
    exact h.tot g hg
  · have e : putG gs key = gs.take (gplace gs key) ++ [newG key] ++ gs.drop (gplace gs key) := by unfold putG; rw [if_neg hex]
    rw [e] at hg
    simp only [List.mem_append, List.mem_singleton] at hg
    rcases hg with (hg | rfl) | hg
    · exact h.tot g (List.mem_of_mem_take hg)
    · have hs : selP P key = [] := by
        unfold selP
        rw [List.filter_eq_nil_iff]
        intro x hx hk
        exact hex ((h.mem key).2 ⟨x, hx, by simpa using hk⟩)
      show 0 = (selP P key).length ∧ 0 = ((selP P key).map (fun x => x.2.length)).sum ∧ (0 : Int) = ((selP P key).map (fun x => numV x.2)).sum
      rw [hs]
      exact ⟨rfl, rfl, rfl⟩
    · exact h.tot g (List.mem_of_mem_drop hg)

theorem putG_keys (gs : List Grp) (key k : List UInt8) : (∃ g ∈ putG gs key, g.key = k) ↔ ((∃ g ∈ gs, g.key = k) ∨ k = key) := by
  by_cases hex : ∃ g ∈ gs, g.key = key
  · have e : putG gs key = gs := by unfold putG; rw [if_pos hex]
    rw [e]
    constructor
    · exact .inl
    · rintro (h | rfl)
      · exact h
      · exact hex
  · have e : putG gs key = gs.take (gplace gs key) ++ [newG key] ++ gs.drop (gplace gs key) := by unfold putG; rw [if_neg hex]
    rw [e]
    constructor
    · rintro ⟨g, hg, rfl⟩
      simp only [List.mem_append, List.mem_singleton] at hg
      rcases hg with (hg | rfl) | hg
      · exact .inl ⟨g, List.mem_of_mem_take hg, rfl⟩
      · exact .inr rfl
      · exact .inl ⟨g, List.mem_of_mem_drop hg, rfl⟩
    · rintro (⟨g, hg, rfl⟩ | rfl)
      · refine ⟨g, ?_, rfl⟩
        rw [← List.take_append_drop (gplace gs key) gs] at hg
        rcases List.mem_append.1 hg with h1 | h1
        · simp [h1]
        · simp [h1]
      · exact ⟨newG _, by simp, rfl⟩

theorem modify_keys (gs : List Grp) (p : Nat) (line : List UInt8) : (gs.modify p (updG line)).map Grp.key = gs.map Grp.key := by
  induction gs generalizing p with
  | nil => simp
  | cons x S ih =>
    cases p with
    | zero => rfl
    | succ p => simp [List.modify_succ_cons, ih p]

theorem rise_keys {gs : List Grp} : GRise gs ↔ (gs.map Grp.key).Pairwise (fun a b => Op.bytesLess a b = true) := by
  unfold GRise
  rw [List.pairwise_map]

theorem selP_snoc (P : List KL) (key line k : List UInt8) : selP (P ++ [(key, line)]) k = selP P k ++ (if key = k then [(key, line)] else []) := by
  unfold selP
  rw [List.filter_append]
  congr 1
  by_cases e : key = k
  · rw [if_pos e]; simp [e]
  · rw [if_neg e]; simp [e]

theorem keys_exists (gs : List Grp) (k : List UInt8) : (∃ g ∈ gs, g.key = k) ↔ k ∈ gs.map Grp.key := by
  rw [List.mem_map]

/-- a line comes in -/
theorem GInv.add {gs : List Grp} {P : List KL} (h : GInv gs P) (key line : List UInt8) : GInv ((putG gs key).modify (gplace gs key) (updG line)) (P ++ [(key, line)]) := by
  have hr := putG_rise h.rise key
  have hp := putG_place gs key
  have hat := putG_at h.rise key
  refine ⟨?_, ?_, ?_⟩
  · rw [rise_keys, modify_keys, ← rise_keys]
    exact hr
  · intro k
    rw [keys_exists, modify_keys, ← keys_exists, putG_keys, h.mem k]
    constructor
    · rintro (⟨x, hx, rfl⟩ | rfl)
      · exact ⟨x, List.mem_append_left _ hx, rfl⟩
      · exact ⟨(k, line), by simp, rfl⟩
    · rintro ⟨x, hx, rfl⟩
      rcases List.mem_append.1 hx with hx | hx
      · exact .inl ⟨x, hx, rfl⟩
      · exact .inr (by rw [List.mem_singleton.1 hx])
  · intro g hg
    obtain ⟨j, hj, rfl⟩ := List.getElem_of_mem hg
    rw [List.length_modify] at hj
    rw [List.getElem_modify]
    by_cases e : gplace gs key = j
    · subst e
      rw [if_pos rfl]
      have ht := h.put key _ (List.getElem_mem hp)
      unfold TotG at ht ⊢
      simp only [updG]
      rw [hat] at ht ⊢
      rw [selP_snoc, if_pos rfl]
      obtain ⟨t1, t2, t3⟩ := ht
      refine ⟨?_, ?_, ?_⟩
      · rw [t1]; simp
      · rw [t2]; simp
      · rw [t3]; simp
    · rw [if_neg e]
      have ht := h.put key _ (List.getElem_mem hj)
      have hne : ¬ key = (putG gs key)[j].key := by
        intro he
        have he2 := hat.trans he
        have hpw := List.pairwise_iff_getElem.1 hr
        rcases Nat.lt_or_gt_of_ne e with hl | hl
        · have := hpw _ j hp hj hl
          rw [he2, less_irrefl] at this
          cases this
        · have := hpw j _ hj hp hl
          rw [← he2, less_irrefl] at this
          cases this
      unfold TotG at ht ⊢
      rw [selP_snoc, if_neg hne, List.append_nil]
      exact ht

end Go.Proofs.YtbljamcdaoofbaaGreatDoor

/- A group's value is its sample. -/
namespace Go.Proofs.YtbljamcdaoofbaaGreatDoor
open Go.RowKit

theorem smp_plain {kind : List UInt8} (hk : kind = countT ∨ kind = rateT ∨ kind = bytesT) (span n b many : Nat) (s s' : Int) : smpS kind span n b many s = some (valS kind span n b s') := by
  have d1 : ¬ countT = rateT := by decide
  have d2 : ¬ countT = bytesT := by decide
  have d3 : ¬ countT = meanT := by decide
  have d4 : ¬ rateT = countT := by decide
  have d5 : ¬ bytesT = countT := by decide
  have d6 : ¬ bytesT = rateT := by decide
  unfold smpS valS
  rcases hk with rfl | rfl | rfl
  · rw [if_pos rfl, if_neg d1, if_neg d2, if_neg d3]
  · rw [if_neg d4, if_pos rfl, if_pos rfl]
  · rw [if_neg d5, if_neg d6, if_pos rfl, if_neg d6, if_pos rfl]

theorem smp_mean (span n b many b' : Nat) (s : Int) (hm : 0 < many) : smpS meanT span n b many s = some (valS meanT span many b' s) := by
  have d1 : ¬ meanT = countT := by decide
  have d2 : ¬ meanT = rateT := by decide
  have d3 : ¬ meanT = bytesT := by decide
  unfold smpS valS
  rw [if_neg d1, if_neg d2, if_neg d3, if_neg (by omega), if_neg d2, if_neg d3, if_pos rfl]
  split <;> rfl

theorem smp_mean_none (span n b : Nat) (s : Int) : smpS meanT span n b 0 s = none := by
  have d1 : ¬ meanT = countT := by decide
  have d2 : ¬ meanT = rateT := by decide
  have d3 : ¬ meanT = bytesT := by decide
  unfold smpS
  rw [if_neg d1, if_neg d2, if_neg d3, if_pos rfl]

end Go.Proofs.YtbljamcdaoofbaaGreatDoor

/- The groups' keys, and their samples. -/
namespace Go.Proofs.YtbljamcdaoofbaaGreatDoor
open Go.RowKit

theorem keys_ris (by_ : List UInt8) (T : List Rw) : ∀ l, Ris l → Ris (T.foldl (fun ks r => putL ks (keyL by_ r)) l) ∧ ∀ x, x ∈ T.foldl (fun ks r => putL ks (keyL by_ r)) l ↔ x ∈ l ∨ ∃ r ∈ T, keyL by_ r = x := by
  induction T with
  | nil => intro l hl; exact ⟨hl, fun x => by simp⟩
  | cons r T ih =>
    intro l hl
    obtain ⟨h1, h2⟩ := putL_ris (keyL by_ r) hl
    obtain ⟨h3, h4⟩ := ih _ h1
    refine ⟨h3, fun x => ?_⟩
    rw [List.foldl_cons, h4, h2]
    constructor
    · rintro ((rfl | h) | ⟨y, hy, e⟩)
      · exact .inr ⟨r, List.mem_cons_self, rfl⟩
      · exact .inl h
      · exact .inr ⟨y, List.mem_cons_of_mem _ hy, e⟩
    · rintro (h | ⟨y, hy, e⟩)
      · exact .inl (.inr h)
      · rcases List.mem_cons.1 hy with rfl | hy
        · exact .inl (.inl e.symm)
        · exact .inr ⟨y, hy, e⟩

theorem keysL_ris (by_ : List UInt8) (T : List Rw) : Ris (keysL by_ T) ∧ ∀ x, x ∈ keysL by_ T ↔ ∃ r ∈ T, keyL by_ r = x := by
  obtain ⟨h1, h2⟩ := keys_ris by_ T [] List.Pairwise.nil
  exact ⟨h1, fun x => (h2 x).trans (by simp)⟩

theorem filterMap_all {α β : Type} {f : α → Option β} {g : α → β} {l : List α} (h : ∀ a ∈ l, f a = some (g a)) : l.filterMap f = l.map g := by
  induction l with
  | nil => rfl
  | cons a l ih =>
    rw [List.filterMap_cons_some (h a List.mem_cons_self), List.map_cons, ih fun x hx => h x (List.mem_cons_of_mem _ hx)]

/-- a measure that is no mean: the groups' samples are the document's -/
theorem smps_plain {q : Qry} {T : List Rw} {gs : List Grp} {P : List KL} (h : GInv gs P) (hk : q.meas = countT ∨ q.meas = rateT ∨ q.meas = bytesT) (hp : ∀ k, ((selP P k).map (fun x => x.2)).Perm ((grpL q.by_ T k).map (fun r => r.2.2))) :
    smpsL q T (keysL q.by_ T) = gs.map (smpG q.meas q.span) := by
  obtain ⟨k1, k2⟩ := keysL_ris q.by_ T
  have hlen : ∀ k, (selP P k).length = (grpL q.by_ T k).length := fun k => by simpa using (hp k).length_eq
  have hby : ∀ k, ((selP P k).map (fun x => x.2.length)).sum = bytesL (grpL q.by_ T k) := fun k => by
    have := ((hp k).map List.length).sum_nat
    simpa [bytesL, List.map_map, Function.comp_def] using this
  have hkeys : keysL q.by_ T = gs.map Grp.key := by
    refine ris_ext k1 (rise_keys.1 h.rise) fun k => ?_
    rw [k2, ← keys_exists, h.mem k]
    have e1 : (∃ x ∈ P, x.1 = k) ↔ 0 < (selP P k).length := by
      rw [List.length_pos_iff_exists_mem]
      unfold selP
      constructor
      · rintro ⟨x, hx, e⟩; exact ⟨x, List.mem_filter.2 ⟨hx, by simp [e]⟩⟩
      · rintro ⟨x, hx⟩; exact ⟨x, (List.mem_filter.1 hx).1, by simpa using (List.mem_filter.1 hx).2⟩
    have e2 : (∃ r ∈ T, keyL q.by_ r = k) ↔ 0 < (grpL q.by_ T k).length := by
      rw [List.length_pos_iff_exists_mem]
      unfold grpL
      constructor
      · rintro ⟨x, hx, e⟩; exact ⟨x, List.mem_filter.2 ⟨hx, by simp [e]⟩⟩
      · rintro ⟨x, hx⟩; exact ⟨x, (List.mem_filter.1 hx).1, by simpa using (List.mem_filter.1 hx).2⟩
    rw [e1, e2, hlen]
  unfold smpsL
  rw [hkeys, List.filterMap_map]
  refine filterMap_all fun g hg => ?_
  obtain ⟨t1, t2, -⟩ := h.tot g hg
  simp only [Function.comp_def, grpS]
  rw [smp_plain hk _ _ _ _ _ g.s, ← hlen, ← t1, ← hby, ← t2]
  rfl

theorem sum_numbers (G : List Rw) : sumL G = ((G.filter (fun r => numB r.2.2)).map (fun r => numV r.2.2)).sum := by
  induction G with
  | nil => rfl
  | cons r G ih =>
    unfold sumL at ih ⊢
    rw [List.map_cons, List.sum_cons, ih]
    cases hb : numB r.2.2 with
    | true => simp [hb]
    | false => simp [hb, numV_zero hb]

theorem perm_sum {a b : List Int} (h : a.Perm b) : a.sum = b.sum := by
  induction h with
  | nil => rfl
  | cons x _ ih => rw [List.sum_cons, List.sum_cons, ih]
  | swap x y l => simp only [List.sum_cons]; omega
  | trans _ _ h1 h2 => exact h1.trans h2

theorem filterMap_some {α β : Type} {f : α → Option β} {p : α → Bool} {l : List α} (h : ∀ a ∈ l, p a = false → f a = none) : l.filterMap f = (l.filter p).filterMap f := by
  induction l with
  | nil => rfl
  | cons a l ih =>
    have ih' := ih fun x hx => h x (List.mem_cons_of_mem _ hx)
    cases hp : p a with
    | true => rw [List.filter_cons_of_pos hp, List.filterMap_cons, List.filterMap_cons, ih']
    | false => rw [List.filter_cons_of_neg (by simp [hp]), List.filterMap_cons_none (h a List.mem_cons_self hp), ih']

/-- a mean: the groups' samples are the document's -/
theorem smps_mean {q : Qry} {T : List Rw} {gs : List Grp} {P : List KL} (h : GInv gs P) (hk : q.meas = meanT) (hp : ∀ k, ((selP P k).map (fun x => x.2)).Perm (((grpL q.by_ T k).filter (fun r => numB r.2.2)).map (fun r => r.2.2))) :
    smpsL q T (keysL q.by_ T) = gs.map (smpG q.meas q.span) := by
  obtain ⟨k1, k2⟩ := keysL_ris q.by_ T
  have hlen : ∀ k, (selP P k).length = manyL (grpL q.by_ T k) := fun k => by simpa [manyL] using (hp k).length_eq
  have hsum : ∀ k, ((selP P k).map (fun x => numV x.2)).sum = sumL (grpL q.by_ T k) := fun k => by
    have := perm_sum ((hp k).map numV)
    rw [sum_numbers]
    simpa [List.map_map, Function.comp_def] using this
  have e1 : ∀ k, (∃ x ∈ P, x.1 = k) ↔ 0 < (selP P k).length := fun k => by
    rw [List.length_pos_iff_exists_mem]
    unfold selP
    constructor
    · rintro ⟨x, hx, e⟩; exact ⟨x, List.mem_filter.2 ⟨hx, by simp [e]⟩⟩
    · rintro ⟨x, hx⟩; exact ⟨x, (List.mem_filter.1 hx).1, by simpa using (List.mem_filter.1 hx).2⟩
  have hkeys : (keysL q.by_ T).filter (fun k => decide (0 < manyL (grpL q.by_ T k))) = gs.map Grp.key := by
    refine ris_ext (List.Pairwise.sublist List.filter_sublist k1) (rise_keys.1 h.rise) fun k => ?_
    rw [List.mem_filter, ← keys_exists, h.mem k, e1, hlen, k2, decide_eq_true_eq]
    constructor
    · exact fun h => h.2
    · intro hm
      refine ⟨?_, hm⟩
      have hg : 0 < (grpL q.by_ T k).length := Nat.lt_of_lt_of_le hm (manyL_le _)
      obtain ⟨r, hr⟩ := List.length_pos_iff_exists_mem.1 hg
      exact ⟨r, (List.mem_filter.1 hr).1, by simpa using (List.mem_filter.1 hr).2⟩
  unfold smpsL
  rw [filterMap_some (p := fun k => decide (0 < manyL (grpL q.by_ T k))) ?_, hkeys, List.filterMap_map]
  · refine filterMap_all fun g hg => ?_
    obtain ⟨t1, -, t3⟩ := h.tot g hg
    have hpos : 0 < manyL (grpL q.by_ T g.key) := by
      rw [← hlen, ← e1, ← h.mem]
      exact ⟨g, hg, rfl⟩
    simp only [Function.comp_def, grpS]
    rw [hk, smp_mean _ _ _ _ g.b _ hpos, ← hlen, ← t1, ← hsum, ← t3]
    simp [smpG]
  · intro k _ hm
    have h0 : manyL (grpL q.by_ T k) = 0 := by
      have := of_decide_eq_false hm
      omega
    unfold grpS
    rw [hk, h0, smp_mean_none]
    rfl

end Go.Proofs.YtbljamcdaoofbaaGreatDoor

/- The program's New of groups, and the errors of a Measure behind those of the query's text. -/
namespace Go.Proofs.YtbljamcdaoofbaaGreatDoor
open Go.RowKit

theorem gnew_any (kind : List UInt8) (span : Nat) (w : World) :
    Calls Tryz.prog 52 #[.string ⟨kind.toArray⟩, .int .i64 span] w fun e w' => e = .returned (.pointer (some ⟨w.heap.size, 0, none⟩)) ∧ GroupsAt w' w.heap.size w.heap.size kind span (.slice none 0 0) [] ∧ Below w.heap.size w w' := by
  go_enter Tryz.func52, Tryz.ntmps52
  go_wp2_with fail
  go_ret
  exact ⟨rfl, ⟨heap_alloc_new w _, World.ownsRow_nil _ _ _ _⟩, (Below.refl _ w).alloc (Nat.le_refl _) _⟩

def checkME (q : Qry) (at_ : Int) : Int := if (q.meas == []) = true then 9 else if timeB at_ = false then 10 else 0

theorem checkMeasure_any {w : World} {base rb : Nat} {q : Qry} {vm vf : Value} (at_ : Int) (hq : QueryAt w base rb q vm vf) :
    Calls Tryz.prog 51 #[.pointer (some ⟨rb, 1, none⟩), .int .i64 at_] w fun e w' => e = .returned (.int .i64 (checkME q at_)) ∧ w' = w := by
  obtain ⟨v0, hblk⟩ := hq.block
  obtain ⟨-, c1, -, -, -, -, -⟩ := cell_of_block6 hblk
  clear hq hblk
  have ht := isTime_any at_ w
  go_enter Tryz.func51, Tryz.ntmps51
  cases hm : (q.meas == []) with
  | true =>
    have HR := hide (show checkME q at_ = 9 by unfold checkME; rw [if_pos hm])
    clear ht
    go_wp2_with fail
    go_ret
    refine ⟨?_, rfl⟩
    rw [unhide HR]
    rfl
  | false =>
    have HR := hide (show checkME q at_ = if timeB at_ = false then 10 else 0 by unfold checkME; rw [if_neg (by simp [hm])])
    cases hb : timeB at_ with
    | false =>
      rw [hb] at ht HR
      go_wp2_with fail
      refine ht.mono ?_
      rintro e w' ⟨rfl, hww⟩
      rw [hww]
      clear hww w' ht
      go_wp2_with fail
      go_ret
      refine ⟨?_, rfl⟩
      rw [unhide HR]
      rfl
    | true =>
      rw [hb] at ht HR
      go_wp2_with fail
      refine ht.mono ?_
      rintro e w' ⟨rfl, hww⟩
      rw [hww]
      clear hww w' ht
      go_wp2_with fail
      go_ret
      refine ⟨?_, rfl⟩
      rw [unhide HR]
      rfl

end Go.Proofs.YtbljamcdaoofbaaGreatDoor

/- The reference's Measure. -/
namespace Go.Proofs.YtbljamcdaoofbaaGreatDoor
open Go.RowKit

theorem RQAt.below {w w' : World} {base qb : Nat} {vM vF : Value} {meas by_ : List UInt8} {span bad : Int} {M : List Mch} {Fs : List Flt} (h : RQAt w base qb vM vF meas span by_ bad M Fs) (hb : Below w.heap.size w w') : RQAt w' base qb vM vF meas span by_ bad M Fs :=
  h.keep fun b hbl => hb.block b hbl

theorem insR_in {o : List Rw} {r x : Rw} (h : x ∈ insR o r) : x ∈ o ∨ x = r := by
  unfold insR at h
  simp only [List.mem_append, List.mem_singleton] at h
  rcases h with (h | h) | h
  · exact .inl (List.mem_of_mem_take h)
  · exact .inr h
  · exact .inl (List.mem_of_mem_drop h)

theorem asked_mem (M : List Mch) (Fs : List Flt) (fr tt : Int) (L : List Rw) : ∀ r ∈ askedL M Fs fr tt L, r ∈ L := by
  have h : ∀ k, k ≤ L.length → ∀ r ∈ askedL M Fs fr tt (L.take k), r ∈ L := by
    intro k
    induction k with
    | zero => intro _ r hr; simp [askedL] at hr
    | succ k ih =>
      intro hk r hr
      rw [askedL_snoc M Fs fr tt L k (by omega)] at hr
      split at hr
      · rcases insR_in hr with h | h
        · exact ih (by omega) r h
        · rw [h]; exact List.getElem_mem _
      · exact ih (by omega) r hr
  have := h L.length (Nat.le_refl _)
  rwa [List.take_length] at this

theorem ownsRow_below {w w' : World} {base e size n : Nat} {v : Value} {xs : List Value} (h : w.ownsRow base e size v n xs) (hb : Below w.heap.size w w') : w'.ownsRow base e size v n xs :=
  ownsRow_same h fun _ hg => hb.block _ (ownsRow_type h hg).1

theorem infoSm : (Tryz.prog.info? 57).map (fun i => (i.zero, i.size, i.bytes)) = some (some (.agg #[.string ByteArray.empty, .int .i64 0]), 2, 24) := by kernel_rfl

theorem grpL_len (by_ : List UInt8) (T : List Rw) (k : List UInt8) : (grpL by_ T k).length ≤ T.length := List.length_filter_le _ _

set_option maxRecDepth 10000 in
set_option maxHeartbeats 2000000 in
theorem refMeas_any {w : World} {F : Nat → Prop} {p : Nat} {S : List Strm} {L : List Rw} {vS vL : Value} (l : List UInt8) (at_ : Int) (hr : RefAt w F p S L vS vL) (hL : L.length ≤ 300) (hf : Fine S L) (hl : l.length ≤ 1048576) :
    Calls Tryz.prog 95 #[.pointer (some ⟨p, 0, none⟩), .string ⟨l.toArray⟩, .int .i64 at_] w (MeasP3 w (measA l at_ L) (measE l at_).1 (measE l at_).2) := by
  obtain ⟨i0, hi, hz0, hz1, hz2⟩ := info_parts Tryz.info38
  obtain ⟨i1, hj, hy0, hy1, hy2⟩ := info_parts infoSm
  have HR := hide hr
  have HF := hide hf
  clear hr hf
  go_enter Tryz.func95, Tryz.ntmps95
  go_wp2_with fail
  refine (parse_any l w hl).mono ?_
  rintro e w1 ⟨hb1, hlong, hgood, hbad⟩
  have HB1 := hide hb1
  have ht := times_any at_ w1
  clear hb1
  by_cases h2 : 200 < l.length
  · have he := hlong h2
    subst he
    have HE := hide (show measE l at_ = (7, 0) by unfold measE; rw [if_pos h2])
    clear hlong hgood hbad
    go_wp2_with fail
    refine ht.mono ?_
    rintro e w' ⟨rfl, hww⟩
    rw [hww]
    clear hww w' ht
    go_wp2_with fail
    go_ret3
    exact MeasP3.ers (unhide HE) (by decide) (unhide HB1)
  · have h2' : l.length ≤ 200 := by omega
    cases hp : (parseL l).2.1 with
    | false =>
      have he := hbad h2' hp
      subst he
      have HE := hide (show measE l at_ = ((8 : Int), ((parseL l).1 : Int)) by unfold measE; rw [if_neg h2, if_pos hp])
      clear hlong hgood hbad
      go_wp2_with fail
      refine ht.mono ?_
      rintro e w' ⟨rfl, hww⟩
      rw [hww]
      clear hww w' ht
      go_wp2_with fail
      go_ret3
      exact MeasP3.ers (unhide HE) (by decide) (unhide HB1)
    | true =>
      obtain ⟨qb, vM, vF, he, hq⟩ := hgood h2' hp
      subst he
      obtain ⟨s1, s2, s3⟩ := parse_small l h2'
      have HQ := hide hq
      have HS := hide (And.intro s1 (And.intro s2 s3))
      obtain ⟨-, -, c2, c3, -, -, -⟩ := rcell6 hq.block
      clear hlong hgood hbad hq s1 s2 s3
      go_wp2_with fail
      refine ht.mono ?_
      rintro e w' ⟨rfl, hww⟩
      rw [hww]
      clear hww w' ht
      cases hm : ((parseL l).2.2.meas == []) with
      | true =>
        have HE := hide (show measE l at_ = (9, 0) by unfold measE; rw [if_neg h2, if_neg (by simp [hp]), if_pos hm])
        go_wp2_with fail
        go_ret3
        exact MeasP3.ers (unhide HE) (by decide) (unhide HB1)
      | false =>
        cases htb : timeB at_ with
        | false =>
          have HE := hide (show measE l at_ = (10, 0) by unfold measE; rw [if_neg h2, if_neg (by simp [hp]), if_neg (by simp [hm]), if_pos htb])
          go_wp2_with fail
          go_ret3
          exact MeasP3.ers (unhide HE) (by decide) (unhide HB1)
        | true =>
          have hE : measE l at_ = (0, 0) := by unfold measE; rw [if_neg h2, if_neg (by simp [hp]), if_neg (by simp [hm]), if_neg (by simp [htb])]
          have HA := hide (show measA l at_ L = smpsL (parseL l).2.2 (askedL (parseL l).2.2.ms (parseL l).2.2.fs (at_ - (parseL l).2.2.span + 1) (at_ + 1) L) (keysL (parseL l).2.2.by_ (askedL (parseL l).2.2.ms (parseL l).2.2.fs (at_ - (parseL l).2.2.span + 1) (at_ + 1) L)) by unfold measA; rw [hE, if_pos rfl])
          have HE := hide hE
          have hsp := meas_span l hm
          have htr : 0 ≤ at_ ∧ at_ ≤ 1000000 := by unfold timeB at htb; simpa using htb
          obtain ⟨tr1, tr2⟩ := htr
          obtain ⟨sp1, sp2⟩ := hsp
          have hr1 := (unhide HR).keep (w' := w1) (fun b hb _ => (unhide HB1).block b hb)
          have hlen := askedL_len (parseL l).2.2.ms (parseL l).2.2.fs (at_ - (parseL l).2.2.span + 1) (at_ + 1) L
          have hmem : ∀ r ∈ askedL (parseL l).2.2.ms (parseL l).2.2.fs (at_ - (parseL l).2.2.span + 1) (at_ + 1) L, r ∈ L := asked_mem _ _ _ _ L
          have has := asked_any (at_ - (parseL l).2.2.span + 1) (at_ + 1) hr1 hL (unhide HQ) (unhide HS).1 (unhide HS).2.1 (unhide HS).2.2 (fun r hr => ⟨((unhide HF).lines r hr).2, Nat.le_trans ((unhide HF).lines r hr).1 (by omega)⟩)
          have HX := hide (fun r hr => (unhide HF).lines r (hmem r hr))
          clear hr1 hE hmem HS HR HF
          generalize askedL (parseL l).2.2.ms (parseL l).2.2.fs (at_ - (parseL l).2.2.span + 1) (at_ + 1) L = T at *
          generalize (parseL l).2.2 = q at *
          go_wp2_with fail
          refine has.mono ?_
          rintro e w2 ⟨v2, rfl, hown2, hb2⟩
          clear has
          have hb12 : Below w.heap.size w w2 := (unhide HB1).trans (hb2.mono (unhide HB1).size)
          have hq2 := (unhide HQ).below hb2
          have hTl : T.length ≤ 300 := by omega
          obtain ⟨aT, capT, rfl, hncT, hcmT, nilT, aoT, cellT, -⟩ := owns_form hown2
          unfold maxLen at hcmT
          have HNT := hide nilT
          have HAT := hide aoT
          have HCT := hide cellT
          have HB2 := hide hb12
          have HQ2 := hide hq2
          clear hown2 hb2 nilT aoT cellT hb12 HB1 HQ hq2 c2 c3 hm htb tr1 tr2
          go_wp2_with fail
          go_loopw [14, 15] (fun v i wr => ∃ k : Nat, k ≤ T.length ∧ i = .int .i64 k ∧ wr.ownsRow w2.heap.size 9 1 v (keysL q.by_ (T.take k)).length ((keysL q.by_ (T.take k)).map SV) ∧ Hid (Below w2.heap.size w2 wr)) (fun _ i _ => T.length - (intOf i).toNat)
          case atStart => exact ⟨0, Nat.zero_le _, rfl, World.ownsRow_nil _ _ _ _, hide (Below.refl _ _)⟩
          case round =>
            obtain ⟨k, hk, rfl, hown, HBR⟩ := hrel
            by_cases hlt : k < T.length
            · obtain ⟨⟨g, o, sp⟩, rfl⟩ : ∃ a, aT = some a := by
                cases aT with
                | none => have := (unhide HNT rfl).1; omega
                | some a => exact ⟨a, rfl⟩
              obtain ⟨ho, hsp, -, hgw⟩ := unhide HAT _ rfl
              simp only at ho hsp hgw
              subst ho hsp
              have hszr := (unhide HBR).size
              obtain ⟨e0, e1, e2⟩ := cellsR_at T k hlt
              have m0 := (((unhide HBR).cell (p := ⟨g, k * 3, none⟩) hgw).trans (unhide HCT _ rfl _ (by omega))).trans e0
              have m1 := (((unhide HBR).cell (p := ⟨g, k * 3 + 1, none⟩) hgw).trans (unhide HCT _ rfl _ (by omega))).trans e1
              have m2 := (((unhide HBR).cell (p := ⟨g, k * 3 + 2, none⟩) hgw).trans (unhide HCT _ rfl _ (by omega))).trans e2
              have hkey := key_any T[k] ((unhide HQ2).below (unhide HBR)) (unhide HX T[k] (List.getElem_mem _)).2
              have HSN := hide (keysL_snoc q.by_ T k hlt)
              have hkl := keysL_len q.by_ T k hk
              clear e0 e1 e2
              have hki : (k : Int) < (T.length : Int) := by omega
              generalize keysL q.by_ (T.take k) = K at *
              generalize keyL q.by_ T[k] = key at *
              generalize T[k] = r at *
              obtain ⟨lab, tm, line⟩ := r
              simp only at m0 m1 m2 hkey
              go_wp2_with fail
              refine hkey.mono ?_
              rintro e w3 ⟨rfl, hb3⟩
              clear hkey
              have hown3 := ownsRow_below hown hb3
              have hput := put_m K _ key w3 w2.heap.size (by have := hb3.size; omega) hown3 (by omega)
              have HB3 := hide ((unhide HBR).trans (hb3.mono hszr))
              clear hown3 hb3
              go_wp2_with fail
              refine hput.mono ?_
              rintro e w4 ⟨v4, rfl, hown4, hb4⟩
              clear hput
              have HB4 := hide ((unhide HB3).trans (hb4.mono (unhide HB3).size))
              clear hb4 HB3
              go_wp2_with fail
              go_roundw
              case rel =>
                refine ⟨k + 1, by omega, by go_num, ?_, HB4⟩
                rw [unhide HSN]
                exact hown4
              case measure => simp [intOf]; omega
            · have hkT : k = T.length := by omega
              subst hkT
              have hkl := keysL_len q.by_ T T.length (Nat.le_refl _)
              rw [List.take_length] at hown hkl
              rename World => wA
              obtain ⟨aK, capK, rfl, hncK, hcmK, nilK, aoK, cellK, -⟩ := owns_form hown
              unfold maxLen at hcmK
              have HNK := hide nilK
              have HAK := hide aoK
              have HCK := hide cellK
              have HCT2 := hide (show ∀ a, aT = some a → ∀ j, j < T.length * 3 → wA.cell? ⟨a.block, j, none⟩ = (T.flatMap cellsR)[j]? from fun a ha j hj => ((unhide HBR).cell (p := ⟨a.block, j, none⟩) (unhide HAT a ha).2.2.2).trans (unhide HCT a ha j hj))
              have HAT2 := hide (show ∀ a, aT = some a → a.off = 0 ∧ a.spot = none ∧ a.block < wA.heap.size from fun a ha => ⟨(unhide HAT a ha).1, (unhide HAT a ha).2.1, Nat.lt_of_lt_of_le (unhide HAT a ha).2.2.2 (unhide HBR).size⟩)
              have HQ3 := hide ((unhide HQ2).below (unhide HBR))
              have HB3 := hide ((unhide HB2).trans ((unhide HBR).mono (unhide HB2).size))
              clear hown nilK aoK cellK HAT HCT HQ2 HB2 HBR hk hlt
              generalize hKL : keysL q.by_ T = K at *
              go_wp2_with fail
              go_loopw [16, 17, 18, 19, 20, 21, 22] (fun v i _ _ _ _ _ wx => ∃ j : Nat, j ≤ K.length ∧ i = .int .i64 j ∧ wx.ownsRow wA.heap.size 57 2 v (smpsL q T (K.take j)).length ((smpsL q T (K.take j)).flatMap cellsMs) ∧ Hid (Below wA.heap.size wA wx)) (fun _ i _ _ _ _ _ _ => K.length - (intOf i).toNat)
              case atStart => exact ⟨0, Nat.zero_le _, rfl, World.ownsRow_nil _ _ _ _, hide (Below.refl _ _)⟩
              case round =>
                obtain ⟨j, hjK, rfl, hown, HBX⟩ := hrel
                by_cases hlt : j < K.length
                · rename World => wX
                  have hszx := (unhide HBX).size
                  have hji : (j : Int) < (K.length : Int) := by omega
                  obtain ⟨⟨gk, ok, sk⟩, rfl⟩ : ∃ a, aK = some a := by
                    cases aK with
                    | none => have := (unhide HNK rfl).1; omega
                    | some a => exact ⟨a, rfl⟩
                  obtain ⟨hok, hsk, -, hgkw⟩ := unhide HAK _ rfl
                  simp only at hok hsk hgkw
                  subst hok hsk
                  have mk : wX.cell? ⟨gk, j, none⟩ = some (SV K[j]) := (((unhide HBX).cell (p := ⟨gk, j, none⟩) hgkw).trans (unhide HCK _ rfl _ (by omega))).trans (map_SV_at K j hlt)
                  have HSS := hide (smpsL_snoc q T K j hlt)
                  have hsl : (smpsL q T (K.take j)).length ≤ 300 := Nat.le_trans (smpsL_len _ _ _) (by rw [List.length_take]; omega)
                  generalize smpsL q T (K.take j) = O at *
                  generalize K[j] = key at *
                  go_upto_region 21 with fail
                  go_loopw [18, 19, 20] (fun v i _ wy => ∃ m : Nat, m ≤ T.length ∧ i = .int .i64 m ∧ wy.ownsRow wX.heap.size 38 3 v (grpL q.by_ (T.take m) key).length ((grpL q.by_ (T.take m) key).flatMap cellsR) ∧ Hid (Below wX.heap.size wX wy)) (fun _ i _ _ => T.length - (intOf i).toNat)
                  case atStart => exact ⟨0, Nat.zero_le _, rfl, World.ownsRow_nil _ _ _ _, hide (Below.refl _ _)⟩
                  case round =>
                    obtain ⟨m, hmT, rfl, hgr, HBY⟩ := hrel
                    rename World => wY
                    have hszy := (unhide HBY).size
                    by_cases hlt2 : m < T.length
                    · obtain ⟨⟨g, o, sp⟩, rfl⟩ : ∃ a, aT = some a := by
                        cases aT with
                        | none => have := (unhide HNT rfl).1; omega
                        | some a => exact ⟨a, rfl⟩
                      obtain ⟨ho, hsp, hgw⟩ := unhide HAT2 _ rfl
                      simp only at ho hsp hgw
                      subst ho hsp
                      have HXY := hide ((unhide HBX).trans ((unhide HBY).mono hszx))
                      obtain ⟨e0, e1, e2⟩ := cellsR_at T m hlt2
                      have m0 := (((unhide HXY).cell (p := ⟨g, m * 3, none⟩) hgw).trans (unhide HCT2 _ rfl _ (by omega))).trans e0
                      have m1 := (((unhide HXY).cell (p := ⟨g, m * 3 + 1, none⟩) hgw).trans (unhide HCT2 _ rfl _ (by omega))).trans e1
                      have m2 := (((unhide HXY).cell (p := ⟨g, m * 3 + 2, none⟩) hgw).trans (unhide HCT2 _ rfl _ (by omega))).trans e2
                      have mk2 := ((unhide HXY).cell (p := ⟨gk, j, none⟩) hgkw).trans (((unhide HBX).cell (p := ⟨gk, j, none⟩) hgkw).symm.trans mk)
                      have hkey := key_any T[m] ((unhide HQ3).below (unhide HXY)) (unhide HX T[m] (List.getElem_mem _)).2
                      have HSN := hide (grpL_snoc q.by_ T key m hlt2)
                      have hgl : (grpL q.by_ (T.take m) key).length ≤ 300 := Nat.le_trans (grpL_len _ _ _) (by rw [List.length_take]; omega)
                      have hmi : (m : Int) < (T.length : Int) := by omega
                      clear e0 e1 e2
                      generalize grpL q.by_ (T.take m) key = G at *
                      generalize keyL q.by_ T[m] = rk at *
                      generalize T[m] = r at *
                      obtain ⟨lab, tm, line⟩ := r
                      simp only at m0 m1 m2 hkey
                      go_wp2_with fail
                      refine hkey.mono ?_
                      rintro e w5 ⟨rfl, hb5⟩
                      clear hkey
                      have hgr5 := ownsRow_below hgr hb5
                      have HB5 := hide ((unhide HBY).trans (hb5.mono hszy))
                      have n0 := (hb5.cell (p := ⟨g, m * 3, none⟩) (Nat.lt_of_lt_of_le hgw (unhide HXY).size)).trans m0
                      have n1 := (hb5.cell (p := ⟨g, m * 3 + 1, none⟩) (Nat.lt_of_lt_of_le hgw (unhide HXY).size)).trans m1
                      have n2 := (hb5.cell (p := ⟨g, m * 3 + 2, none⟩) (Nat.lt_of_lt_of_le hgw (unhide HXY).size)).trans m2
                      have nk := (hb5.cell (p := ⟨gk, j, none⟩) (Nat.lt_of_lt_of_le hgkw (unhide HXY).size)).trans mk2
                      have hsz5 := (unhide HB5).size
                      clear hb5 m0 m1 m2 mk2 hgr HBY HXY
                      obtain ⟨aG, cG, rfl, -, -, -, -, -, -⟩ := owns_form hgr5
                      cases hkk : (rk == key) with
                      | true =>
                        rw [hkk, if_pos rfl] at HSN
                        go_wp2_with (at_builtin; refine wpList_append_at _ rfl _ _ 28 rfl wX.heap.size 38 i0 _ 3 40 Tryz.underlying28 hi hz0 hz1 hz2 rfl (by decide) _ _ _ rfl (hgr5.alloc _) (some ⟨_, 0, none⟩) 1 1 [SV lab, .int .i64 tm, SV line] rfl rfl (by intro e; cases e) (cells_new _ _ _) (by intro u hu; simp at hu; rcases hu with rfl | rfl | rfl <;> rfl) (by unfold maxLen; omega) (by omega) (by simp; omega) ?_; intro v6 w6 hown6 hgrow6 hwh6)
                        go_roundw
                        case rel =>
                          refine ⟨m + 1, by omega, by go_num, ?_, hide (((unhide HB5).alloc hsz5 _).grown hgrow6 (by simp; omega) (fun k hk => (hgr5.lt k hk).1))⟩
                          rw [unhide HSN, List.flatMap_append, List.length_append]
                          exact hown6
                        case measure => simp [intOf]; omega
                      | false =>
                        rw [hkk, if_neg (by decide), List.append_nil] at HSN
                        go_wp2_with fail
                        go_roundw
                        case rel =>
                          refine ⟨m + 1, by omega, by go_num, ?_, HB5⟩
                          rw [unhide HSN]
                          exact hgr5
                        case measure => simp [intOf]; omega
                    · have hmT2 : m = T.length := by omega
                      subst hmT2
                      rw [List.take_length] at hgr
                      have hgl : (grpL q.by_ T key).length ≤ 300 := Nat.le_trans (grpL_len _ _ _) hTl
                      have HXY := hide ((unhide HBX).trans ((unhide HBY).mono hszx))
                      have hsm := sample_any ((unhide HQ3).below (unhide HXY)) (by omega) (by omega) (ownsRow_base hgr (Nat.zero_le _)) hgl (fun r hr => (unhide HX r (List.mem_filter.1 hr).1).1)
                      have mk2 := ((unhide HXY).cell (p := ⟨gk, j, none⟩) hgkw).trans (((unhide HBX).cell (p := ⟨gk, j, none⟩) hgkw).symm.trans mk)
                      have hownY := ownsRow_below hown (unhide HBY)
                      have hszA : wA.heap.size ≤ wY.heap.size := (unhide HXY).size
                      clear hown hgr HBY HBX mk hszy hszx
                      have hsm2 : Calls Tryz.prog 122 #[.pointer (some ⟨qb, 0, none⟩), _] wY fun e w' => e = .returned (.tuple #[.int .i64 ((grpS q (grpL q.by_ T key)).getD 0), .bool (grpS q (grpL q.by_ T key)).isSome]) ∧ ∃ n, w' = wY.drewN n := hsm
                      clear hsm
                      generalize hG : grpL q.by_ T key = G at *
                      go_wp2_with fail
                      refine hsm2.mono ?_
                      rintro e w' ⟨rfl, n, hww⟩
                      rw [hww]
                      clear hww w' hsm2
                      have mk3 : (wY.drewN n).cell? ⟨gk, j, none⟩ = some (SV key) := mk2
                      have hownZ : (wY.drewN n).ownsRow wA.heap.size 57 2 _ O.length (O.flatMap cellsMs) := hownY
                      have HBZ := hide (show Below wA.heap.size wA (wY.drewN n) from Below.drawn (unhide HXY) n)
                      have hszZ : wA.heap.size ≤ (wY.drewN n).heap.size := hszA
                      clear mk2 hownY HXY hszA
                      generalize wY.drewN n = wZ at *
                      obtain ⟨aO, cO, rfl, -, -, -, -, -, -⟩ := owns_form hownZ
                      cases hgs : grpS q G with
                      | none =>
                        rw [hgs] at HSS
                        simp only [List.append_nil] at HSS
                        go_wp2_with fail
                        go_roundw
                        case rel =>
                          refine ⟨j + 1, by omega, by go_num, ?_, HBZ⟩
                          rw [unhide HSS]
                          exact hownZ
                        case measure => simp [intOf]; omega
                      | some b =>
                        rw [hgs] at HSS
                        simp only at HSS
                        go_wp2_with (at_builtin; refine wpList_append_at _ rfl _ _ 52 rfl wA.heap.size 57 i1 _ 2 24 Tryz.underlying52 hj hy0 hy1 hy2 rfl (by decide) _ _ _ rfl (hownZ.alloc _) (some ⟨_, 0, none⟩) 1 1 [SV key, .int .i64 b] rfl rfl (by intro e; cases e) (cells_new _ _ _) (by intro u hu; simp at hu; rcases hu with rfl | rfl <;> rfl) (by unfold maxLen; omega) (by omega) (by simp; omega) ?_; intro v6 w6 hown6 hgrow6 hwh6)
                        go_roundw
                        case rel =>
                          refine ⟨j + 1, by omega, by go_num, ?_, hide (((unhide HBZ).alloc hszZ _).grown hgrow6 (by simp; omega) (fun k hk => (hownZ.lt k hk).1))⟩
                          rw [unhide HSS, List.flatMap_append, List.length_append]
                          exact hown6
                        case measure => simp [intOf]; omega
                · have hjL : j = K.length := by omega
                  subst hjL
                  rw [List.take_length] at hown
                  go_wp2_with fail
                  go_ret3
                  rw [unhide HA, unhide HE]
                  exact ⟨_, rfl, ownsRow_base hown (unhide HB3).size, (unhide HB3).trans ((unhide HBX).mono (unhide HB3).size)⟩

end Go.Proofs.YtbljamcdaoofbaaGreatDoor
