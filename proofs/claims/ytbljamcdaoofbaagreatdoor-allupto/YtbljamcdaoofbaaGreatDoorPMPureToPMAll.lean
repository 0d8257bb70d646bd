/- Texts PMPure, PMWalk, PMAll, joined. -/
import Derived.Test.YtbljamcdaoofbaaGreatDoorPGInvToRefMeas
import Derived.Deep.RegionLaw
/- What a measure's groups hold behind all lines: the document's samples. -/
namespace Go.Proofs.YtbljamcdaoofbaaGreatDoor
open Go.RowKit

/-- what comes in of a line, of lines, of sources -/
def pairK (kind key line : List UInt8) : List KL := if kind = meanT ∧ numB line = false then [] else [(key, line)]
def pairS (kind key : List UInt8) (lines : List Ln) : List KL := lines.flatMap (fun y => pairK kind key y.2)
def pairsL (kind by_ : List UInt8) (ss : List Src) : List KL := ss.flatMap (fun s => pairS kind (valueP by_ (cutL 44 s.lab)) s.lines)
def cntL (ss : List Src) : Nat := (ss.map (fun s => s.lines.length)).sum
def inB (kind : List UInt8) (r : Rw) : Bool := !(decide (kind = meanT ∧ numB r.2.2 = false))

structure GOk (gs : List Grp) (P : List KL) : Prop where
  inv : GInv gs P
  len : gs.length ≤ P.length
  short : ∀ x ∈ P, x.2.length ≤ 40

theorem GOk.empty : GOk [] [] := ⟨GInv.empty, Nat.le_refl _, fun x hx => by cases hx⟩

theorem putG_len (gs : List Grp) (key : List UInt8) : (putG gs key).length ≤ gs.length + 1 := by
  have := gplace_le gs key
  unfold putG
  split
  · omega
  · simp
    omega

theorem GOk.add {gs : List Grp} {P : List KL} (h : GOk gs P) (kind key line : List UInt8) (hl : line.length ≤ 40) : GOk (addG kind gs key line) (P ++ pairK kind key line) := by
  unfold addG pairK
  split
  · rw [List.append_nil]; exact h
  · refine ⟨h.inv.add key line, ?_, ?_⟩
    · have h1 := putG_len gs key
      have h2 := h.len
      rw [List.length_modify, List.length_append]
      simp only [List.length_cons, List.length_nil]
      omega
    · intro x hx
      rcases List.mem_append.1 hx with hx | hx
      · exact h.short x hx
      · rw [List.mem_singleton.1 hx]; exact hl

theorem tot_fit {P : List KL} {g : Grp} (h : TotG P g) (hs : ∀ x ∈ P, x.2.length ≤ 40) (hn : P.length ≤ 300) : g.n ≤ 300 ∧ g.b ≤ 12000 ∧ -300000300 ≤ g.s ∧ g.s ≤ 300000300 := by
  obtain ⟨h1, h2, h3⟩ := h
  have hlen : (selP P g.key).length ≤ 300 := Nat.le_trans (List.length_filter_le _ _) hn
  have hmem : ∀ x ∈ selP P g.key, x.2.length ≤ 40 := fun x hx => hs x (List.mem_filter.1 hx).1
  rw [h1, h2, h3]
  generalize selP P g.key = Q at *
  have hb : (Q.map (fun x => x.2.length)).sum ≤ 40 * Q.length := by
    clear h1 h2 h3 hlen
    induction Q with
    | nil => simp
    | cons x Q ih =>
      have h1 := hmem x List.mem_cons_self
      have h2 := ih fun y hy => hmem y (List.mem_cons_of_mem _ hy)
      simp only [List.map_cons, List.sum_cons, List.length_cons]
      omega
  have hv : -1000001 * (Q.length : Int) ≤ (Q.map (fun x => numV x.2)).sum ∧ (Q.map (fun x => numV x.2)).sum ≤ 1000001 * (Q.length : Int) := by
    clear h1 h2 h3 hlen hmem hb
    induction Q with
    | nil => simp
    | cons x Q ih =>
      have h1 := numV_abs x.2
      simp only [List.map_cons, List.sum_cons, List.length_cons]
      omega
  omega

theorem GOk.put {gs : List Grp} {P : List KL} (h : GOk gs P) (hn : P.length ≤ 300) (key : List UInt8) : ∀ g ∈ putG gs key, g.n ≤ 300 ∧ g.b ≤ 12000 ∧ -300000300 ≤ g.s ∧ g.s ≤ 300000300 :=
  fun g hg => tot_fit (h.inv.put key g hg) h.short hn

theorem GOk.fit {gs : List Grp} {P : List KL} (h : GOk gs P) (hn : P.length ≤ 300) : ∀ g ∈ gs, GFit g := by
  intro g hg
  have ht := h.inv.tot g hg
  refine ⟨?_, tot_fit ht h.short hn⟩
  obtain ⟨x, hx, e⟩ := (h.inv.mem g.key).1 ⟨g, hg, rfl⟩
  rw [ht.1]
  exact List.length_pos_iff_exists_mem.2 ⟨x, List.mem_filter.2 ⟨hx, by simp [e]⟩⟩

theorem pairK_len (kind key line : List UInt8) : (pairK kind key line).length ≤ 1 := by
  unfold pairK
  split <;> simp

theorem pairS_len (kind key : List UInt8) (lines : List Ln) : (pairS kind key lines).length ≤ lines.length := by
  unfold pairS
  induction lines with
  | nil => simp
  | cons y l ih =>
    have := pairK_len kind key y.2
    rw [List.flatMap_cons, List.length_append, List.length_cons]
    omega

theorem pairsL_len (kind by_ : List UInt8) (ss : List Src) : (pairsL kind by_ ss).length ≤ cntL ss := by
  unfold pairsL cntL
  induction ss with
  | nil => simp
  | cons s ss ih =>
    have := pairS_len kind (valueP by_ (cutL 44 s.lab)) s.lines
    rw [List.flatMap_cons, List.length_append, List.map_cons, List.sum_cons]
    omega

theorem cntL_take (ss : List Src) (k : Nat) (h : k < ss.length) : cntL (ss.take k) + ss[k].lines.length ≤ cntL ss := by
  unfold cntL
  induction ss generalizing k with
  | nil => simp at h
  | cons s ss ih =>
    cases k with
    | zero => simp
    | succ k =>
      have := ih k (by simpa using h)
      simp only [List.take_succ_cons, List.map_cons, List.sum_cons, List.getElem_cons_succ]
      omega

theorem pairs_lt (kind by_ key : List UInt8) (ss : List Src) (k j : Nat) (hc : cntL ss ≤ 300) (hk : k < ss.length) (hj : j < ss[k].lines.length) : (pairsL kind by_ (ss.take k) ++ pairS kind key (ss[k].lines.take j)).length ≤ 299 := by
  have h1 := pairsL_len kind by_ (ss.take k)
  have h2 := pairS_len kind key (ss[k].lines.take j)
  have h3 := cntL_take ss k hk
  rw [List.length_take] at h2
  rw [List.length_append]
  omega

theorem pairsL_snoc (kind by_ : List UInt8) (ss : List Src) (k : Nat) (hk : k < ss.length) : pairsL kind by_ (ss.take (k + 1)) = pairsL kind by_ (ss.take k) ++ pairS kind (valueP by_ (cutL 44 ss[k].lab)) ss[k].lines := by
  unfold pairsL
  rw [List.take_succ_eq_append_getElem hk, List.flatMap_append]
  simp

theorem pairS_snoc (kind key : List UInt8) (lines : List Ln) (j : Nat) (hj : j < lines.length) : pairS kind key (lines.take (j + 1)) = pairS kind key (lines.take j) ++ pairK kind key lines[j].2 := by
  unfold pairS
  rw [List.take_succ_eq_append_getElem hj, List.flatMap_append]
  simp

theorem perm_parts (ks : List (List UInt8)) : ∀ (T : List Rw), ks.Nodup → (∀ r ∈ T, r.1 ∈ ks) → T.Perm (ks.flatMap (fun k => T.filter (fun r => r.1 == k))) := by
  induction ks with
  | nil =>
    intro T _ h
    cases T with
    | nil => exact .refl _
    | cons r T => exact absurd (h r List.mem_cons_self) (by simp)
  | cons k ks ih =>
    intro T hnd h
    obtain ⟨hk, hnd⟩ := List.nodup_cons.1 hnd
    have h1 := ih (T.filter (fun r => !(r.1 == k))) hnd (fun r hr => by
      have hr' := List.mem_filter.1 hr
      rcases List.mem_cons.1 (h r hr'.1) with e | e
      · have := hr'.2
        simp [e] at this
      · exact e)
    have h2 : ks.flatMap (fun k' => (T.filter (fun r => !(r.1 == k))).filter (fun r => r.1 == k')) = ks.flatMap (fun k' => T.filter (fun r => r.1 == k')) := by
      rw [List.flatMap_def, List.flatMap_def]
      congr 1
      refine List.map_congr_left fun k' hk' => ?_
      rw [List.filter_filter]
      refine List.filter_congr fun r _ => ?_
      by_cases e : r.1 = k'
      · have hne : ¬ k' = k := fun e2 => hk (by rw [← e2]; exact hk')
        simp [e, hne]
      · simp [e]
    rw [h2] at h1
    rw [List.flatMap_cons]
    exact (List.filter_append_perm (fun r : Rw => r.1 == k) T).symm.trans (h1.append_left _)

theorem MInv.parts {T : List Rw} {ss : List Src} (h : MInv false T ss) : T.Perm (ss.flatMap (fun s => s.lines.map (rowR s.lab))) := by
  have h1 := perm_parts (ss.map (·.lab)) T h.nodup (fun r hr => by
    obtain ⟨s, hs, e⟩ := h.all r hr
    exact List.mem_map.2 ⟨s, hs, e⟩)
  have h2 : ((ss.map (·.lab)).map (fun k => T.filter (fun r => r.1 == k))) = ss.map (fun s => s.lines.map (rowR s.lab)) := by
    rw [List.map_map]
    exact List.map_congr_left (fun s hs => h.part s hs)
  rw [List.flatMap_def, h2] at h1
  rw [List.flatMap_def]
  exact h1

theorem pairS_sel (kind by_ key lab k : List UInt8) (lines : List Ln) (hkey : ∀ y, keyL by_ (rowR lab y) = key) :
    (selP (pairS kind key lines) k).map (fun x => x.2) = (((lines.map (rowR lab)).filter (fun r => keyL by_ r == k)).filter (inB kind)).map (fun r => r.2.2) := by
  induction lines with
  | nil => rfl
  | cons y lines ih =>
    unfold pairS selP at ih ⊢
    rw [List.flatMap_cons, List.filter_append, List.map_append, ih, List.map_cons, List.filter_cons, hkey y]
    unfold pairK
    by_cases e : (key == k) = true
    · rw [if_pos e, List.filter_cons]
      by_cases hm : kind = meanT ∧ numB y.2 = false
      · have hi : ¬ inB kind (rowR lab y) = true := by simp [inB, rowR, hm]
        rw [if_pos hm, if_neg hi]
        rfl
      · have hi : inB kind (rowR lab y) = true := by
          unfold inB rowR
          rw [decide_eq_false hm]
          rfl
        rw [if_neg hm, if_pos hi, List.map_cons, List.filter_cons, if_pos e]
        rfl
    · rw [if_neg e]
      split
      · rfl
      · rw [List.filter_cons, if_neg e]
        rfl

theorem pairsL_sel (kind by_ k : List UInt8) (ss : List Src) (hkey : ∀ s ∈ ss, ∀ y, keyL by_ (rowR s.lab y) = valueP by_ (cutL 44 s.lab)) :
    (selP (pairsL kind by_ ss) k).map (fun x => x.2) = (((ss.flatMap (fun s => s.lines.map (rowR s.lab))).filter (fun r => keyL by_ r == k)).filter (inB kind)).map (fun r => r.2.2) := by
  induction ss with
  | nil => rfl
  | cons s ss ih =>
    have ih' := ih fun x hx => hkey x (List.mem_cons_of_mem _ hx)
    have h1 := pairS_sel kind by_ _ s.lab k s.lines (hkey s List.mem_cons_self)
    unfold pairsL selP at ih' ⊢
    unfold selP at h1
    rw [List.flatMap_cons, List.filter_append, List.map_append, ih', h1, List.flatMap_cons, List.filter_append, List.filter_append, List.map_append]

theorem pairL_name {p : List UInt8} (h : (pairL p).2.2 = true) : (pairL p).1 ≠ [] := by
  intro e
  unfold pairL at h e
  split at h
  · rename_i a b hab
    rw [hab] at e
    simp only at e
    subst e
    simp [wordB] at h
  · simp at h

theorem valueL_none (L : List (List UInt8)) (h : ∀ p ∈ L, (pairL p).2.2 = true) : valueL [] L = [] := by
  induction L with
  | nil => rfl
  | cons x L ih =>
    have h1 := pairL_name (h x List.mem_cons_self)
    rw [valueL, if_neg (by simpa using h1), ih fun p hp => h p (List.mem_cons_of_mem _ hp)]

theorem labels_pairs {lab : List UInt8} (h : labelsB lab = true) : ∀ p ∈ cutL 44 lab, (pairL p).2.2 = true := by
  refine labelsGo_pairs _ true [] ?_
  unfold labelsB at h
  revert h
  cases labelsGo true [] (cutL 44 lab) <;> simp

theorem key_value {lab : List UInt8} (h : labelsB lab = true) (by_ : List UInt8) (y : Ln) : keyL by_ (rowR lab y) = valueP by_ (cutL 44 lab) := by
  rw [valueP_labels h]
  unfold keyL rowR
  split
  · rename_i e
    rw [e, valueL_none _ (labels_pairs h)]
  · rfl

/-- what is known of the sources -/
structure SrcFine (ss : List Src) : Prop where
  labs : ∀ s ∈ ss, labelsB s.lab = true ∧ s.lab.length ≤ 1048576
  lines : ∀ s ∈ ss, ∀ y ∈ s.lines, y.2.length ≤ 40
  cnt : cntL ss ≤ 300
  six : ss.length ≤ 6

theorem SrcFine.of {ps : List PA} {S : List Strm} {L : List Rw} (h : RelA ps S L) (hf : Fine S L) (q : Qry) (fr tt : Int) (ss : List Src) (hss : ss.map (fun s => (s.lab, s.lines)) = srcL q fr tt ps) : SrcFine ss := by
  have hmem : ∀ s ∈ ss, ∃ a ∈ ps, s.lab = a.1 ∧ s.lines = a.2.2.filter (lineB q fr tt) := by
    intro s hs
    have : (s.lab, s.lines) ∈ srcL q fr tt ps := by rw [← hss]; exact List.mem_map.2 ⟨s, hs, rfl⟩
    obtain ⟨a, ha, e⟩ := List.mem_map.1 this
    simp only [Prod.mk.injEq] at e
    exact ⟨a, (List.mem_filter.1 ha).1, e.1.symm, e.2.symm⟩
  refine ⟨?_, ?_, ?_, ?_⟩
  · intro s hs
    obtain ⟨a, ha, e1, -⟩ := hmem s hs
    rw [e1]
    exact hf.labs (a.1, a.2.1) ((h.mem _).2 ⟨a, ha, rfl⟩)
  · intro s hs y hy
    obtain ⟨a, ha, -, e2⟩ := hmem s hs
    rw [e2] at hy
    have hy := (List.mem_filter.1 hy).1
    rw [h.lines a ha] at hy
    obtain ⟨r, hr, rfl⟩ := List.mem_map.1 hy
    exact (hf.lines r (List.mem_filter.1 hr).1).1
  · have hp := (MInv.of_asked false h q fr tt ss hss).parts.length_eq
    have hl : (askedL q.ms q.fs fr tt L).length ≤ L.length := askedL_len _ _ _ _ _
    have hm := h.many
    have e : (ss.flatMap (fun s => s.lines.map (rowR s.lab))).length = cntL ss := by
      unfold cntL
      rw [List.length_flatMap]
      congr 1
      refine List.map_congr_left fun s _ => ?_
      rw [List.length_map]
    rw [e] at hp
    have hp' : (askedL q.ms q.fs fr tt L).length = cntL ss := hp
    omega
  · have h1 := congrArg List.length hss
    rw [List.length_map] at h1
    rw [h1, srcL, List.length_map]
    refine Nat.le_trans (List.length_filter_le _ _) ?_
    rw [← h.len]
    exact h.six

/-- the groups' samples are the document's -/
theorem meas_same {ps : List PA} {S : List Strm} {L : List Rw} (h : RelA ps S L) (hf : Fine S L) (q : Qry) (fr tt : Int) (ss : List Src) (hss : ss.map (fun s => (s.lab, s.lines)) = srcL q fr tt ps) (hk : measB q.meas = true) (gs : List Grp) (hg : GOk gs (pairsL q.meas q.by_ ss)) :
    smpsL q (askedL q.ms q.fs fr tt L) (keysL q.by_ (askedL q.ms q.fs fr tt L)) = gs.map (smpG q.meas q.span) := by
  have hsf := SrcFine.of h hf q fr tt ss hss
  have hpt : (askedL q.ms q.fs fr tt L).Perm (ss.flatMap (fun s => s.lines.map (rowR s.lab))) := (MInv.of_asked false h q fr tt ss hss).parts
  have hsel := fun k => pairsL_sel q.meas q.by_ k ss (fun s hs y => key_value (hsf.labs s hs).1 q.by_ y)
  generalize askedL q.ms q.fs fr tt L = T at *
  have hgr : ∀ k, ((selP (pairsL q.meas q.by_ ss) k).map (fun x => x.2)).Perm (((grpL q.by_ T k).filter (inB q.meas)).map (fun r => r.2.2)) := fun k => by
    rw [hsel k]
    exact (((hpt.filter _).filter _).map _).symm
  by_cases hm : q.meas = meanT
  · refine smps_mean hg.inv hm fun k => ?_
    have := hgr k
    have e : inB q.meas = fun r => numB r.2.2 := by
      funext r
      unfold inB
      cases hb : numB r.2.2 <;> simp [hm]
    rw [e] at this
    exact this
  · refine smps_plain hg.inv ?_ fun k => ?_
    · unfold measB at hk
      simp only [Bool.or_eq_true, beq_iff_eq] at hk
      rcases hk with ((e | e) | e) | e
      · exact .inl e
      · exact .inr (.inl e)
      · exact .inr (.inr e)
      · exact absurd e hm
    · have := hgr k
      rw [List.filter_eq_self.2 (fun r _ => by simp [inB, hm])] at this
      exact this

/-- a measure is one of four -/
theorem meas_kind (l : List UInt8) (h : ((parseL l).2.2.meas == []) = false) : measB (parseL l).2.2.meas = true := by
  have e : (parseL l).2.2 = (anyI (toks l 0)).2.2 := rfl
  rw [e] at h ⊢
  generalize toks l 0 = ts at *
  by_cases h0 : ((tokAt ts 0).k == 0) = true
  · have e0 : anyI ts = measI ts := by unfold anyI; rw [if_pos h0]
    rw [e0] at h ⊢
    by_cases h1 : ((tokAt ts 0).k == 0 && measB (tokAt ts 0).text) = false
    · unfold measI at h; rw [if_pos h1] at h; simp [emptyQ] at h
    · by_cases h2 : markB ts 1 [40] = false
      · unfold measI at h; rw [if_neg h1, if_pos h2] at h; simp [emptyQ] at h
      · by_cases h3 : (rowsI ts 2).2.1 = false
        · unfold measI at h; rw [if_neg h1, if_neg h2, if_pos h3] at h; simp [emptyQ] at h
        · by_cases h4 : (spanI ts (rowsI ts 2).1).2.1 = false
          · unfold measI at h; rw [if_neg h1, if_neg h2, if_neg h3, if_pos h4] at h; simp [emptyQ] at h
          · by_cases h5 : markB ts (spanI ts (rowsI ts 2).1).1 [41] = false
            · unfold measI at h; rw [if_neg h1, if_neg h2, if_neg h3, if_neg h4, if_pos h5] at h; simp [emptyQ] at h
            · unfold measI
              rw [if_neg h1, if_neg h2, if_neg h3, if_neg h4, if_neg h5]
              have h1' := h1
              rw [h0, Bool.true_and] at h1'
              simpa using h1'
  · unfold anyI at h
    rw [if_neg h0] at h
    simp at h

end Go.Proofs.YtbljamcdaoofbaaGreatDoor

/- The groups beside the sources, while lines come in. -/
namespace Go.Proofs.YtbljamcdaoofbaaGreatDoor
open Go.RowKit

/-- the groups lie at gb, what came in is P; nothing else that lay there has turned -/
def MW (w4 : World) (gb : Nat) (kind : List UInt8) (span : Nat) (P : List KL) (wr : World) : Prop :=
  ∃ vg gs, GroupsAt wr w4.heap.size gb kind span vg gs ∧ GOk gs P ∧ Moved (fun b => b = gb ∨ w4.heap.size ≤ b) w4 wr

theorem MW.start {w4 : World} {base gb : Nat} {kind : List UInt8} {span : Nat} (h : GroupsAt w4 base gb kind span (.slice none 0 0) []) : MW w4 gb kind span [] w4 :=
  ⟨_, [], ⟨h.block, World.ownsRow_nil _ _ _ _⟩, GOk.empty, Moved.refl _ _⟩

theorem MW.below {w4 wr w' : World} {gb : Nat} {kind : List UInt8} {span : Nat} {P : List KL} (h : MW w4 gb kind span P wr) (hb : Below wr.heap.size wr w') : MW w4 gb kind span P w' := by
  obtain ⟨vg, gs, h1, h2, h3⟩ := h
  exact ⟨vg, gs, h1.below hb, h2, h3.ofB hb⟩

theorem MW.block {w4 wr : World} {gb : Nat} {kind : List UInt8} {span : Nat} {P : List KL} (h : MW w4 gb kind span P wr) {b : Nat} (hb : b < w4.heap.size) (hne : b ≠ gb) : wr.heap[b]? = w4.heap[b]? := by
  obtain ⟨vg, gs, h1, h2, h3⟩ := h
  refine h3.block b hb ?_
  rintro (e | e)
  · exact hne e
  · omega

theorem MW.cell {w4 wr : World} {gb : Nat} {kind : List UInt8} {span : Nat} {P : List KL} (h : MW w4 gb kind span P wr) {a : Addr} (hb : a.block < w4.heap.size) (hne : a.block ≠ gb) : wr.cell? a = w4.cell? a :=
  World.cell?_of_block (h.block hb hne)

theorem MW.size {w4 wr : World} {gb : Nat} {kind : List UInt8} {span : Nat} {P : List KL} (h : MW w4 gb kind span P wr) : w4.heap.size ≤ wr.heap.size := by
  obtain ⟨vg, gs, h1, h2, h3⟩ := h
  exact h3.size

theorem MW.bel {w4 wr : World} {gb base : Nat} {kind : List UInt8} {span : Nat} {P : List KL} (h : MW w4 gb kind span P wr) (h1 : base ≤ gb) (h2 : gb < w4.heap.size) : Below base w4 wr := by
  obtain ⟨vg, gs, -, -, h3⟩ := h
  exact ⟨h3.os, h3.tape, h3.output, h3.size, fun b hb => h3.block b (by omega) (by rintro (e | e) <;> omega)⟩

theorem madd_any {w4 w : World} {gb : Nat} {kind : List UInt8} {span : Nat} {P : List KL} (key line : List UInt8) (h : MW w4 gb kind span P w) (hP : P.length ≤ 299) (hl : line.length ≤ 40) :
    Calls Tryz.prog 54 #[.pointer (some ⟨gb, 0, none⟩), .string ⟨key.toArray⟩, .string ⟨line.toArray⟩] w fun e w' => e = .returned (.tuple #[]) ∧ MW w4 gb kind span (P ++ pairK kind key line) w' := by
  obtain ⟨vg, gs, h1, h2, h3⟩ := h
  refine (gadd_any key line h1 h3.size (by have := h2.len; omega) h2.inv.rise hl (h2.put (by omega) key)).mono ?_
  rintro e w' ⟨rfl, vg', h1', hm⟩
  exact ⟨rfl, vg', _, h1', h2.add kind key line hl, h3.tr hm⟩

/-- lines of a source lie elsewhere -/
theorem lines_ne {w : World} {gb g o : Nat} {kind : List UInt8} {span : Nat} {s : Src} {ty : TypeId} (hb : w.heap[gb]? = some (.cells #[SV kind, .int .i64 span, .slice none 0 0] ty (0, 0))) (hn : s.lines ≠ []) (hc : ∀ j, j < s.lines.length * 2 → w.cell? ⟨g, o + j, none⟩ = (s.lines.flatMap cellsN)[j]?) : g ≠ gb := by
  rintro rfl
  cases hl : s.lines with
  | nil => exact hn hl
  | cons y ys =>
    rw [hl] at hc
    have h0 := hc 0 (by simp)
    have h1 := hc 1 (by simp; omega)
    simp [World.cell?, hb, cellsN] at h0 h1
    match o with
    | 0 => simp at h0
    | 1 => simp at h1
    | o + 2 => simp at h1

end Go.Proofs.YtbljamcdaoofbaaGreatDoor

/- The program's Measure. -/
namespace Go.Proofs.YtbljamcdaoofbaaGreatDoor
open Go.RowKit

theorem measE_check {l : List UInt8} {at_ : Int} (h1 : l.length ≤ 200) (h2 : (parseL l).2.1 = true) : measE l at_ = (checkME (parseL l).2.2 at_, 0) := by
  unfold measE checkME
  rw [if_neg (by omega), if_neg (by simp [h2])]
  repeat' split
  all_goals rfl

theorem checkME_ok {q : Qry} {at_ : Int} (h : checkME q at_ = 0) : (q.meas == []) = false ∧ 0 ≤ at_ ∧ at_ ≤ 1000000 := by
  unfold checkME at h
  split at h
  · cases h
  · rename_i hm
    split at h
    · cases h
    · rename_i ht
      refine ⟨by simpa using hm, ?_⟩
      simpa [timeB] using ht

/-- the lines of a source, where they lie -/
theorem src_open {w : World} {base : Nat} {s : Src} (h : OkSrc w base s) : ∃ ao cap, s.vl = .slice ao s.lines.length cap ∧ s.lines.length ≤ s.lines.length ∧ (s.lines ≠ [] → ∃ g o, ao = some ⟨g, o, none⟩ ∧ s.lines.length ≤ cap ∧ s.lines.length ≤ 300 ∧ cap ≤ maxLen ∧ g < base ∧ ∀ j, j < s.lines.length * 2 → w.cell? ⟨g, o + j, none⟩ = (s.lines.flatMap cellsN)[j]?) := by
  obtain ⟨⟨ao, cap, e⟩, hl⟩ := h
  refine ⟨ao, cap, e, Nat.le_refl _, fun hn => ?_⟩
  obtain ⟨g, o, cap', e', h2, hlm, h3, h5, h6⟩ := hl hn
  rw [e] at e'
  simp only [Value.slice.injEq, true_and] at e'
  obtain ⟨rfl, rfl⟩ := e'
  exact ⟨g, o, rfl, h2, hlm, h3, h5, h6⟩

set_option maxRecDepth 10000 in
set_option maxHeartbeats 4000000 in
theorem pMeas_any {w : World} {F : Nat → Prop} {p : Nat} {ns : List Node} {va : Value} {S : List Strm} {L : List Rw} (l : List UInt8) (at_ : Int) (h : StoreAt w F p ns va) (hrel : RelA (ns.map absN) S L) (hf : Fine S L) (hl : l.length ≤ 1048576) (hE : ErrAt w) (hG : MaxAt w) (h8 : 8 ≤ w.heap.size) :
    Calls Tryz.prog 28 #[.pointer (some ⟨p, 0, none⟩), .string ⟨l.toArray⟩, .int .i64 at_] w (MeasP3 w (measA l at_ L) (measE l at_).1 (measE l at_).2) := by
  have hrd := lread_any l w hl hE h8
  have HH := hide h
  have HREL := hide hrel
  have HFI := hide hf
  have HNF := hide (NodesFine.of hrel hf)
  have HG := hide hG
  clear h hrel hf hG hE
  go_enter Tryz.func28, Tryz.ntmps28
  go_wp2_with fail
  refine hrd.mono ?_
  rintro e w1 ⟨hb1, hlong, hgood, hbad⟩
  clear hrd
  have HB1 := hide hb1
  clear hb1
  by_cases h2 : 200 < l.length
  · have he := hlong h2
    subst he
    have HE := hide (show measE l at_ = (7, 0) by unfold measE; rw [if_pos h2])
    clear hlong hgood hbad
    go_wp2_with fail
    go_ret3
    exact MeasP3.ers (unhide HE) (by decide) (unhide HB1)
  · have h2' : l.length ≤ 200 := by omega
    cases hp : (parseL l).2.1 with
    | false =>
      have he := hbad h2' hp
      subst he
      have HE := hide (show measE l at_ = ((8 : Int), ((parseL l).1 : Int)) by unfold measE; rw [if_neg h2, if_pos hp])
      clear hlong hgood hbad
      go_wp2_with fail
      go_ret3
      exact MeasP3.ers (unhide HE) (by decide) (unhide HB1)
    | true =>
      obtain ⟨rb, vm, vf, he, hq⟩ := hgood h2' hp
      subst he
      have hce := measE_check (at_ := at_) h2' hp
      have hck := checkMeasure_any at_ hq
      have HQ := hide hq
      obtain ⟨-, -, s3⟩ := parse_small l h2'
      have HS3 := hide s3
      clear hlong hgood hbad hq s3
      go_wp2_with fail
      refine hck.mono ?_
      rintro e w2 ⟨rfl, rfl⟩
      clear hck
      by_cases hc : checkME (parseL l).2.2 at_ = 0
      · obtain ⟨hm0, ht1, ht2⟩ := checkME_ok hc
        obtain ⟨sp1, sp2⟩ := meas_span l hm0
        have HMK := hide (meas_kind l hm0)
        have HA := hide (show measA l at_ L = smpsL (parseL l).2.2 (askedL (parseL l).2.2.ms (parseL l).2.2.fs (at_ - (parseL l).2.2.span + 1) (at_ + 1) L) (keysL (parseL l).2.2.by_ (askedL (parseL l).2.2.ms (parseL l).2.2.fs (at_ - (parseL l).2.2.span + 1) (at_ + 1) L)) by unfold measA; rw [hce, hc, if_pos rfl])
        rw [hc] at hce
        have HE := hide hce
        clear hce hm0
        rw [hc]
        clear hc hp
        have hsz1 := (unhide HB1).size
        have hst1 := (unhide HH).keep (w' := w2) (fun b hb _ => (unhide HB1).block b hb)
        have HST := hide hst1
        have HMX := hide ((unhide HG).below h8 (unhide HB1))
        clear hst1 HH HG
        generalize hqq : (parseL l).2.2 = q at *
        have HQQ := hide hqq
        clear hqq
        obtain ⟨v0, hblk⟩ := (unhide HQ).block
        obtain ⟨-, c1, c2, c3, -, -, -⟩ := cell_of_block6 hblk
        have hrbw := (Array.getElem?_eq_some_iff.1 hblk).1
        have HBK := hide hblk
        clear hblk
        have hgn := gnew_any q.meas q.span w2.drew
        go_upto_region 7 with fail
        go_region_law (go_simp; go_at_call 52; refine hgn.mono ?_; rintro e w3 ⟨rfl, hG3, hb3⟩; dsimp only)
        all_goals
          have hb3' : Below w2.heap.size w2 w3 := ⟨hb3.os, hb3.tape, hb3.output, hb3.size, hb3.block⟩
          have HG3 : Hid (GroupsAt w3 w2.heap.size w2.heap.size q.meas q.span (.slice none 0 0) []) := hG3
          have HB3 := hide hb3'
          have d2 : w3.cell? ⟨rb, 2, none⟩ = some (.int .i64 q.span) := (hb3'.cell (p := ⟨rb, 2, none⟩) hrbw).trans c2
          have hsz3 := hb3'.size
          have hgb3 : w2.heap.size < w3.heap.size := (Array.getElem?_eq_some_iff.1 (unhide HG3).block).1
          have hso := sources_any (at_ - q.span + 1) (at_ + 1) ((unhide HST).keep (w' := w3) (fun b hb _ => hb3'.block b hb)) (unhide HNF) ((unhide HQ).below hb3') (unhide HS3) ((unhide HMX).below (by omega) hb3') (by omega)
          clear hgn hG3 hb3 hb3' c1 c2
          go_wp2_with fail
          refine hso.mono ?_
          rintro e w4 ⟨v4, srcs, rfl, hI4, hss⟩
          clear hso d2
          have hsf := SrcFine.of (unhide HREL) (unhide HFI) q _ _ srcs hss
          have hb4 := hI4.bel
          have hG4 := (unhide HG3).below hb4
          have hMW := MW.start hG4
          have hsz4 := hb4.size
          have e3 : w4.cell? ⟨rb, 3, none⟩ = some (SV q.by_) := (hb4.cell (p := ⟨rb, 3, none⟩) (by show rb < _; omega)).trans (((unhide HB3).cell (p := ⟨rb, 3, none⟩) hrbw).trans c3)
          have hoks := hI4.oks
          obtain ⟨ao, cap, rfl, hnc, hcm, hnil, hao, hcell, -⟩ := owns_form hI4.row
          have hgne : ∀ a, ao = some a → a.block ≠ w2.heap.size := fun a ha => by
            have := (hI4.row.lt a.block (by rw [ha]; rfl)).1
            omega
          have h6 := hsf.six
          have HSS := hide hss
          have HSF := hide hsf
          have HB4 := hide hb4
          have HG4 := hide hG4.block
          have HMW := hide hMW
          have HOK := hide hoks
          have HN := hide hnil
          have HAO := hide hao
          have HC := hide hcell
          have HGN := hide hgne
          clear hss hsf hb4 hG4 hMW hoks hnil hao hcell hgne hI4 c3
          go_wp2_with fail
          go_loopw [57] (fun i wr => ∃ k : Nat, k ≤ srcs.length ∧ i = .int .i64 k ∧ Hid (MW w4 w2.heap.size q.meas q.span (pairsL q.meas q.by_ (srcs.take k)) wr)) (fun i _ => srcs.length - (intOf i).toNat)
          case atStart => exact ⟨0, Nat.zero_le _, rfl, HMW⟩
          case round =>
            clear HMW
            obtain ⟨k, hk, rfl, HM⟩ := hrel
            by_cases hlt : k < srcs.length
            · obtain ⟨⟨g, o, sp⟩, rfl⟩ : ∃ a, ao = some a := by
                cases ao with
                | none => have := (unhide HN rfl).1; omega
                | some a => exact ⟨a, rfl⟩
              obtain ⟨ho, hsp, -, hgw⟩ := unhide HAO _ rfl
              simp only at ho hsp hgw
              subst ho hsp
              have hgn2 : g ≠ w2.heap.size := unhide HGN ⟨g, 0, none⟩ rfl
              obtain ⟨e0, e1⟩ := cellsQ_at srcs k hlt
              have m0 := (((unhide HM).cell (a := ⟨g, k * 2, none⟩) hgw hgn2).trans (unhide HC _ rfl _ (by omega))).trans e0
              have m1 := (((unhide HM).cell (a := ⟨g, k * 2 + 1, none⟩) hgw hgn2).trans (unhide HC _ rfl _ (by omega))).trans e1
              have m3 : wr.cell? ⟨rb, 3, none⟩ = some (SV q.by_) := ((unhide HM).cell (a := ⟨rb, 3, none⟩) (by show rb < _; omega) (by show rb ≠ _; omega)).trans e3
              clear e0 e1
              have hlab := (unhide HSF).labs _ (List.getElem_mem hlt)
              have hlin := (unhide HSF).lines _ (List.getElem_mem hlt)
              have HPL := hide (pairsL_snoc q.meas q.by_ srcs k hlt)
              have HLT := hide (fun j hj => pairs_lt q.meas q.by_ (valueP q.by_ (cutL 44 srcs[k].lab)) srcs k j (unhide HSF).cnt hlt hj)
              obtain ⟨al, cl, hvl, -, hln⟩ := src_open (unhide HOK _ (List.getElem_mem hlt))
              rw [hvl] at m1
              have HLN := hide hln
              have hszr := (unhide HM).size
              clear hvl hln
              generalize srcs[k] = s at *
              obtain ⟨lab, lines, vl⟩ := s
              simp only at m0 m1 hlab hlin HPL HLT HLN
              generalize pairsL q.meas q.by_ (srcs.take k) = P at *
              go_upto_region 11 with fail
              have hbx : Below wr.heap.size wr (wr.alloc (.cells #[SV lab, .slice al lines.length cl] 105)) := (Below.refl _ wr).alloc (Nat.le_refl _) _
              have hbox := heap_alloc_new wr (.cells #[SV lab, .slice al lines.length cl] 105)
              have hM1 := (unhide HM).below hbx
              have hszW : wr.heap.size < (wr.alloc (.cells #[SV lab, .slice al lines.length cl] 105)).heap.size := by simp
              have n3 : (wr.alloc (.cells #[SV lab, .slice al lines.length cl] 105)).cell? ⟨rb, 3, none⟩ = some (SV q.by_) := (hbx.cell (p := ⟨rb, 3, none⟩) (by show rb < _; omega)).trans m3
              obtain ⟨x0, x1, -⟩ := cell_of_block2 hbox
              have HM1 := hide hM1
              clear hbx hbox hM1 HM m0 m1 m3
              generalize wr.alloc (.cells #[SV lab, .slice al lines.length cl] 105) = W at *
              generalize wr.heap.size = bx at *
              have hva := pvalue_in lab q.by_ W.drew hlab.2
              go_region_law (go_simp; go_at_call 53; refine hva.mono ?_; rintro e w5 ⟨rfl, hb5⟩; dsimp only)
              all_goals
                have hb5' : Below W.heap.size W w5 := ⟨hb5.os, hb5.tape, hb5.output, hb5.size, hb5.block⟩
                have y1 := (hb5'.cell (p := ⟨bx, 1, none⟩) hszW).trans x1
                have HM5 := hide ((unhide HM1).below hb5')
                clear hva hb5 hb5' x0 x1 n3 HM1
                generalize valueP q.by_ (cutL 44 lab) = key at *
                go_wp2_with fail
                rename World => wA
                go_loopw [71] (fun i wr => ∃ j : Nat, j ≤ lines.length ∧ i = .int .i64 j ∧ Hid (MW w4 w2.heap.size q.meas q.span (P ++ pairS q.meas key (lines.take j)) wr)) (fun i _ => lines.length - (intOf i).toNat)
                case atStart => exact ⟨0, Nat.zero_le _, rfl, hide (by rw [List.take_zero, show pairS q.meas key [] = [] from rfl, List.append_nil]; exact unhide HM5)⟩
                case round =>
                  clear HM5 y1
                  obtain ⟨j, hj, rfl, HMj⟩ := hrel
                  by_cases hjl : j < lines.length
                  · have hne : lines ≠ [] := by rintro rfl; simp at hjl
                    obtain ⟨gl, ol, rfl, hlc, hl3, hlm, hgl, hcl⟩ := unhide HLN hne
                    have hgln := lines_ne (s := ⟨lab, lines, vl⟩) (unhide HG4) hne hcl
                    obtain ⟨f0, f1⟩ := cellsN_at lines j hjl
                    have l0 := (((unhide HMj).cell (a := ⟨gl, ol + j * 2, none⟩) hgl hgln).trans (hcl (j * 2) (by omega))).trans f0
                    have l1 := (((unhide HMj).cell (a := ⟨gl, ol + j * 2 + 1, none⟩) hgl hgln).trans (hcl (j * 2 + 1) (by omega))).trans f1
                    have hlj := hlin lines[j] (List.getElem_mem hjl)
                    have HPS := hide (pairS_snoc q.meas key lines j hjl)
                    have hPl := unhide HLT j hjl
                    unfold maxLen at hlm
                    clear f0 f1 hcl
                    generalize lines[j] = ln at *
                    obtain ⟨lt, lx⟩ := ln
                    simp only at l0 l1 hlj HPS
                    have hbl : ∀ wX : World, Below wX.heap.size wX (wX.alloc (.cells #[.int .i64 lt, SV lx] 108)) := fun wX => (Below.refl _ wX).alloc (Nat.le_refl _) _
                    go_wp2_with fail
                    refine (madd_any key lx ((unhide HMj).below (hbl _)) hPl hlj).mono ?_
                    rintro e w6 ⟨rfl, hM6⟩
                    have HM6 := hide (show MW w4 w2.heap.size q.meas q.span (P ++ pairS q.meas key (lines.take (j + 1))) w6 from by
                      rw [unhide HPS, ← List.append_assoc]
                      exact hM6)
                    clear hM6 l0 l1
                    go_wp2_with fail
                    go_roundw
                    case rel => exact ⟨j + 1, by omega, by go_num, HM6⟩
                    case measure => simp [intOf]; omega
                  · have HMk := hide (show MW w4 w2.heap.size q.meas q.span (pairsL q.meas q.by_ (srcs.take (k + 1))) _ from by
                      have h1 := unhide HMj
                      rw [List.take_of_length_le (by omega)] at h1
                      rw [unhide HPL]
                      exact h1)
                    go_wp2_with fail
                    go_roundw
                    case rel => exact ⟨k + 1, by omega, by go_num, HMk⟩
                    case measure => simp [intOf]; omega
            · have hks : k = srcs.length := by omega
              subst hks
              obtain ⟨vg, gs, hGs, hOk, hMv⟩ := unhide HM
              rw [List.take_length] at hOk
              have hPn := Nat.le_trans (pairsL_len q.meas q.by_ srcs) (unhide HSF).cnt
              have hsm := samples_any hGs (by omega) (by omega) (by have := hOk.len; omega) (hOk.fit hPn)
              have HMS := hide (meas_same (unhide HREL) (unhide HFI) q _ _ srcs (unhide HSS) (unhide HMK) gs hOk)
              have HBR := hide ((unhide HM).bel (base := w2.heap.size) (Nat.le_refl _) (by omega))
              clear hGs hOk hMv
              go_wp2_with fail
              refine hsm.mono ?_
              rintro e w7 ⟨v7, rfl, hown7, hb7⟩
              clear hsm
              have HF := hide (show MeasP3 w (measA l at_ L) (measE l at_).1 (measE l at_).2 (.returned (.tuple #[v7, .int .i64 0, .int .i64 0])) w7 from by
                rw [unhide HE, unhide HA, unhide HMS]
                have hb23 := (unhide HB1).trans ((unhide HB3).mono hsz1)
                have hb24 := hb23.trans ((unhide HB4).mono hb23.size)
                have hb2r := hb24.trans ((unhide HBR).mono hsz1)
                refine ⟨v7, rfl, ?_, hb2r.trans (hb7.mono hb2r.size)⟩
                rw [List.length_map]
                exact ownsRow_base hown7 hb2r.size)
              clear hown7 hb7
              go_wp2_with fail
              go_ret3
              exact unhide HF
      · have HE := hide hce
        have HC := hide hc
        have hcb : (checkME (parseL l).2.2 at_ == 0) = false := by simpa using hc
        clear hce
        generalize checkME (parseL l).2.2 at_ = er at *
        go_wp2_with fail
        go_ret3
        exact MeasP3.ers (unhide HE) (unhide HC) (unhide HB1)

end Go.Proofs.YtbljamcdaoofbaaGreatDoor
