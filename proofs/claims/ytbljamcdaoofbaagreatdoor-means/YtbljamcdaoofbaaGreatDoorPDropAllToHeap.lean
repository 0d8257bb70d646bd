/- Texts PDropAll, Rel, Heap, joined. -/
import Derived.Test.YtbljamcdaoofbaaGreatDoorPStreamsToPDrop
/- The program's Drop over all its streams. -/
namespace Go.Proofs.YtbljamcdaoofbaaGreatDoor
open Go.RowKit

/-- a stream without the lines below a time -/
def cutN (b : Int) (n : PA) : PA := (n.1, n.2.1, n.2.2.filter (fun x => decide (b ≤ x.1)))

def goneAll (ns : List Node) (b : Int) : Nat := (ns.map (fun n => goneN n.lines b)).sum

theorem goneAll_snoc (ns : List Node) (b : Int) (k : Nat) (h : k < ns.length) : goneAll (ns.take (k + 1)) b = goneAll (ns.take k) b + goneN ns[k].lines b := by
  unfold goneAll
  rw [List.take_succ_eq_append_getElem h, List.map_append, List.sum_append]
  simp
theorem goneN_le (ls : List Ln) (b : Int) : goneN ls b ≤ ls.length := List.length_filter_le _ _
theorem goneAll_le (ns : List Node) (b : Int) : goneAll ns b ≤ total ns := by
  induction ns with
  | nil => simp [goneAll, total]
  | cons n ns ih =>
    have := goneN_le n.lines b
    simp only [goneAll, total, List.map_cons, List.sum_cons] at ih ⊢
    omega

def dropI (ns : List Node) (b : Int) : Int := if timeB b = true then (goneAll ns b : Int) else 0
def dropE (b : Int) : Int := if timeB b = true then 0 else 2
def dropA (ns : List Node) (b : Int) : List PA := if timeB b = true then (ns.map absN).map (cutN b) else ns.map absN
theorem drop_no {b : Int} (h : timeB b = false) (ns : List Node) : dropI ns b = 0 ∧ dropE b = 2 ∧ dropA ns b = ns.map absN := by simp [dropI, dropE, dropA, h]
theorem drop_yes {b : Int} (h : timeB b = true) (ns : List Node) : dropI ns b = goneAll ns b ∧ dropE b = 0 ∧ dropA ns b = (ns.map absN).map (cutN b) := by simp [dropI, dropE, dropA, h]
theorem ret_two {a b c d : Int} (h1 : a = c) (h2 : b = d) : Ending.returned (.tuple #[.int .i64 a, .int .i64 b]) = .returned (.tuple #[.int .i64 c, .int .i64 d]) := by rw [h1, h2]

theorem cut_step (X Y : List PA) (f : PA → PA) (k : Nat) (h : k < X.length) (hY : Y = (X.take k).map f ++ X.drop k) : Y[k]? = some X[k] ∧ Y.set k (f X[k]) = (X.take (k + 1)).map f ++ X.drop (k + 1) := by
  have hl : ((X.take k).map f).length = k := by simp; omega
  rw [hY, List.drop_eq_getElem_cons h]
  constructor
  · rw [List.getElem?_append_right (by omega), hl, Nat.sub_self]
    rfl
  · rw [List.set_append_right _ _ (by omega), hl, Nat.sub_self, List.set_cons_zero, List.take_succ_eq_append_getElem h, List.map_append]
    simp

set_option maxRecDepth 10000 in
set_option maxHeartbeats 4000000 in
theorem drop_any {w : World} {F : Nat → Prop} {p : Nat} {ns : List Node} {va : Value} (b : Int) (h : StoreAt w F p ns va) (hn : ns.length ≤ 6) (ht : total ns ≤ 300) (hs : ∀ n ∈ ns, InOrder n.lines) :
    Calls Tryz.prog 22 #[.pointer (some ⟨p, 0, none⟩), .int .i64 b] w fun e w' =>
      e = .returned (.tuple #[.int .i64 (dropI ns b), .int .i64 (dropE b)]) ∧ (∃ ns' va', StoreAt w' (Plus F w) p ns' va' ∧ ns'.map absN = dropA ns b) ∧ Moved F w w' := by
  obtain ⟨ao, cap, rfl, hnc, hcm, hnil, hao, hcell, hfz⟩ := owns_form h.row
  obtain ⟨c0, fz⟩ := cell_of_block1 h.block
  have HN := hide hnil
  have HH := hide h
  have HS := hide hs
  clear hnil hao hcell hfz fz h hs
  go_enter Tryz.func22, Tryz.ntmps22
  go_wp2_with fail
  refine (isTime_any b _).mono ?_
  rintro e w1 ⟨rfl, rfl⟩
  cases hb : timeB b with
  | false =>
    have HB := hide (drop_no hb ns)
    clear hb
    go_wp2
    go_ret2
    exact ⟨ret_two (unhide HB).1.symm (unhide HB).2.1.symm, ⟨ns, _, (unhide HH).weaken (fun _ hf => .inl hf), (unhide HB).2.2.symm⟩, Moved.refl _ _⟩
  | true =>
    have HB := hide (drop_yes hb ns)
    clear hb
    go_wp2
    go_loopw [6, 17] (fun s i wr => ∃ (k : Nat) (ns' : List Node), k ≤ ns.length ∧ i = .int .i64 k ∧ s = .int .i64 (goneAll (ns.take k) b) ∧ StoreAt wr (Plus F w1) p ns' (.slice ao ns.length cap) ∧ ns'.length = ns.length ∧
        (∀ j (h1 : j < ns.length) (h2 : j < ns'.length), k ≤ j → ns'[j].lines = ns[j].lines) ∧ ns'.map absN = ((ns.map absN).take k).map (cutN b) ++ (ns.map absN).drop k ∧ Moved F w1 wr) (fun _ i _ => ns.length - (intOf i).toNat)
    case atStart => exact ⟨0, ns, by omega, rfl, rfl, (unhide HH).weaken (fun _ hf => .inl hf), rfl, fun _ _ _ _ => rfl, by simp, Moved.refl _ _⟩
    case round =>
      obtain ⟨k, ns', hk, rfl, rfl, hst, hlen, hls, habs, hmv⟩ := hrel
      have HST := hide hst
      have HLS := hide hls
      have HAB := hide habs
      have HMV := hide hmv
      clear hls habs hmv
      by_cases hlt : k < ns.length
      · obtain ⟨ao', cap', he, -, -, hnil', hao', hcell', -⟩ := owns_form hst.row
        rw [hlen] at he
        simp only [Value.slice.injEq, true_and] at he
        obtain ⟨rfl, rfl⟩ := he
        obtain ⟨⟨g, o, sp⟩, rfl⟩ : ∃ a, ao = some a := by
          cases ao with
          | none => have := (unhide HN rfl).1; omega
          | some a => exact ⟨a, rfl⟩
        obtain ⟨ho, hsp, -, hgw⟩ := hao' _ rfl
        simp only at ho hsp hgw
        subst ho hsp
        have hlt' : k < ns'.length := by omega
        have hc := hcell' _ rfl k (by omega)
        rw [ptr_at hlt'] at hc
        have hN := (unhide HST).nodes _ (List.getElem_mem hlt')
        have hlk := unhide HLS k hlt hlt' (Nat.le_refl _)
        have hll : ns'[k].lines.length ≤ 300 := by
          rw [hlk]
          exact Nat.le_trans (total_le ns _ (List.getElem_mem hlt)) ht
        have hio : InOrder ns'[k].lines := by rw [hlk]; exact unhide HS _ (List.getElem_mem hlt)
        have HND := hide hN
        have HLK := hide hlk
        have hg1 := goneAll_le (ns.take k) b
        have hg2 := goneAll_le (ns.take (k + 1)) b
        have hg3 := total_take ns k
        have hg4 := total_take ns (k + 1)
        rw [goneAll_snoc ns b k hlt] at hg2
        have hg5 : goneN ns'[k].lines b = goneN ns[k].lines b := by rw [hlk]
        have HG5 := hide hg5
        have hg6 : goneAll (ns.take k) b + goneN ns'[k].lines b ≤ 300 := by rw [hg5]; omega
        clear hN hlk hcell' hao' hnil' hst hg5 hg2
        go_wp2_with (go_at_call 44; refine (sDrop_any b (unhide HND) hll hio).mono ?_; rintro e w4 ⟨rfl, v4, hN4, hv4, hm4⟩)
        go_roundw
        case rel =>
          have hst4 := (unhide HST).set hlt' hN4 rfl hv4 hm4
          have hsz := (unhide HMV).size
          refine ⟨k + 1, _, by omega, by go_num, ?_, hst4.weaken ?_, by simpa using hlen, ?_, ?_, ?_⟩
          · rw [goneAll_snoc ns b k hlt, unhide HG5]; go_num
          · rintro c ((hc | hc) | hc)
            · exact .inl hc
            · exact .inr hc
            · exact .inr (by omega)
          · intro j h1 h2 hkj
            rw [List.length_set] at h2
            rw [List.getElem_set, if_neg (by omega)]
            exact unhide HLS j h1 h2 (by omega)
          · have hX : k < (ns.map absN).length := by simpa using hlt
            obtain ⟨hx1, hx2⟩ := cut_step (ns.map absN) (ns'.map absN) (cutN b) k hX (unhide HAB)
            rw [List.map_set, ← hx2]
            have hx3 : absN ns'[k] = (ns.map absN)[k] := by
              rw [List.getElem?_map, List.getElem?_eq_getElem hlt', Option.map_some] at hx1
              exact Option.some.inj hx1
            rw [← hx3]
            rfl
          · refine (unhide HMV).trans hm4 ?_
            intro c hc
            have hin := (unhide HST).inN _ (List.getElem_mem hlt')
            rcases hc with rfl | hc
            · exact hin.1
            · exact hin.2 c hc
        case measure => simp [intOf]; omega
      · go_wp2
        go_ret2
        refine ⟨ret_two ?_ (unhide HB).2.1.symm, ⟨ns', _, unhide HST, ?_⟩, unhide HMV⟩
        · rw [List.take_of_length_le (by omega), (unhide HB).1]
        · rw [(unhide HB).2.2, unhide HAB, List.take_of_length_le (by simp; omega), List.drop_of_length_le (by simp; omega)]
          simp

end Go.Proofs.YtbljamcdaoofbaaGreatDoor

/- The program's state and the reference's: what ties them, and that each call keeps it. -/
namespace Go.Proofs.YtbljamcdaoofbaaGreatDoor

theorem less_total : ∀ (a b : List UInt8), Op.bytesLess a b = false → a = b ∨ Op.bytesLess b a = true
  | [], [], _ => .inl rfl
  | [], _ :: _, h => by simp [Op.bytesLess] at h
  | _ :: _, [], _ => .inr rfl
  | x :: a, y :: b, h => by
    simp only [Op.bytesLess, Bool.or_eq_false_iff, Bool.and_eq_false_iff, decide_eq_false_iff_not, beq_eq_false_iff_ne] at h
    obtain ⟨h1, h2⟩ := h
    by_cases e : x = y
    · subst e
      rcases h2 with h2 | h2
      · exact absurd rfl h2
      · rcases less_total a b h2 with rfl | h3
        · exact .inl rfl
        · right; simp [Op.bytesLess, h3]
    · right
      have hlt : y < x := by
        have h1' : ¬ x.toNat < y.toNat := h1
        have e' : x.toNat ≠ y.toNat := fun hh => e (UInt8.toNat_inj.1 hh)
        show y.toNat < x.toNat
        omega
      simp [Op.bytesLess, hlt]

theorem less_ne {a b : List UInt8} (h : Op.bytesLess a b = true) : a ≠ b := by
  rintro rfl
  rw [less_irrefl] at h
  cases h
theorem less_asymm {a b : List UInt8} (h : Op.bytesLess a b = true) : Op.bytesLess b a = false := by
  rw [Bool.eq_false_iff]
  intro h'
  have := less_trans h h'
  rw [less_irrefl] at this
  cases this

/-- texts that rise -/
def Ris (l : List (List UInt8)) : Prop := l.Pairwise (fun a b => Op.bytesLess a b = true)

theorem ris_ext : ∀ {a b : List (List UInt8)}, Ris a → Ris b → (∀ x, x ∈ a ↔ x ∈ b) → a = b
  | [], [], _, _, _ => rfl
  | [], y :: b, _, _, h => by have := (h y).2 (by simp); simp at this
  | x :: a, [], _, _, h => by have := (h x).1 (by simp); simp at this
  | x :: a, y :: b, ha, hb, h => by
    have ha' := List.pairwise_cons.1 ha
    have hb' := List.pairwise_cons.1 hb
    have hxy : x = y := by
      have h1 := (h x).1 (by simp)
      have h2 := (h y).2 (by simp)
      rcases List.mem_cons.1 h1 with e | e
      · exact e
      · rcases List.mem_cons.1 h2 with e2 | e2
        · exact e2.symm
        · have l1 := hb'.1 x e
          have l2 := ha'.1 y e2
          have := less_asymm l1
          rw [l2] at this
          cases this
    subst hxy
    rw [ris_ext ha'.2 hb'.2 (fun z => ?_)]
    constructor
    · intro hz
      have := (h z).1 (List.mem_cons_of_mem _ hz)
      rcases List.mem_cons.1 this with e | e
      · subst e
        have := ha'.1 z hz
        rw [less_irrefl] at this; cases this
      · exact e
    · intro hz
      have := (h z).2 (List.mem_cons_of_mem _ hz)
      rcases List.mem_cons.1 this with e | e
      · subst e
        have := hb'.1 z hz
        rw [less_irrefl] at this; cases this
      · exact e

/-- into rising texts, at the place -/
theorem ris_ins {l : List (List UInt8)} {s : List UInt8} {k : Nat} (h : Ris l) (h1 : ∀ x ∈ l.take k, Op.bytesLess x s = true) (h2 : ∀ x ∈ l.drop k, Op.bytesLess s x = true) : Ris (l.take k ++ [s] ++ l.drop k) := by
  unfold Ris at h ⊢
  rw [← List.take_append_drop k l, List.pairwise_append] at h
  rw [List.append_assoc, List.pairwise_append]
  refine ⟨h.1, ?_, ?_⟩
  · rw [List.singleton_append, List.pairwise_cons]
    exact ⟨h2, h.2.1⟩
  · intro a ha b hb
    rw [List.singleton_append, List.mem_cons] at hb
    rcases hb with rfl | hb
    · exact h1 a ha
    · exact h.2.2 a ha b hb

theorem mem_ins {α : Type} (l : List α) (s x : α) (k : Nat) : x ∈ l.take k ++ [s] ++ l.drop k ↔ x = s ∨ x ∈ l := by
  conv => rhs; rw [← List.take_append_drop k l]
  simp only [List.mem_append, List.mem_singleton]
  constructor
  · rintro ((h | h) | h)
    · exact .inr (.inl h)
    · exact .inl h
    · exact .inr (.inr h)
  · rintro (h | h | h)
    · exact .inl (.inr h)
    · exact .inl (.inl h)
    · exact .inr h

/-- where a text is put: all ahead of it are less, none behind it is -/
theorem putK_spec {l : List (List UInt8)} (s : List UInt8) (h : Ris l) : ∀ k, k ≤ l.length → (∀ j (hj : j < l.length), j < putK l s k → Op.bytesLess l[j] s = true) ∧ (∀ j (hj : j < l.length), putK l s k ≤ j → j < k → Op.bytesLess l[j] s = false)
  | 0, _ => ⟨fun j _ hk => by simp [putK] at hk, fun j _ _ hk => by omega⟩
  | k + 1, hk => by
    have ih := putK_spec s h k (by omega)
    have hk' : k < l.length := by omega
    have hd : l.getD k [] = l[k] := by simp [hk']
    rw [putK_succ, hd]
    split
    · rename_i hless
      refine ⟨fun j hj hjk => ?_, fun j hj h1 h2 => by omega⟩
      rcases Nat.lt_or_eq_of_le (Nat.le_of_lt_succ hjk) with g | rfl
      · exact less_trans (List.pairwise_iff_getElem.1 h j k hj hk' g) hless
      · exact hless
    · rename_i hless
      refine ⟨ih.1, fun j hj h1 h2 => ?_⟩
      by_cases e : j = k
      · subst e; simpa using hless
      · exact ih.2 j hj h1 (by omega)

theorem putL_ris {l : List (List UInt8)} (s : List UInt8) (h : Ris l) : Ris (putL l s) ∧ ∀ x, x ∈ putL l s ↔ x = s ∨ x ∈ l := by
  unfold putL
  split
  · rename_i hc
    have hm : s ∈ l := by simpa using hc
    refine ⟨h, fun x => ⟨fun hx => .inr hx, ?_⟩⟩
    rintro (rfl | hx)
    · exact hm
    · exact hx
  · rename_i hc
    have hm : s ∉ l := by simpa using hc
    have hp := putK_spec s h l.length (Nat.le_refl _)
    refine ⟨ris_ins h ?_ ?_, fun x => mem_ins l s x _⟩
    · intro x hx
      obtain ⟨j, hj, rfl⟩ := List.getElem_of_mem hx
      simp only [List.length_take] at hj
      rw [List.getElem_take]
      exact hp.1 j (by omega) (show j < putAt l s by omega)
    · intro x hx
      obtain ⟨j, hj, rfl⟩ := List.getElem_of_mem hx
      simp only [List.length_drop] at hj
      rw [List.getElem_drop]
      have hf := hp.2 (putAt l s + j) (by omega) (by show putAt l s ≤ _; omega) (by omega)
      rcases less_total _ _ hf with e | e
      · exact absurd (e ▸ List.getElem_mem _) hm
      · exact e

theorem streams_ris (S : List Strm) : ∀ l, Ris l → Ris (S.foldl (fun l x => putL l x.1) l) ∧ ∀ x, x ∈ S.foldl (fun l x => putL l x.1) l ↔ x ∈ l ∨ ∃ y ∈ S, y.1 = x := by
  induction S with
  | nil => intro l h; exact ⟨h, fun x => by simp⟩
  | cons y S ih =>
    intro l h
    rw [List.foldl_cons]
    obtain ⟨h1, h2⟩ := putL_ris y.1 h
    obtain ⟨h3, h4⟩ := ih _ h1
    refine ⟨h3, fun x => ?_⟩
    rw [h4, h2]
    constructor
    · rintro ((e | e) | ⟨z, hz, e⟩)
      · exact .inr ⟨y, by simp, e.symm⟩
      · exact .inl e
      · exact .inr ⟨z, List.mem_cons_of_mem _ hz, e⟩
    · rintro (e | ⟨z, hz, e⟩)
      · exact .inl (.inr e)
      · rcases List.mem_cons.1 hz with rfl | hz
        · exact .inl (.inl e.symm)
        · exact .inr ⟨z, hz, e⟩

/-- What ties the program's streams to the reference's streams and lines. -/
structure RelA (ps : List PA) (S : List Strm) (L : List Rw) : Prop where
  ris : Ris (ps.map (·.1))
  uniq : (S.map (·.1)).Nodup
  len : S.length = ps.length
  mem : ∀ y : Strm, y ∈ S ↔ ∃ a ∈ ps, (a.1, a.2.1) = y
  lines : ∀ a ∈ ps, a.2.2 = (L.filter (fun r => r.1 == a.1)).map (fun r => (r.2.1, r.2.2))
  all : ∀ r ∈ L, ∃ a ∈ ps, a.1 = r.1
  late : ∀ a ∈ ps, ∀ x ∈ a.2.2, x.1 ≤ a.2.1
  order : ∀ a ∈ ps, InOrder a.2.2
  six : S.length ≤ 6
  many : L.length ≤ 300

theorem RelA.streams {ps : List PA} {S : List Strm} {L : List Rw} (h : RelA ps S L) : ps.map (·.1) = streamsR S := by
  obtain ⟨h1, h2⟩ := streams_ris S [] List.Pairwise.nil
  refine ris_ext h.ris h1 fun x => ?_
  rw [streamsR, h2]
  constructor
  · intro hx
    obtain ⟨a, ha, rfl⟩ := List.mem_map.1 hx
    exact .inr ⟨(a.1, a.2.1), (h.mem _).2 ⟨a, ha, rfl⟩, rfl⟩
  · rintro (hx | ⟨y, hy, rfl⟩)
    · simp at hx
    · obtain ⟨a, ha, rfl⟩ := (h.mem y).1 hy
      exact List.mem_map.2 ⟨a, ha, rfl⟩

end Go.Proofs.YtbljamcdaoofbaaGreatDoor

/- A heap in a list: what up and down do, for every order. -/
namespace Go.Proofs.YtbljamcdaoofbaaGreatDoor

section
variable {α : Type} (lt : α → α → Bool) (d : α)

structure Ord : Prop where
  irrefl : ∀ a, lt a a = false
  asymm : ∀ a b, lt a b = true → lt b a = false
  trans : ∀ a b c, lt a b = false → lt b c = false → lt a c = false

def swapL (l : List α) (i j : Nat) : List α := (l.set i (l.getD j d)).set j (l.getD i d)

variable {d}
theorem getD_set (l : List α) (i k : Nat) (a : α) (hi : i < l.length) : (l.set i a).getD k d = if k = i then a else l.getD k d := by
  simp only [List.getD_eq_getElem?_getD, List.getElem?_set]
  by_cases h : i = k
  · subst h; simp [hi]
  · rw [if_neg h, if_neg (fun e => h e.symm)]

theorem swapL_len (l : List α) (i j : Nat) : (swapL d l i j).length = l.length := by simp [swapL]

theorem swapL_get {l : List α} {i j : Nat} (hi : i < l.length) (hj : j < l.length) (k : Nat) : (swapL d l i j).getD k d = if k = j then l.getD i d else if k = i then l.getD j d else l.getD k d := by
  unfold swapL
  rw [getD_set _ _ _ _ (by simpa using hj)]
  by_cases h : k = j
  · rw [if_pos h, if_pos h]
  · rw [if_neg h, if_neg h, getD_set _ _ _ _ hi]

theorem perm_set_swap (l : List α) : ∀ (i j : Nat), i < j → j < l.length → (swapL d l i j).Perm l := by
  induction l with
  | nil => intro i j _ h; simp at h
  | cons x l ih =>
    intro i j hij hj
    cases j with
    | zero => omega
    | succ j =>
      cases i with
      | zero =>
        have hjl : j < l.length := by simpa using hj
        simp only [swapL, List.getD_cons_succ, List.getD_cons_zero, List.set_cons_zero, List.set_cons_succ]
        have e : l.getD j d = l[j] := by simp [List.getD_eq_getElem?_getD, hjl]
        rw [e]
        have h1 : l = l.take j ++ l[j] :: l.drop (j + 1) := by rw [← List.drop_eq_getElem_cons hjl, List.take_append_drop]
        have h2 : l.set j x = l.take j ++ x :: l.drop (j + 1) := by rw [List.set_eq_take_append_cons_drop, if_pos hjl]
        rw [h2]
        conv => rhs; rw [h1]
        generalize l[j] = y
        generalize l.take j = A
        generalize l.drop (j + 1) = B
        have p1 : (y :: (A ++ x :: B)).Perm (y :: x :: (A ++ B)) := (List.perm_middle).cons y
        have p2 : (x :: (A ++ y :: B)).Perm (x :: y :: (A ++ B)) := (List.perm_middle).cons x
        exact (p1.trans (List.Perm.swap _ _ _)).trans p2.symm
      | succ i =>
        have := ih i j (by omega) (by simpa using hj)
        simp only [swapL, List.getD_cons_succ, List.set_cons_succ] at this ⊢
        exact this.cons x

theorem swapL_self {l : List α} {i : Nat} (hi : i < l.length) : swapL d l i i = l := by
  unfold swapL
  rw [List.set_set]
  have e : l.getD i d = l[i] := by simp [List.getD_eq_getElem?_getD, hi]
  rw [e, List.set_getElem_self]

theorem swapL_perm {l : List α} {i j : Nat} (hi : i < l.length) (hj : j < l.length) : (swapL d l i j).Perm l := by
  rcases Nat.lt_trichotomy i j with h | h | h
  · exact perm_set_swap l i j h hj
  · subst h; rw [swapL_self hi]
  · have := perm_set_swap (d := d) l j i h hi
    unfold swapL at this ⊢
    rwa [List.set_comm _ _ (by omega)] at this

variable (d)
/-- the first n are a heap -/
def HeapOk (l : List α) (n : Nat) : Prop := ∀ i, 0 < i → i < n → lt (l.getD i d) (l.getD ((i - 1) / 2) d) = false

/-- a heap but for j, which may have to go up -/
def HUp (l : List α) (n j : Nat) : Prop :=
  (∀ i, 0 < i → i < n → i ≠ j → lt (l.getD i d) (l.getD ((i - 1) / 2) d) = false) ∧
    (∀ i, 0 < i → i < n → (i - 1) / 2 = j → 0 < j → lt (l.getD i d) (l.getD ((j - 1) / 2) d) = false)

/-- a heap but for j, which may have to go down -/
def HDown (l : List α) (n j : Nat) : Prop :=
  (∀ i, 0 < i → i < n → (i - 1) / 2 ≠ j → lt (l.getD i d) (l.getD ((i - 1) / 2) d) = false) ∧
    (∀ i, 0 < i → i < n → (i - 1) / 2 = j → 0 < j → lt (l.getD i d) (l.getD ((j - 1) / 2) d) = false)

variable {lt d}
theorem HUp.done {l : List α} {n j : Nat} (h : HUp lt d l n j) (hj : j = 0 ∨ lt (l.getD j d) (l.getD ((j - 1) / 2) d) = false) : HeapOk lt d l n := by
  intro i hi hn
  by_cases e : i = j
  · subst e
    rcases hj with hj | hj
    · omega
    · exact hj
  · exact h.1 i hi hn e

theorem HUp.step (ho : Ord lt) {l : List α} {n j : Nat} (h : HUp lt d l n j) (hjl : j < l.length) (_ : n ≤ l.length) (hj : 0 < j) (hjn : j < n) (hlt : lt (l.getD j d) (l.getD ((j - 1) / 2) d) = true) :
    HUp lt d (swapL d l ((j - 1) / 2) j) n ((j - 1) / 2) := by
  have hpl : (j - 1) / 2 < l.length := by omega
  have hg := fun k => swapL_get (d := d) hpl hjl k
  have hpj : (j - 1) / 2 ≠ j := by omega
  refine ⟨fun i hi hin hne => ?_, fun i hi hin hip hp => ?_⟩
  · rw [hg, hg]
    by_cases e : i = j
    · subst e
      rw [if_pos rfl, if_neg hpj, if_pos rfl]
      exact ho.asymm _ _ hlt
    · rw [if_neg e, if_neg hne]
      by_cases e2 : (i - 1) / 2 = j
      · rw [if_pos e2]
        exact h.2 i hi hin e2 hj
      · rw [if_neg e2]
        by_cases e3 : (i - 1) / 2 = (j - 1) / 2
        · rw [if_pos e3]
          have h1 := h.1 i hi hin e
          rw [e3] at h1
          exact ho.trans _ _ _ h1 (ho.asymm _ _ hlt)
        · rw [if_neg e3]
          exact h.1 i hi hin e
  · rw [hg, hg]
    have e2 : ((j - 1) / 2 - 1) / 2 ≠ j := by omega
    have e3 : ((j - 1) / 2 - 1) / 2 ≠ (j - 1) / 2 := by omega
    rw [if_neg e2, if_neg e3]
    have hpp := h.1 ((j - 1) / 2) hp (by omega) hpj
    by_cases e : i = j
    · subst e
      rw [if_pos rfl]
      exact hpp
    · rw [if_neg e, if_neg (by omega)]
      have h1 := h.1 i hi hin e
      rw [hip] at h1
      exact ho.trans _ _ _ h1 hpp

theorem HDown.done {l : List α} {n j : Nat} (h : HDown lt d l n j) (hc : ∀ i, 0 < i → i < n → (i - 1) / 2 = j → lt (l.getD i d) (l.getD j d) = false) : HeapOk lt d l n := by
  intro i hi hn
  by_cases e : (i - 1) / 2 = j
  · rw [e]; exact hc i hi hn e
  · exact h.1 i hi hn e

theorem HDown.step (ho : Ord lt) {l : List α} {n j c : Nat} (h : HDown lt d l n j) (hn : n ≤ l.length) (hc : 0 < c) (hcn : c < n) (hcj : (c - 1) / 2 = j) (hlt : lt (l.getD c d) (l.getD j d) = true)
    (hmin : ∀ i, 0 < i → i < n → (i - 1) / 2 = j → lt (l.getD i d) (l.getD c d) = false) :
    HDown lt d (swapL d l j c) n c := by
  have hjl : j < l.length := by omega
  have hcl : c < l.length := by omega
  have hg := fun k => swapL_get (d := d) hjl hcl k
  have hjc : j ≠ c := by omega
  refine ⟨fun i hi hin hne => ?_, fun i hi hin hip hp => ?_⟩
  · rw [hg, hg]
    rw [if_neg hne]
    by_cases e : i = c
    · subst e
      rw [if_pos rfl, hcj, if_pos rfl]
      exact ho.asymm _ _ hlt
    · rw [if_neg e]
      by_cases e3 : (i - 1) / 2 = j
      · rw [if_neg (by omega), if_pos e3]
        exact hmin i hi hin e3
      · rw [if_neg e3]
        by_cases e4 : i = j
        · subst e4
          rw [if_pos rfl]
          exact h.2 c hc hcn hcj hi
        · rw [if_neg e4]
          exact h.1 i hi hin e3
  · rw [hg, hg, hcj, if_neg hjc, if_pos rfl, if_neg (by omega), if_neg (by omega)]
    have h1 := h.1 i hi hin (by omega)
    rw [hip] at h1
    exact h1

theorem HeapOk.root (ho : Ord lt) {l : List α} {n : Nat} (h : HeapOk lt d l n) : ∀ i, i < n → lt (l.getD i d) (l.getD 0 d) = false := by
  intro i
  induction i using Nat.strongRecOn with
  | _ i ih =>
    intro hi
    by_cases e : i = 0
    · subst e; exact ho.irrefl _
    · exact ho.trans _ _ _ (h i (by omega) hi) (ih _ (by omega) (by omega))

/-- one more at the end -/
theorem HeapOk.push {l : List α} (h : HeapOk lt d l l.length) (x : α) : HUp lt d (l ++ [x]) (l.length + 1) l.length := by
  have hg : ∀ i, i < l.length → (l ++ [x]).getD i d = l.getD i d := fun i hi => by
    simp [List.getD_eq_getElem?_getD, List.getElem?_append_left hi]
  refine ⟨fun i hi hn hne => ?_, fun i hi hn hp _ => ?_⟩
  · rw [hg i (by omega), hg _ (by omega)]
    exact h i hi (by omega)
  · omega

/-- the root goes to the end, the last one to the root -/
theorem HeapOk.pop {l : List α} (h : HeapOk lt d l l.length) (hl : 0 < l.length) : HDown lt d (swapL d l 0 (l.length - 1)) (l.length - 1) 0 := by
  have hg := fun k => swapL_get (d := d) (l := l) (i := 0) (j := l.length - 1) hl (by omega) k
  refine ⟨fun i hi hn hne => ?_, fun i hi hn hp h0 => by omega⟩
  rw [hg, hg, if_neg (by omega), if_neg (by omega), if_neg (by omega), if_neg hne]
  exact h i hi (by omega)

theorem HeapOk.nil : HeapOk lt d ([] : List α) 0 := fun i _ h => by omega
theorem HeapOk.take {l : List α} {n : Nat} (h : HeapOk lt d l n) (_ : n ≤ l.length) : HeapOk lt d (l.take n) n := by
  intro i hi hin
  have hg : ∀ k, k < n → (l.take n).getD k d = l.getD k d := fun k hk => by
    simp [List.getD_eq_getElem?_getD, hk]
  rw [hg i hin, hg _ (by omega)]
  exact h i hi hin
end

end Go.Proofs.YtbljamcdaoofbaaGreatDoor
