/- The program's search for a stream by its labels. -/
import Derived.Test.YtbljamcdaoofbaaGreatDoorPStore
namespace Go.Proofs.YtbljamcdaoofbaaGreatDoor
open Go.RowKit

/-- labels rise -/
def Rising (ns : List Node) : Prop := ns.Pairwise (fun a b => Op.bytesLess a.lab b.lab = true)

theorem less_irrefl (a : List UInt8) : Op.bytesLess a a = false := by
  induction a with
  | nil => rfl
  | cons x a ih => simp [Op.bytesLess, ih]

theorem less_trans : ∀ {a b c : List UInt8}, Op.bytesLess a b = true → Op.bytesLess b c = true → Op.bytesLess a c = true
  | [], [], _, h, _ => by simp [Op.bytesLess] at h
  | [], _ :: _, [], _, h => by simp [Op.bytesLess] at h
  | [], _ :: _, _ :: _, _, _ => rfl
  | _ :: _, [], _, h, _ => by simp [Op.bytesLess] at h
  | _ :: _, _ :: _, [], _, h => by simp [Op.bytesLess] at h
  | x :: a, y :: b, z :: c, h1, h2 => by
    simp only [Op.bytesLess, Bool.or_eq_true, Bool.and_eq_true, decide_eq_true_eq, beq_iff_eq] at h1 h2 ⊢
    rcases h1 with h1 | ⟨rfl, h1⟩
    · rcases h2 with h2 | ⟨rfl, _⟩
      · exact .inl (UInt8.lt_trans h1 h2)
      · exact .inl h1
    · rcases h2 with h2 | ⟨rfl, h2⟩
      · exact .inl h2
      · exact .inr ⟨rfl, less_trans h1 h2⟩

theorem compare_less (a b : List UInt8) : (Lib.compareBytes a b < 0 ↔ Op.bytesLess a b = true) ∧ (Lib.compareBytes a b = 0 ↔ a = b) := by
  induction a generalizing b with
  | nil => cases b <;> simp [Lib.compareBytes, Op.bytesLess]
  | cons x a ih =>
    cases b with
    | nil => simp [Lib.compareBytes, Op.bytesLess]
    | cons y b =>
      simp only [Lib.compareBytes, Op.bytesLess]
      by_cases h : x < y
      · have hne : x ≠ y := fun e => by subst e; exact UInt8.lt_irrefl _ h
        simp [h, hne]
      · by_cases h' : y < x
        · have hne : x ≠ y := fun e => by subst e; exact UInt8.lt_irrefl _ h'
          simp [h, h', hne]
        · have he : x = y := by
            have h1 : ¬ x.toNat < y.toNat := h
            have h2 : ¬ y.toNat < x.toNat := h'
            exact UInt8.toNat_inj.1 (by omega)
          subst he
          simp [UInt8.lt_irrefl, ih b]

/-- the place among rising labels -/
def place (ns : List Node) (l : List UInt8) : Nat := (ns.filter (fun n => Op.bytesLess n.lab l)).length

theorem place_split {ns : List Node} (l : List UInt8) (r : Nat) (hr : r ≤ ns.length) (h1 : ∀ j (hj : j < ns.length), j < r → Op.bytesLess ns[j].lab l = true) (h2 : ∀ j (hj : j < ns.length), r ≤ j → Op.bytesLess ns[j].lab l = false) : place ns l = r := by
  unfold place
  rw [← List.take_append_drop r ns, List.filter_append]
  have e1 : (ns.take r).filter (fun n => Op.bytesLess n.lab l) = ns.take r := by
    rw [List.filter_eq_self]
    intro n hn
    obtain ⟨j, hj, rfl⟩ := List.getElem_of_mem hn
    simp only [List.length_take] at hj
    rw [List.getElem_take]
    exact h1 j (by omega) (by omega)
  have e2 : (ns.drop r).filter (fun n => Op.bytesLess n.lab l) = [] := by
    rw [List.filter_eq_nil_iff]
    intro n hn
    obtain ⟨j, hj, rfl⟩ := List.getElem_of_mem hn
    simp only [List.length_drop] at hj
    rw [List.getElem_drop, h2 (r + j) (by omega) (by omega)]
    simp
  rw [e1, e2]
  simp; omega

theorem less_mono {ns : List Node} (h : Rising ns) {l : List UInt8} {i j : Nat} (hij : i ≤ j) (hj : j < ns.length) (hl : Op.bytesLess ns[j].lab l = true) : Op.bytesLess (ns[i]'(by omega)).lab l = true := by
  rcases Nat.lt_or_eq_of_le hij with hlt | rfl
  · have := List.pairwise_iff_getElem.1 h i j (by omega) hj hlt
    exact less_trans this hl
  · exact hl

theorem mid_bounds {i j : Nat} (h : i < j) : i ≤ (i + j) / 2 ∧ (i + j) / 2 < j := by omega

set_option maxRecDepth 10000 in
set_option maxHeartbeats 2000000 in
theorem search_any {w : World} {F : Nat → Prop} {p : Nat} {ns : List Node} {va : Value} (l : List UInt8) (h : StoreAt w F p ns va) (hn : ns.length ≤ 6) (hs : Rising ns) :
    Calls Tryz.prog 74 #[va, .string ⟨l.toArray⟩, .func (.func 75) #[] #[]] w fun e w' =>
      e = .returned (.tuple #[.int .i64 (place ns l), .bool (decide (∃ n ∈ ns, n.lab = l))]) ∧ w' = w := by
  obtain ⟨ao, cap, rfl, hnc, hcm, hnil, hao, hcell, hfz⟩ := owns_form h.row
  have HN := hide hnil
  have HA := hide hao
  have HC := hide hcell
  have HS := hide hs
  have HH := hide h
  clear hnil hao hcell hfz hs h
  go_enter Tryz.func74, Tryz.ntmps74
  go_wp2
  go_loop [9, 10] (fun i j => ∃ a b : Nat, a ≤ b ∧ b ≤ ns.length ∧ i = .int .i64 a ∧ j = .int .i64 b ∧ (∀ k (hk : k < ns.length), k < a → Op.bytesLess ns[k].lab l = true) ∧ (∀ k (hk : k < ns.length), b ≤ k → Op.bytesLess ns[k].lab l = false)) (fun i j => (intOf j).toNat - (intOf i).toNat)
  case atStart => exact ⟨0, ns.length, by omega, by omega, rfl, rfl, fun k _ h => by omega, fun k hk h => by omega⟩
  case round =>
    obtain ⟨a, b, hab, hb, rfl, rfl, h1, h2⟩ := hrel
    have H1 := hide h1
    have H2 := hide h2
    clear h1 h2
    by_cases hlt : a < b
    · obtain ⟨⟨g, o, sp⟩, rfl⟩ : ∃ a, ao = some a := by
        cases ao with
        | none => have := (unhide HN rfl).1; omega
        | some a => exact ⟨a, rfl⟩
      obtain ⟨ho, hsp, -, hgw⟩ := unhide HA _ rfl
      simp only at ho hsp hgw
      subst ho hsp
      go_upto_region 5 with fail
      obtain ⟨hm1, hm2⟩ := mid_bounds hlt
      rw [show ((a : Int) + (b : Int)) / 2 = (((a + b) / 2 : Nat) : Int) by omega]
      generalize (a + b) / 2 = m at *
      have hml : m < ns.length := by omega
      have hc := unhide HC _ rfl m (by omega)
      rw [ptr_at hml] at hc
      have hnode := (unhide HH).nodes _ (List.getElem_mem hml)
      have HND := hide hnode
      clear hnode
      obtain ⟨hcmp, hcmp0⟩ := compare_less ns[m].lab l
      have HCM := hide hcmp
      clear hcmp hcmp0
      cases hless : Op.bytesLess ns[m].lab l
      · have hge : ¬ Lib.compareBytes ns[m].lab l < 0 := fun h => by rw [(unhide HCM).1 h] at hless; cases hless
        have HLS := hide hless
        clear hless
        go_wp2_with (go_at_call 75; refine (find1_any l (unhide HND)).mono ?_; rintro e w' ⟨rfl, rfl⟩)
        go_round
        case rel =>
          refine ⟨a, m, by omega, by omega, rfl, rfl, unhide H1, fun k hk hmk => ?_⟩
          rw [Bool.eq_false_iff]
          intro hl
          have := less_mono (unhide HS) hmk hk hl
          rw [unhide HLS] at this
          cases this
        case measure => simp [intOf]; omega
      · have hge : Lib.compareBytes ns[m].lab l < 0 := (unhide HCM).2 hless
        have HLS := hide hless
        clear hless
        go_wp2_with (go_at_call 75; refine (find1_any l (unhide HND)).mono ?_; rintro e w' ⟨rfl, rfl⟩)
        go_round
        case rel =>
          refine ⟨m + 1, b, by omega, by omega, by go_num, rfl, fun k hk hkm => ?_, unhide H2⟩
          exact less_mono (unhide HS) (by omega) hml (unhide HLS)
        case measure => simp [intOf]; omega
    · have he : a = b := by omega
      subst he
      have hpl : place ns l = a := place_split l a hb (unhide H1) (unhide H2)
      have HPL := hide hpl
      clear hpl
      by_cases hal : a < ns.length
      · obtain ⟨⟨g, o, sp⟩, rfl⟩ : ∃ a, ao = some a := by
          cases ao with
          | none => have := (unhide HN rfl).1; omega
          | some a => exact ⟨a, rfl⟩
        obtain ⟨ho, hsp, -, hgw⟩ := unhide HA _ rfl
        simp only at ho hsp hgw
        subst ho hsp
        have hc := unhide HC _ rfl a (by omega)
        rw [ptr_at hal] at hc
        have HND := hide ((unhide HH).nodes _ (List.getElem_mem hal))
        go_wp2_with (go_at_call 75; refine (find1_any l (unhide HND)).mono ?_; rintro e w' ⟨rfl, rfl⟩)
        go_ret2
        refine ⟨?_, rfl⟩
        rw [unhide HPL]
        have hd : (Lib.compareBytes ns[a].lab l == 0) = decide (∃ n ∈ ns, n.lab = l) := by
          rw [Bool.eq_iff_iff, beq_iff_eq, (compare_less ns[a].lab l).2, decide_eq_true_iff]
          constructor
          · intro h; exact ⟨_, List.getElem_mem hal, h⟩
          · rintro ⟨n, hnm, hl⟩
            obtain ⟨j, hj, rfl⟩ := List.getElem_of_mem hnm
            rcases Nat.lt_trichotomy j a with h | h | h
            · have := unhide H1 j hj h
              rw [hl, less_irrefl] at this
              cases this
            · subst h; exact hl
            · have h3 := List.pairwise_iff_getElem.1 (unhide HS) a j hal hj h
              rw [hl, unhide H2 a hal (Nat.le_refl _)] at h3
              cases h3
        rw [← hd]
        rfl
      · go_wp2
        go_ret2
        refine ⟨?_, rfl⟩
        rw [unhide HPL]
        have hd : decide (∃ n ∈ ns, n.lab = l) = false := by
          rw [decide_eq_false_iff_not]
          rintro ⟨n, hnm, hl⟩
          obtain ⟨j, hj, rfl⟩ := List.getElem_of_mem hnm
          have := unhide H1 j hj (by omega)
          rw [hl, less_irrefl] at this
          cases this
        rw [hd]
        rfl

set_option maxRecDepth 10000 in
set_option maxHeartbeats 400000 in
theorem find_any {w : World} {F : Nat → Prop} {p : Nat} {ns : List Node} {va : Value} (l : List UInt8) (h : StoreAt w F p ns va) (hn : ns.length ≤ 6) (hs : Rising ns) :
    Calls Tryz.prog 46 #[.pointer (some ⟨p, 0, none⟩), .string ⟨l.toArray⟩] w fun e w' =>
      e = .returned (.tuple #[.int .i64 (place ns l), .bool (decide (∃ n ∈ ns, n.lab = l))]) ∧ w' = w := by
  obtain ⟨c0, fz⟩ := cell_of_block1 h.block
  go_enter Tryz.func46, Tryz.ntmps46
  go_wp2_with fail
  refine (search_any l h hn hs).mono ?_
  rintro e w1 ⟨rfl, rfl⟩
  go_wp2
  go_ret2
  exact ⟨rfl, rfl⟩

def total (ns : List Node) : Nat := (ns.map (fun n => n.lines.length)).sum

theorem total_snoc (ns : List Node) (k : Nat) (h : k < ns.length) : total (ns.take (k + 1)) = total (ns.take k) + ns[k].lines.length := by
  unfold total
  rw [List.take_succ_eq_append_getElem h, List.map_append, List.sum_append]
  simp
theorem total_take (ns : List Node) (k : Nat) : total (ns.take k) ≤ total ns := by
  have h : total ns = total (ns.take k) + total (ns.drop k) := by
    unfold total
    rw [← List.sum_append, ← List.map_append, List.take_append_drop]
  omega
theorem total_le (ns : List Node) (n : Node) (h : n ∈ ns) : n.lines.length ≤ total ns := by
  obtain ⟨a, b, rfl⟩ := List.append_of_mem h
  simp [total]; omega

set_option maxRecDepth 10000 in
set_option maxHeartbeats 1000000 in
theorem kept_any {w : World} {F : Nat → Prop} {p : Nat} {ns : List Node} {va : Value} (h : StoreAt w F p ns va) (hn : ns.length ≤ 6) (ht : total ns ≤ 300) :
    Calls Tryz.prog 78 #[.pointer (some ⟨p, 0, none⟩)] w fun e w' => e = .returned (.int .i64 (total ns)) ∧ w' = w := by
  obtain ⟨ao, cap, rfl, hnc, hcm, hnil, hao, hcell, hfz⟩ := owns_form h.row
  obtain ⟨c0, fz⟩ := cell_of_block1 h.block
  have HN := hide hnil
  have HA := hide hao
  have HC := hide hcell
  have HH := hide h
  clear hnil hao hcell hfz h fz
  go_enter Tryz.func78, Tryz.ntmps78
  go_wp2
  go_loop [3, 11] (fun s i => ∃ k : Nat, k ≤ ns.length ∧ i = .int .i64 k ∧ s = .int .i64 (total (ns.take k))) (fun _ i => ns.length - (intOf i).toNat)
  case atStart => exact ⟨0, by omega, rfl, rfl⟩
  case round =>
    obtain ⟨k, hk, rfl, rfl⟩ := hrel
    by_cases hlt : k < ns.length
    · obtain ⟨⟨g, o, sp⟩, rfl⟩ : ∃ a, ao = some a := by
        cases ao with
        | none => have := (unhide HN rfl).1; omega
        | some a => exact ⟨a, rfl⟩
      obtain ⟨ho, hsp, -, hgw⟩ := unhide HA _ rfl
      simp only at ho hsp hgw
      subst ho hsp
      have hc := unhide HC _ rfl k (by omega)
      rw [ptr_at hlt] at hc
      have HND := hide ((unhide HH).nodes _ (List.getElem_mem hlt))
      have HS := hide (total_snoc ns k hlt)
      have h1 := total_take ns k
      have h2 := total_take ns (k + 1)
      rw [total_snoc ns k hlt] at h2
      go_wp2_with (go_at_call 107; refine (sLen_any (unhide HND)).mono ?_; rintro e w' ⟨rfl, rfl⟩)
      go_round
      case rel => exact ⟨k + 1, by omega, by go_num, by rw [unhide HS]; go_num⟩
      case measure => simp [intOf]; omega
    · go_wp2
      go_ret
      refine ⟨ret_int ?_, rfl⟩
      rw [List.take_of_length_le (by omega)]

def roomC (ns : List Node) (l : List UInt8) (t : Int) : Int :=
  if ∃ n ∈ ns, n.lab = l ∧ t < n.latest then 4 else if (¬ ∃ n ∈ ns, n.lab = l) ∧ 6 ≤ ns.length then 5 else if 300 ≤ total ns then 6 else 0

/-- there is one at the place, and it is the only one -/
theorem at_place {ns : List Node} {l : List UInt8} (hs : Rising ns) (h : ∃ n ∈ ns, n.lab = l) : ∃ hp : place ns l < ns.length, ns[place ns l].lab = l := by
  obtain ⟨n, hnm, hl⟩ := h
  obtain ⟨j, hj, rfl⟩ := List.getElem_of_mem hnm
  have hp : place ns l = j := by
    refine place_split l j (by omega) ?_ ?_
    · intro i hi hij
      rw [← hl]
      exact List.pairwise_iff_getElem.1 hs i j hi hj hij
    · intro i hi hji
      rw [Bool.eq_false_iff]
      intro hless
      rcases Nat.lt_or_eq_of_le hji with h | rfl
      · have h3 := List.pairwise_iff_getElem.1 hs j i hj hi h
        rw [hl] at h3
        have := less_trans h3 hless
        rw [less_irrefl] at this
        cases this
      · rw [hl, less_irrefl] at hless
        cases hless
  refine ⟨by omega, ?_⟩
  simp only [hp]
  exact hl

theorem only_one {ns : List Node} (hs : Rising ns) {a b : Node} (ha : a ∈ ns) (hb : b ∈ ns) (h : a.lab = b.lab) : a = b := by
  obtain ⟨i, hi, rfl⟩ := List.getElem_of_mem ha
  obtain ⟨j, hj, rfl⟩ := List.getElem_of_mem hb
  rcases Nat.lt_trichotomy i j with g | g | g
  · have := List.pairwise_iff_getElem.1 hs i j hi hj g
    rw [h, less_irrefl] at this; cases this
  · subst g; rfl
  · have := List.pairwise_iff_getElem.1 hs j i hj hi g
    rw [h, less_irrefl] at this; cases this

theorem place_le (ns : List Node) (l : List UInt8) : place ns l ≤ ns.length := List.length_filter_le _ _

set_option maxRecDepth 10000 in
set_option maxHeartbeats 2000000 in
theorem checkRoom_any {w : World} {F : Nat → Prop} {p : Nat} {ns : List Node} {va : Value} (l : List UInt8) (t : Int) (h : StoreAt w F p ns va) (hn : ns.length ≤ 6) (hs : Rising ns) (ht : total ns ≤ 300) :
    Calls Tryz.prog 47 #[.pointer (some ⟨p, 0, none⟩), .int .i64 (place ns l), .bool (decide (∃ n ∈ ns, n.lab = l)), .int .i64 t] w fun e w' =>
      e = .returned (.int .i64 (roomC ns l t)) ∧ w' = w := by
  obtain ⟨ao, cap, rfl, hnc, hcm, hnil, hao, hcell, hfz⟩ := owns_form h.row
  obtain ⟨c0, fz⟩ := cell_of_block1 h.block
  have HH := hide h
  by_cases hex : ∃ n ∈ ns, n.lab = l
  · obtain ⟨hp, hl⟩ := at_place hs hex
    have hr : roomC ns l t = if t < ns[place ns l].latest then 4 else if 300 ≤ total ns then 6 else 0 := by
      unfold roomC
      by_cases h4 : t < ns[place ns l].latest
      · rw [if_pos ⟨_, List.getElem_mem hp, hl, h4⟩, if_pos h4]
      · rw [if_neg, if_neg h4, if_neg (fun hh => hh.1 hex)]
        rintro ⟨n, hnm, hnl, hnt⟩
        have := only_one hs hnm (List.getElem_mem hp) (hnl.trans hl.symm)
        rw [this] at hnt
        exact h4 hnt
    have HR := hide hr
    rw [decide_eq_true hex]
    obtain ⟨⟨g, o, sp⟩, rfl⟩ : ∃ a, ao = some a := by
      cases ao with
      | none => have := (hnil rfl).1; omega
      | some a => exact ⟨a, rfl⟩
    obtain ⟨ho, hsp, -, hgw⟩ := hao _ rfl
    simp only at ho hsp hgw
    subst ho hsp
    have hc := hcell _ rfl (place ns l) (by omega)
    rw [ptr_at hp] at hc
    have HND := hide (h.nodes _ (List.getElem_mem hp))
    clear hr hex hl hcell hao hnil hfz h fz hs
    generalize place ns l = k at *
    by_cases h4 : t < ns[k].latest
    · have hd : decide (ns[k].latest ≤ t) = false := by simp; omega
      go_enter Tryz.func47, Tryz.ntmps47
      go_wp2_with (go_at_call 77; refine (sTakes_any t (unhide HND)).mono ?_; rintro e w' ⟨rfl, rfl⟩)
      go_ret
      refine ⟨ret_int ?_, rfl⟩
      rw [unhide HR, if_pos h4]
    · have hd : decide (ns[k].latest ≤ t) = true := by simp; omega
      by_cases h6 : (300 : Int) ≤ total ns
      all_goals
        go_enter Tryz.func47, Tryz.ntmps47
        go_wp2_with (first | (go_at_call 77; refine (sTakes_any t (unhide HND)).mono ?_; rintro e w' ⟨rfl, rfl⟩) | (go_at_call 78; refine (kept_any (unhide HH) hn ht).mono ?_; rintro e w' ⟨rfl, rfl⟩))
        go_ret
        refine ⟨ret_int ?_, rfl⟩
        rw [unhide HR, if_neg (by omega)]
        first | rw [if_pos (by omega)] | rw [if_neg (by omega)]
  · have hr : roomC ns l t = if 6 ≤ ns.length then 5 else if 300 ≤ total ns then 6 else 0 := by
      unfold roomC
      rw [if_neg (fun ⟨n, hnm, hnl, _⟩ => hex ⟨n, hnm, hnl⟩)]
      by_cases h5 : 6 ≤ ns.length
      · rw [if_pos ⟨hex, h5⟩, if_pos h5]
      · rw [if_neg (fun hh => h5 hh.2), if_neg h5]
    have HR := hide hr
    rw [decide_eq_false hex]
    clear hr hex hcell hao hnil hfz h fz hs
    generalize place ns l = k at *
    by_cases h5 : (6 : Int) ≤ ns.length
    · go_enter Tryz.func47, Tryz.ntmps47
      go_wp2
      go_ret
      refine ⟨ret_int ?_, rfl⟩
      rw [unhide HR, if_pos (by omega)]
    · by_cases h6 : (300 : Int) ≤ total ns
      all_goals
        go_enter Tryz.func47, Tryz.ntmps47
        go_wp2_with (go_at_call 78; refine (kept_any (unhide HH) hn ht).mono ?_; rintro e w' ⟨rfl, rfl⟩)
        go_ret
        refine ⟨ret_int ?_, rfl⟩
        rw [unhide HR, if_neg (by omega)]
        first | rw [if_pos (by omega)] | rw [if_neg (by omega)]

end Go.Proofs.YtbljamcdaoofbaaGreatDoor
