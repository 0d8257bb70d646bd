/- Texts PFind, PAdd, joined. -/
import Derived.Test.YtbljamcdaoofbaaGreatDoorLabelEqToRAsks
import Derived.Deep.RegionLaw
/- The program's search for a stream by its labels. -/
namespace Go.Proofs.YtbljamcdaoofbaaGreatDoor
open Go.RowKit

/-- labels rise -/
def Rising (ns : List Node) : Prop := ns.Pairwise (fun a b => Op.bytesLess a.lab b.lab = true)

theorem less_irrefl (a : List UInt8) : Op.bytesLess a a = false := by
  induction a with
  | nil => rfl
  | cons x a ih => simp [Op.bytesLess, ih]

theorem less_trans : ∀ {a b c : List UInt8}, Op.bytesLess a b = true → Op.bytesLess b c = true → Op.bytesLess a c = true
  | [], [], _, h, _ => by simp [Op.bytesLess] at h
  | [], _ :: _, [], _, h => by simp [Op.bytesLess] at h
  | [], _ :: _, _ :: _, _, _ => rfl
  | _ :: _, [], _, h, _ => by simp [Op.bytesLess] at h
  | _ :: _, _ :: _, [], _, h => by simp [Op.bytesLess] at h
  | x :: a, y :: b, z :: c, h1, h2 => by
    simp only [Op.bytesLess, Bool.or_eq_true, Bool.and_eq_true, decide_eq_true_eq, beq_iff_eq] at h1 h2 ⊢
    rcases h1 with h1 | ⟨rfl, h1⟩
    · rcases h2 with h2 | ⟨rfl, _⟩
      · exact .inl (UInt8.lt_trans h1 h2)
      · exact .inl h1
    · rcases h2 with h2 | ⟨rfl, h2⟩
      · exact .inl h2
      · exact .inr ⟨rfl, less_trans h1 h2⟩

theorem compare_less (a b : List UInt8) : (Lib.compareBytes a b < 0 ↔ Op.bytesLess a b = true) ∧ (Lib.compareBytes a b = 0 ↔ a = b) := by
  induction a generalizing b with
  | nil => cases b <;> simp [Lib.compareBytes, Op.bytesLess]
  | cons x a ih =>
    cases b with
    | nil => simp [Lib.compareBytes, Op.bytesLess]
    | cons y b =>
      simp only [Lib.compareBytes, Op.bytesLess]
      by_cases h : x < y
      · have hne : x ≠ y := fun e => by subst e; exact UInt8.lt_irrefl _ h
        simp [h, hne]
      · by_cases h' : y < x
        · have hne : x ≠ y := fun e => by subst e; exact UInt8.lt_irrefl _ h'
          simp [h, h', hne]
        · have he : x = y := by
            have h1 : ¬ x.toNat < y.toNat := h
            have h2 : ¬ y.toNat < x.toNat := h'
            exact UInt8.toNat_inj.1 (by omega)
          subst he
          simp [UInt8.lt_irrefl, ih b]

/-- the place among rising labels -/
def place (ns : List Node) (l : List UInt8) : Nat := (ns.filter (fun n => Op.bytesLess n.lab l)).length

theorem place_split {ns : List Node} (l : List UInt8) (r : Nat) (hr : r ≤ ns.length) (h1 : ∀ j (hj : j < ns.length), j < r → Op.bytesLess ns[j].lab l = true) (h2 : ∀ j (hj : j < ns.length), r ≤ j → Op.bytesLess ns[j].lab l = false) : place ns l = r := by
  unfold place
  rw [← List.take_append_drop r ns, List.filter_append]
  have e1 : (ns.take r).filter (fun n => Op.bytesLess n.lab l) = ns.take r := by
    rw [List.filter_eq_self]
    intro n hn
    obtain ⟨j, hj, rfl⟩ := List.getElem_of_mem hn
    simp only [List.length_take] at hj
    rw [List.getElem_take]
    exact h1 j (by omega) (by omega)
  have e2 : (ns.drop r).filter (fun n => Op.bytesLess n.lab l) = [] := by
    rw [List.filter_eq_nil_iff]
    intro n hn
    obtain ⟨j, hj, rfl⟩ := List.getElem_of_mem hn
    simp only [List.length_drop] at hj
    rw [List.getElem_drop, h2 (r + j) (by omega) (by omega)]
    simp
  rw [e1, e2]
  simp; omega

theorem less_mono {ns : List Node} (h : Rising ns) {l : List UInt8} {i j : Nat} (hij : i ≤ j) (hj : j < ns.length) (hl : Op.bytesLess ns[j].lab l = true) : Op.bytesLess (ns[i]'(by omega)).lab l = true := by
  rcases Nat.lt_or_eq_of_le hij with hlt | rfl
  · have := List.pairwise_iff_getElem.1 h i j (by omega) hj hlt
    exact less_trans this hl
  · exact hl

theorem mid_bounds {i j : Nat} (h : i < j) : i ≤ (i + j) / 2 ∧ (i + j) / 2 < j := by omega

set_option maxRecDepth 10000 in
set_option maxHeartbeats 2000000 in
theorem search_any {w : World} {F : Nat → Prop} {p : Nat} {ns : List Node} {va : Value} (l : List UInt8) (h : StoreAt w F p ns va) (hn : ns.length ≤ 6) (hs : Rising ns) :
    Calls Tryz.prog 74 #[va, .string ⟨l.toArray⟩, .func (.func 75) #[] #[]] w fun e w' =>
      e = .returned (.tuple #[.int .i64 (place ns l), .bool (decide (∃ n ∈ ns, n.lab = l))]) ∧ w' = w := by
  obtain ⟨ao, cap, rfl, hnc, hcm, hnil, hao, hcell, hfz⟩ := owns_form h.row
  have HN := hide hnil
  have HA := hide hao
  have HC := hide hcell
  have HS := hide hs
  have HH := hide h
  clear hnil hao hcell hfz hs h
  go_enter Tryz.func74, Tryz.ntmps74
  go_wp2
  go_loop [9, 10] (fun i j => ∃ a b : Nat, a ≤ b ∧ b ≤ ns.length ∧ i = .int .i64 a ∧ j = .int .i64 b ∧ (∀ k (hk : k < ns.length), k < a → Op.bytesLess ns[k].lab l = true) ∧ (∀ k (hk : k < ns.length), b ≤ k → Op.bytesLess ns[k].lab l = false)) (fun i j => (intOf j).toNat - (intOf i).toNat)
  case atStart => exact ⟨0, ns.length, by omega, by omega, rfl, rfl, fun k _ h => by omega, fun k hk h => by omega⟩
  case round =>
    obtain ⟨a, b, hab, hb, rfl, rfl, h1, h2⟩ := hrel
    have H1 := hide h1
    have H2 := hide h2
    clear h1 h2
    by_cases hlt : a < b
    · obtain ⟨⟨g, o, sp⟩, rfl⟩ : ∃ a, ao = some a := by
        cases ao with
        | none => have := (unhide HN rfl).1; omega
        | some a => exact ⟨a, rfl⟩
      obtain ⟨ho, hsp, -, hgw⟩ := unhide HA _ rfl
      simp only at ho hsp hgw
      subst ho hsp
      go_upto_region 5 with fail
      obtain ⟨hm1, hm2⟩ := mid_bounds hlt
      rw [show ((a : Int) + (b : Int)) / 2 = (((a + b) / 2 : Nat) : Int) by omega]
      generalize (a + b) / 2 = m at *
      have hml : m < ns.length := by omega
      have hc := unhide HC _ rfl m (by omega)
      rw [ptr_at hml] at hc
      have hnode := (unhide HH).nodes _ (List.getElem_mem hml)
      have HND := hide hnode
      clear hnode
      obtain ⟨hcmp, hcmp0⟩ := compare_less ns[m].lab l
      have HCM := hide hcmp
      clear hcmp hcmp0
      cases hless : Op.bytesLess ns[m].lab l
      · have hge : ¬ Lib.compareBytes ns[m].lab l < 0 := fun h => by rw [(unhide HCM).1 h] at hless; cases hless
        have HLS := hide hless
        clear hless
        go_wp2_with (go_at_call 75; refine (find1_any l (unhide HND)).mono ?_; rintro e w' ⟨rfl, rfl⟩)
        go_round
        case rel =>
          refine ⟨a, m, by omega, by omega, rfl, rfl, unhide H1, fun k hk hmk => ?_⟩
          rw [Bool.eq_false_iff]
          intro hl
          have := less_mono (unhide HS) hmk hk hl
          rw [unhide HLS] at this
          cases this
        case measure => simp [intOf]; omega
      · have hge : Lib.compareBytes ns[m].lab l < 0 := (unhide HCM).2 hless
        have HLS := hide hless
        clear hless
        go_wp2_with (go_at_call 75; refine (find1_any l (unhide HND)).mono ?_; rintro e w' ⟨rfl, rfl⟩)
        go_round
        case rel =>
          refine ⟨m + 1, b, by omega, by omega, by go_num, rfl, fun k hk hkm => ?_, unhide H2⟩
          exact less_mono (unhide HS) (by omega) hml (unhide HLS)
        case measure => simp [intOf]; omega
    · have he : a = b := by omega
      subst he
      have hpl : place ns l = a := place_split l a hb (unhide H1) (unhide H2)
      have HPL := hide hpl
      clear hpl
      by_cases hal : a < ns.length
      · obtain ⟨⟨g, o, sp⟩, rfl⟩ : ∃ a, ao = some a := by
          cases ao with
          | none => have := (unhide HN rfl).1; omega
          | some a => exact ⟨a, rfl⟩
        obtain ⟨ho, hsp, -, hgw⟩ := unhide HA _ rfl
        simp only at ho hsp hgw
        subst ho hsp
        have hc := unhide HC _ rfl a (by omega)
        rw [ptr_at hal] at hc
        have HND := hide ((unhide HH).nodes _ (List.getElem_mem hal))
        go_wp2_with (go_at_call 75; refine (find1_any l (unhide HND)).mono ?_; rintro e w' ⟨rfl, rfl⟩)
        go_ret2
        refine ⟨?_, rfl⟩
        rw [unhide HPL]
        have hd : (Lib.compareBytes ns[a].lab l == 0) = decide (∃ n ∈ ns, n.lab = l) := by
          rw [Bool.eq_iff_iff, beq_iff_eq, (compare_less ns[a].lab l).2, decide_eq_true_iff]
          constructor
          · intro h; exact ⟨_, List.getElem_mem hal, h⟩
          · rintro ⟨n, hnm, hl⟩
            obtain ⟨j, hj, rfl⟩ := List.getElem_of_mem hnm
            rcases Nat.lt_trichotomy j a with h | h | h
            · have := unhide H1 j hj h
              rw [hl, less_irrefl] at this
              cases this
            · subst h; exact hl
            · have h3 := List.pairwise_iff_getElem.1 (unhide HS) a j hal hj h
              rw [hl, unhide H2 a hal (Nat.le_refl _)] at h3
              cases h3
        rw [← hd]
        rfl
      · go_wp2
        go_ret2
        refine ⟨?_, rfl⟩
        rw [unhide HPL]
        have hd : decide (∃ n ∈ ns, n.lab = l) = false := by
          rw [decide_eq_false_iff_not]
          rintro ⟨n, hnm, hl⟩
          obtain ⟨j, hj, rfl⟩ := List.getElem_of_mem hnm
          have := unhide H1 j hj (by omega)
          rw [hl, less_irrefl] at this
          cases this
        rw [hd]
        rfl

set_option maxRecDepth 10000 in
set_option maxHeartbeats 400000 in
theorem find_any {w : World} {F : Nat → Prop} {p : Nat} {ns : List Node} {va : Value} (l : List UInt8) (h : StoreAt w F p ns va) (hn : ns.length ≤ 6) (hs : Rising ns) :
    Calls Tryz.prog 46 #[.pointer (some ⟨p, 0, none⟩), .string ⟨l.toArray⟩] w fun e w' =>
      e = .returned (.tuple #[.int .i64 (place ns l), .bool (decide (∃ n ∈ ns, n.lab = l))]) ∧ w' = w := by
  obtain ⟨c0, fz⟩ := cell_of_block1 h.block
  go_enter Tryz.func46, Tryz.ntmps46
  go_wp2_with fail
  refine (search_any l h hn hs).mono ?_
  rintro e w1 ⟨rfl, rfl⟩
  go_wp2
  go_ret2
  exact ⟨rfl, rfl⟩

def total (ns : List Node) : Nat := (ns.map (fun n => n.lines.length)).sum

theorem total_snoc (ns : List Node) (k : Nat) (h : k < ns.length) : total (ns.take (k + 1)) = total (ns.take k) + ns[k].lines.length := by
  unfold total
  rw [List.take_succ_eq_append_getElem h, List.map_append, List.sum_append]
  simp
theorem total_take (ns : List Node) (k : Nat) : total (ns.take k) ≤ total ns := by
  have h : total ns = total (ns.take k) + total (ns.drop k) := by
    unfold total
    rw [← List.sum_append, ← List.map_append, List.take_append_drop]
  omega
theorem total_le (ns : List Node) (n : Node) (h : n ∈ ns) : n.lines.length ≤ total ns := by
  obtain ⟨a, b, rfl⟩ := List.append_of_mem h
  simp [total]; omega

set_option maxRecDepth 10000 in
set_option maxHeartbeats 1000000 in
theorem kept_any {w : World} {F : Nat → Prop} {p : Nat} {ns : List Node} {va : Value} (h : StoreAt w F p ns va) (hn : ns.length ≤ 6) (ht : total ns ≤ 300) :
    Calls Tryz.prog 78 #[.pointer (some ⟨p, 0, none⟩)] w fun e w' => e = .returned (.int .i64 (total ns)) ∧ w' = w := by
  obtain ⟨ao, cap, rfl, hnc, hcm, hnil, hao, hcell, hfz⟩ := owns_form h.row
  obtain ⟨c0, fz⟩ := cell_of_block1 h.block
  have HN := hide hnil
  have HA := hide hao
  have HC := hide hcell
  have HH := hide h
  clear hnil hao hcell hfz h fz
  go_enter Tryz.func78, Tryz.ntmps78
  go_wp2
  go_loop [3, 11] (fun s i => ∃ k : Nat, k ≤ ns.length ∧ i = .int .i64 k ∧ s = .int .i64 (total (ns.take k))) (fun _ i => ns.length - (intOf i).toNat)
  case atStart => exact ⟨0, by omega, rfl, rfl⟩
  case round =>
    obtain ⟨k, hk, rfl, rfl⟩ := hrel
    by_cases hlt : k < ns.length
    · obtain ⟨⟨g, o, sp⟩, rfl⟩ : ∃ a, ao = some a := by
        cases ao with
        | none => have := (unhide HN rfl).1; omega
        | some a => exact ⟨a, rfl⟩
      obtain ⟨ho, hsp, -, hgw⟩ := unhide HA _ rfl
      simp only at ho hsp hgw
      subst ho hsp
      have hc := unhide HC _ rfl k (by omega)
      rw [ptr_at hlt] at hc
      have HND := hide ((unhide HH).nodes _ (List.getElem_mem hlt))
      have HS := hide (total_snoc ns k hlt)
      have h1 := total_take ns k
      have h2 := total_take ns (k + 1)
      rw [total_snoc ns k hlt] at h2
      go_wp2_with (go_at_call 107; refine (sLen_any (unhide HND)).mono ?_; rintro e w' ⟨rfl, rfl⟩)
      go_round
      case rel => exact ⟨k + 1, by omega, by go_num, by rw [unhide HS]; go_num⟩
      case measure => simp [intOf]; omega
    · go_wp2
      go_ret
      refine ⟨ret_int ?_, rfl⟩
      rw [List.take_of_length_le (by omega)]

def roomC (ns : List Node) (l : List UInt8) (t : Int) : Int :=
  if ∃ n ∈ ns, n.lab = l ∧ t < n.latest then 4 else if (¬ ∃ n ∈ ns, n.lab = l) ∧ 6 ≤ ns.length then 5 else if 300 ≤ total ns then 6 else 0

/-- there is one at the place, and it is the only one -/
theorem at_place {ns : List Node} {l : List UInt8} (hs : Rising ns) (h : ∃ n ∈ ns, n.lab = l) : ∃ hp : place ns l < ns.length, ns[place ns l].lab = l := by
  obtain ⟨n, hnm, hl⟩ := h
  obtain ⟨j, hj, rfl⟩ := List.getElem_of_mem hnm
  have hp : place ns l = j := by
    refine place_split l j (by omega) ?_ ?_
    · intro i hi hij
      rw [← hl]
      exact List.pairwise_iff_getElem.1 hs i j hi hj hij
    · intro i hi hji
      rw [Bool.eq_false_iff]
      intro hless
      rcases Nat.lt_or_eq_of_le hji with h | rfl
      · have h3 := List.pairwise_iff_getElem.1 hs j i hj hi h
        rw [hl] at h3
        have := less_trans h3 hless
        rw [less_irrefl] at this
        cases this
      · rw [hl, less_irrefl] at hless
        cases hless
  refine ⟨by omega, ?_⟩
  simp only [hp]
  exact hl

theorem only_one {ns : List Node} (hs : Rising ns) {a b : Node} (ha : a ∈ ns) (hb : b ∈ ns) (h : a.lab = b.lab) : a = b := by
  obtain ⟨i, hi, rfl⟩ := List.getElem_of_mem ha
  obtain ⟨j, hj, rfl⟩ := List.getElem_of_mem hb
  rcases Nat.lt_trichotomy i j with g | g | g
  · have := List.pairwise_iff_getElem.1 hs i j hi hj g
    rw [h, less_irrefl] at this; cases this
  · subst g; rfl
  · have := List.pairwise_iff_getElem.1 hs j i hj hi g
    rw [h, less_irrefl] at this; cases this

theorem place_le (ns : List Node) (l : List UInt8) : place ns l ≤ ns.length := List.length_filter_le _ _

set_option maxRecDepth 10000 in
set_option maxHeartbeats 2000000 in
theorem checkRoom_any {w : World} {F : Nat → Prop} {p : Nat} {ns : List Node} {va : Value} (l : List UInt8) (t : Int) (h : StoreAt w F p ns va) (hn : ns.length ≤ 6) (hs : Rising ns) (ht : total ns ≤ 300) :
    Calls Tryz.prog 47 #[.pointer (some ⟨p, 0, none⟩), .int .i64 (place ns l), .bool (decide (∃ n ∈ ns, n.lab = l)), .int .i64 t] w fun e w' =>
      e = .returned (.int .i64 (roomC ns l t)) ∧ w' = w := by
  obtain ⟨ao, cap, rfl, hnc, hcm, hnil, hao, hcell, hfz⟩ := owns_form h.row
  obtain ⟨c0, fz⟩ := cell_of_block1 h.block
  have HH := hide h
  by_cases hex : ∃ n ∈ ns, n.lab = l
  · obtain ⟨hp, hl⟩ := at_place hs hex
    have hr : roomC ns l t = if t < ns[place ns l].latest then 4 else if 300 ≤ total ns then 6 else 0 := by
      unfold roomC
      by_cases h4 : t < ns[place ns l].latest
      · rw [if_pos ⟨_, List.getElem_mem hp, hl, h4⟩, if_pos h4]
      · rw [if_neg, if_neg h4, if_neg (fun hh => hh.1 hex)]
        rintro ⟨n, hnm, hnl, hnt⟩
        have := only_one hs hnm (List.getElem_mem hp) (hnl.trans hl.symm)
        rw [this] at hnt
        exact h4 hnt
    have HR := hide hr
    rw [decide_eq_true hex]
    obtain ⟨⟨g, o, sp⟩, rfl⟩ : ∃ a, ao = some a := by
      cases ao with
      | none => have := (hnil rfl).1; omega
      | some a => exact ⟨a, rfl⟩
    obtain ⟨ho, hsp, -, hgw⟩ := hao _ rfl
    simp only at ho hsp hgw
    subst ho hsp
    have hc := hcell _ rfl (place ns l) (by omega)
    rw [ptr_at hp] at hc
    have HND := hide (h.nodes _ (List.getElem_mem hp))
    clear hr hex hl hcell hao hnil hfz h fz hs
    generalize place ns l = k at *
    by_cases h4 : t < ns[k].latest
    · have hd : decide (ns[k].latest ≤ t) = false := by simp; omega
      go_enter Tryz.func47, Tryz.ntmps47
      go_wp2_with (go_at_call 77; refine (sTakes_any t (unhide HND)).mono ?_; rintro e w' ⟨rfl, rfl⟩)
      go_ret
      refine ⟨ret_int ?_, rfl⟩
      rw [unhide HR, if_pos h4]
    · have hd : decide (ns[k].latest ≤ t) = true := by simp; omega
      by_cases h6 : (300 : Int) ≤ total ns
      all_goals
        go_enter Tryz.func47, Tryz.ntmps47
        go_wp2_with (first | (go_at_call 77; refine (sTakes_any t (unhide HND)).mono ?_; rintro e w' ⟨rfl, rfl⟩) | (go_at_call 78; refine (kept_any (unhide HH) hn ht).mono ?_; rintro e w' ⟨rfl, rfl⟩))
        go_ret
        refine ⟨ret_int ?_, rfl⟩
        rw [unhide HR, if_neg (by omega)]
        first | rw [if_pos (by omega)] | rw [if_neg (by omega)]
  · have hr : roomC ns l t = if 6 ≤ ns.length then 5 else if 300 ≤ total ns then 6 else 0 := by
      unfold roomC
      rw [if_neg (fun ⟨n, hnm, hnl, _⟩ => hex ⟨n, hnm, hnl⟩)]
      by_cases h5 : 6 ≤ ns.length
      · rw [if_pos ⟨hex, h5⟩, if_pos h5]
      · rw [if_neg (fun hh => h5 hh.2), if_neg h5]
    have HR := hide hr
    rw [decide_eq_false hex]
    clear hr hex hcell hao hnil hfz h fz hs
    generalize place ns l = k at *
    by_cases h5 : (6 : Int) ≤ ns.length
    · go_enter Tryz.func47, Tryz.ntmps47
      go_wp2
      go_ret
      refine ⟨ret_int ?_, rfl⟩
      rw [unhide HR, if_pos (by omega)]
    · by_cases h6 : (300 : Int) ≤ total ns
      all_goals
        go_enter Tryz.func47, Tryz.ntmps47
        go_wp2_with (go_at_call 78; refine (kept_any (unhide HH) hn ht).mono ?_; rintro e w' ⟨rfl, rfl⟩)
        go_ret
        refine ⟨ret_int ?_, rfl⟩
        rw [unhide HR, if_neg (by omega)]
        first | rw [if_pos (by omega)] | rw [if_neg (by omega)]

end Go.Proofs.YtbljamcdaoofbaaGreatDoor

/- The program's stream: a new one, and one line more. -/
namespace Go.Proofs.YtbljamcdaoofbaaGreatDoor
open Go.RowKit

theorem Tryz.info108 : (Tryz.prog.info? 108).map (fun i => (i.zero, i.size, i.bytes)) = some (some (.agg #[.int .i64 0, .string ByteArray.empty]), 2, 24) := by kernel_rfl
theorem Tryz.info79 : (Tryz.prog.info? 79).map (fun i => (i.zero, i.size, i.bytes)) = some (some (.pointer none), 1, 8) := by kernel_rfl

/-- an append as one step of a region that draws its order -/
theorem step_append_at {P : Program} {ops : Array Oper} {o : Oper} {a : Act} {w : World} {K : Act → World → Prop} {Q : Exit → Act → World → Prop} {E : Prop}
    (hgd : o.guard = none) (s x : Operand) (t : TypeId)
    (ho : o.op = .call { callee := .builtin .append, args := #[s, x], argTypes := #[t, t] })
    (base : Nat) (e : TypeId) (i : TypeInfo) (z : Value) (size bytes : Nat) (ht : P.underlying t = some (.slice e)) (hi : P.info? e = some i) (hz : i.zero = some z)
    (hsize : i.size = size) (hby : i.bytes = bytes) (hzs : z.cells.size = size) (hsz : 0 < size)
    (v : Value) (n : Nat) (xs : List Value) (hs : a.eval s = v) (hown : w.ownsRow base e size v n xs)
    (ao : Option Addr) (m c : Nat) (news : List Value) (hx : a.eval x = .slice ao m c) (hl : news.length = m * size) (hno : ao = none → m = 0 ∧ c = 0)
    (hnews : ∀ a, ao = some a → ∀ j u, news[j]? = some u → w.cell? (a.add j) = some u) (h1 : ∀ u ∈ news, u.oneCell' = true)
    (h63 : n + m ≤ maxLen) (hbytes : (n + m) * bytes ≤ 140737488355328) (hbase : base ≤ w.heap.size)
    (h : ∀ v' w', w'.ownsRow base e size v' (n + m) (xs ++ news) → w.grownBy w' v.ownBlock → (v'.ownBlock = v.ownBlock ∨ v'.ownBlock = some w.heap.size) → K (a.put o.dst v') w') :
    if Region.wanted o (yielded ops a.tmps) = true then Oper.wp P o a w K Q else E := by
  have hw : Region.wanted o (yielded ops a.tmps) = true := by simp [Region.wanted, hgd]
  rw [if_pos hw]
  exact wp_append_at w s x t ho base e i z size bytes ht hi hz hsize hby hzs hsz v n xs hs hown ao m c news hx hl hno hnews h1 h63 hbytes hbase h

set_option maxHeartbeats 400000 in
theorem new_any (w : World) : Calls Tryz.prog 30 #[] w fun e w' => e = .returned (.pointer (some ⟨w.heap.size, 0, none⟩)) ∧ w' = w.alloc (.cells #[.slice none 0 0] 78) := by
  go_enter Tryz.func30, Tryz.ntmps30
  go_wp2
  go_ret
  exact ⟨rfl, rfl⟩

set_option maxHeartbeats 400000 in
theorem sNew_any (l : List UInt8) (w : World) (hl : l.length ≤ 1048576) :
    Calls Tryz.prog 49 #[.string ⟨l.toArray⟩] w fun e w' => ∃ w1, Below w.heap.size w w1 ∧ e = .returned (.pointer (some ⟨w1.heap.size, 0, none⟩)) ∧ w' = w1.alloc (.cells #[SV l, .int .i64 0, .slice none 0 0] 118) := by
  go_enter Tryz.func49, Tryz.ntmps49
  go_wp2_with fail
  refine (clone_any l _ hl).mono ?_
  rintro e w1 ⟨rfl, hb⟩
  go_wp2
  go_ret
  exact ⟨w1, hb, rfl, rfl⟩

theorem cell_alloc {w : World} {o : Obj} {a : Addr} (h : a.block < w.heap.size) : (w.alloc o).cell? a = w.cell? a := World.cell?_of_block (Go.RowKit.Below.heap_alloc w o a.block h)

/-- the blocks of a stream -/
def nodeF (n : Node) : Nat → Prop := fun b => b = n.blk ∨ n.vl.ownBlock = some b

theorem block3_set1 {w : World} {p : Nat} {v0 v1 v2 : Value} {t : TypeId} (h : w.heap[p]? = some (.cells #[v0, v1, v2] t (0, 0))) (u : Value) :
    (w.setCell ⟨p, 1, none⟩ u).heap[p]? = some (.cells #[v0, u, v2] t (0, 0)) := by
  simp [World.setCell, Array.getElem?_modify, h]
theorem block3_set2 {w : World} {p : Nat} {v0 v1 v2 : Value} {t : TypeId} (h : w.heap[p]? = some (.cells #[v0, v1, v2] t (0, 0))) (u : Value) :
    (w.setCell ⟨p, 2, none⟩ u).heap[p]? = some (.cells #[v0, v1, u] t (0, 0)) := by
  simp [World.setCell, Array.getElem?_modify, h]

theorem NodeAt.setLatest {w : World} {n : Node} (h : NodeAt w n) (t : Int) : NodeAt (w.setCell ⟨n.blk, 1, none⟩ (.int .i64 t)) { n with latest := t } := by
  refine ⟨block3_set1 h.block _, ownsRow_same h.row fun g hg => Go.RowKit.Below.heap_setCell _ _ _ _ ?_⟩
  obtain ⟨_, cur, hc⟩ := ownsRow_type h.row hg
  exact ne_of_type hc h.block (by decide)

theorem NodeAt.app {w w2 : World} {n : Node} {o : Obj} {y : Ln} {v' : Value} (h : NodeAt w n)
    (hg : (w.alloc o).grownBy w2 n.vl.ownBlock) (ho : w2.ownsRow 0 108 2 v' (n.lines.length + 1) (n.lines.flatMap cellsN ++ cellsN y)) :
    NodeAt (w2.setCell ⟨n.blk, 2, none⟩ v') { n with lines := n.lines ++ [y], vl := v' } ∧ w2.cell? ⟨n.blk, 2, none⟩ = some n.vl ∧ w2.frozen? ⟨n.blk, 2, none⟩ = false ∧ Moved (nodeF n) w (w2.setCell ⟨n.blk, 2, none⟩ v') := by
  have hpl := h.lt
  have hm : Moved (nodeF n) w w2 := ((Moved.refl _ w).alloc o).grown hg (fun k hk => .inl (.inr hk))
  have hp2 : w2.heap[n.blk]? = some (.cells #[SV n.lab, .int .i64 n.latest, n.vl] 118 (0, 0)) := by
    rw [hg.block n.blk (by simp; omega) (fun e => ?_), Go.RowKit.Below.heap_alloc w o n.blk hpl, h.block]
    obtain ⟨_, cur, hc⟩ := ownsRow_type h.row e.symm
    exact ne_of_type hc h.block (by decide) rfl
  obtain ⟨_, _, c2, hf⟩ := cell_of_block3 hp2
  refine ⟨⟨block3_set2 hp2 v', ?_⟩, c2, hf 2, hm.setCell (.inl (.inl rfl)) _⟩
  simp only [List.length_append, List.length_singleton, List.flatMap_append, List.flatMap_cons, List.flatMap_nil, List.append_nil]
  refine ownsRow_same ho fun g hgo => Go.RowKit.Below.heap_setCell _ _ _ _ ?_
  obtain ⟨_, cur, hc⟩ := ownsRow_type ho hgo
  exact ne_of_type hc hp2 (by decide)

set_option maxRecDepth 10000 in
set_option maxHeartbeats 2000000 in
theorem sAdd_any {w : World} {n : Node} (t : Int) (x : List UInt8) (h : NodeAt w n) (hx : x.length ≤ 1048576) (hn : n.lines.length ≤ 300) :
    Calls Tryz.prog 50 #[.pointer (some ⟨n.blk, 0, none⟩), .int .i64 t, .string ⟨x.toArray⟩] w fun e w' =>
      e = .returned (.tuple #[]) ∧ ∃ v', NodeAt w' { n with latest := t, lines := n.lines ++ [(t, x)], vl := v' } ∧ (∀ g, v'.ownBlock = some g → n.vl.ownBlock = some g ∨ w.heap.size ≤ g) ∧ Moved (nodeF n) w w' := by
  obtain ⟨i0, hi0, hz0, hs0, hb0⟩ := info_parts Tryz.info108
  obtain ⟨c0, c1, c2, fz⟩ := cell_of_block3 h.block
  have hf1 := fz 1
  have hlt := h.lt
  have hfin := h.setLatest t
  have hm0 : Moved (nodeF n) w (w.setCell ⟨n.blk, 1, none⟩ (.int .i64 t)) := (Moved.refl _ w).setCell (.inl (.inl rfl)) _
  go_enter Tryz.func50, Tryz.ntmps50
  go_upto_region 1 with fail
  generalize w.setCell ⟨n.blk, 1, none⟩ (.int .i64 t) = W at *
  obtain ⟨d0, d1, d2, fd⟩ := cell_of_block3 hfin.block
  simp only at d0 d1 d2 fd
  obtain ⟨ao, cap, hv, -, -, -, -, -, -⟩ := owns_form hfin.row
  simp only at hv
  rw [hv] at d2
  have HV := hide hv
  have HF := hide hfin
  have hltW := hm0.size
  clear hv c0 c1 c2 fz hf1 h hfin fd
  go_region_law (first
    | (refine step_append_at rfl (.tmp 14) (.tmp 19) 103 rfl 0 108 i0 (.agg #[.int .i64 0, .string ByteArray.empty]) 2 24 Tryz.underlying103 hi0 hz0 hs0 hb0 rfl (by decide) (.slice ao n.lines.length cap) n.lines.length (n.lines.flatMap cellsN) (by simp [Act.eval]) (row1.alloc _) (some ⟨w1.heap.size, 0, none⟩) 1 1 (cellsN (t, x)) (by simp [Act.eval]) rfl (by intro e; cases e) (cells_new w1 _ _) (by intro u hu; simp [cellsN] at hu; rcases hu with rfl | rfl <;> rfl) (by unfold maxLen; omega) (by omega) (Nat.zero_le _) ?_; intro v4 w4 hown4 hgrow4 hwh4; obtain ⟨a4, cap4, rfl, -, -, -, -, -, -⟩ := owns_form hown4; rw [← unhide HV] at hgrow4 hwh4; obtain ⟨hfin, e2, ef, hmf⟩ := hN1.app hgrow4 hown4; simp only at e2 ef; clear hgrow4 hown4)
    | (go_simp; go_at_call 81; refine (clone_any x _ hx).mono ?_; rintro e w1 ⟨rfl, hb1⟩; have hN1 := (unhide HF).keep (hb1.block _ (by simp; omega)) (fun g hg => hb1.block g (by have := (ownsRow_type (unhide HF).row hg).1; simpa using this)); have row1 := hN1.row; have g2 := (cell_of_block3 hN1.block).2.2.1; simp only at row1 g2; rw [unhide HV] at row1 g2; have g3 : ∀ o, (w1.alloc o).cell? ⟨n.blk, 2, none⟩ = some (.slice ao n.lines.length cap) := fun o => (cell_alloc hN1.lt).trans g2; have hsz1 := hb1.size; have hm1 : Moved (nodeF n) w w1 := hm0.drew.trans (F1 := fun _ => False) (Moved.of_below hb1) (fun _ h => h.elim); clear hb1; dsimp only))
  all_goals
    go_end0
    refine ⟨rfl, _, hfin, ?_, hm1.trans hmf (fun b hb => .inl hb)⟩
    intro g hg
    rcases hwh4 with hw | hw
    · exact .inl (hw ▸ hg)
    · right
      rw [hg] at hw
      simp at hw
      have := hm1.size
      omega

end Go.Proofs.YtbljamcdaoofbaaGreatDoor
