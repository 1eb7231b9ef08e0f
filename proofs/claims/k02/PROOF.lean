import PyProof.Rows.All
import Wide.All
import OpenK.AllK
import Wide.FinOn
import HandS.ForMost
import HandS.Wide
import HandS.SortRule
import HandS.SortInts
import HandS.IsInst
import HandS.Zip
import HandS.TryOnly
import HandS.More
import HandS.Walk
import HandS.Codes
import HandS.Flow
import PySem.Challenge.RW_reprise_k02_places_in_stretches
set_option Elab.async false
set_option linter.all false
set_option maxRecDepth 100000
set_option maxHeartbeats 4000000
namespace Rep
abbrev Pr := Int × Int
def cov (ps : List Pr) (x : Int) : Prop := ∃ p ∈ ps, p.1 ≤ x ∧ x < p.2
structure Tdy (ps : List Pr) : Prop where
  ok : ∀ p ∈ ps, p.1 < p.2
  gap : ps.Pairwise (fun p q => p.2 < q.1)
theorem cov_cons {p : Pr} {ps : List Pr} {x : Int} : cov (p :: ps) x ↔ (p.1 ≤ x ∧ x < p.2) ∨ cov ps x := by
  unfold cov
  constructor
  · rintro ⟨q, hq, h⟩
    rcases List.mem_cons.mp hq with e | hq
    · subst e; exact .inl h
    · exact .inr ⟨q, hq, h⟩
  · rintro (h | ⟨q, hq, h⟩)
    · exact ⟨p, List.mem_cons_self, h⟩
    · exact ⟨q, List.mem_cons_of_mem _ hq, h⟩
theorem cov_nil {x : Int} : ¬ cov [] x := by
  rintro ⟨q, hq, _⟩; cases hq
theorem Tdy.tail {p : Pr} {ps : List Pr} (h : Tdy (p :: ps)) : Tdy ps :=
  ⟨fun q hq => h.ok q (List.mem_cons_of_mem _ hq), (List.pairwise_cons.mp h.gap).2⟩
theorem Tdy.behind {p : Pr} {ps : List Pr} (h : Tdy (p :: ps)) {x : Int} (c : cov ps x) : p.2 < x := by
  obtain ⟨q, hq, h1, h2⟩ := c
  have := (List.pairwise_cons.mp h.gap).1 q hq
  omega
theorem Tdy.uniq : ∀ {a b : List Pr}, Tdy a → Tdy b → (∀ x, cov a x ↔ cov b x) → a = b
  | [], [], _, _, _ => rfl
  | [], q :: b, _, hb, h => by
    have h1 := hb.ok q List.mem_cons_self
    exact absurd ((h q.1).mpr (cov_cons.mpr (.inl ⟨Int.le_refl _, h1⟩))) cov_nil
  | p :: a, [], ha, _, h => by
    have h1 := ha.ok p List.mem_cons_self
    exact absurd ((h p.1).mp (cov_cons.mpr (.inl ⟨Int.le_refl _, h1⟩))) cov_nil
  | p :: a, q :: b, ha, hb, h => by
    have hp := ha.ok p List.mem_cons_self
    have hq := hb.ok q List.mem_cons_self
    have e1 : p.1 = q.1 := by
      have x1 := (h p.1).mp (cov_cons.mpr (.inl ⟨Int.le_refl _, hp⟩))
      have x2 := (h q.1).mpr (cov_cons.mpr (.inl ⟨Int.le_refl _, hq⟩))
      rcases cov_cons.mp x1 with x1 | x1 <;> rcases cov_cons.mp x2 with x2 | x2
      · omega
      · have := ha.behind x2; omega
      · have := hb.behind x1; omega
      · have := ha.behind x2; have := hb.behind x1; omega
    have e2 : p.2 = q.2 := by
      rcases Int.lt_trichotomy p.2 q.2 with l | l | l
      · have x1 := (h p.2).mpr (cov_cons.mpr (.inl ⟨by omega, l⟩))
        rcases cov_cons.mp x1 with x1 | x1
        · omega
        · have := ha.behind x1; omega
      · exact l
      · have x1 := (h q.2).mp (cov_cons.mpr (.inl ⟨by omega, l⟩))
        rcases cov_cons.mp x1 with x1 | x1
        · omega
        · have := hb.behind x1; omega
    have e : p = q := Prod.ext e1 e2
    subst e
    have et : a = b := by
      refine Tdy.uniq ha.tail hb.tail fun x => ⟨fun c => ?_, fun c => ?_⟩
      · have l := ha.behind c
        rcases cov_cons.mp ((h x).mp (cov_cons.mpr (.inr c))) with z | z
        · omega
        · exact z
      · have l := hb.behind c
        rcases cov_cons.mp ((h x).mpr (cov_cons.mpr (.inr c))) with z | z
        · omega
        · exact z
    rw [et]
/-- one turn of tidy, what is made so far held the wrong way round -/
def tStep (acc : List Pr) (p : Pr) : List Pr :=
  if p.2 ≤ p.1 then acc else match acc with
    | [] => [p]
    | q :: r => if q.2 < p.1 then p :: q :: r else if q.2 < p.2 then (q.1, p.2) :: r else q :: r
structure RT (acc : List Pr) : Prop where
  ok : ∀ p ∈ acc, p.1 < p.2
  gap : acc.Pairwise (fun p q => q.2 < p.1)
theorem RT.tdy {acc : List Pr} (h : RT acc) : Tdy acc.reverse :=
  ⟨fun p hp => h.ok p (List.mem_reverse.mp hp), List.pairwise_reverse.mpr h.gap⟩
theorem cov_rev {acc : List Pr} {x : Int} : cov acc.reverse x ↔ cov acc x := by
  unfold cov
  constructor
  · rintro ⟨q, hq, h⟩; exact ⟨q, List.mem_reverse.mp hq, h⟩
  · rintro ⟨q, hq, h⟩; exact ⟨q, List.mem_reverse.mpr hq, h⟩
theorem RT.step {acc : List Pr} {p : Pr} (h : RT acc) (hh : ∀ q ∈ acc, q.1 ≤ p.1) :
    RT (tStep acc p) ∧ (∀ x, cov (tStep acc p) x ↔ cov acc x ∨ (p.1 ≤ x ∧ x < p.2)) ∧ ∀ q ∈ tStep acc p, q.1 ≤ p.1 := by
  unfold tStep
  by_cases e : p.2 ≤ p.1
  · rw [if_pos e]
    refine ⟨h, fun x => ⟨.inl, fun z => ?_⟩, hh⟩
    rcases z with z | z
    · exact z
    · omega
  · rw [if_neg e]
    cases acc with
    | nil =>
      refine ⟨⟨fun q hq => ?_, List.pairwise_singleton _ _⟩, fun x => ?_, fun q hq => ?_⟩
      · rw [List.mem_singleton.mp hq]; omega
      · show cov [p] x ↔ _
        rw [cov_cons]
        exact ⟨fun z => z.elim .inr .inl, fun z => z.elim .inr .inl⟩
      · rw [List.mem_singleton.mp hq]; exact Int.le_refl _
    | cons q r =>
      have hq1 := h.ok q List.mem_cons_self
      have hr : RT r := ⟨fun z hz => h.ok z (List.mem_cons_of_mem _ hz), (List.pairwise_cons.mp h.gap).2⟩
      have hg := (List.pairwise_cons.mp h.gap).1
      have hl := hh q List.mem_cons_self
      show RT (if q.2 < p.1 then p :: q :: r else if q.2 < p.2 then (q.1, p.2) :: r else q :: r) ∧ (∀ x, cov (if q.2 < p.1 then p :: q :: r else if q.2 < p.2 then (q.1, p.2) :: r else q :: r) x ↔ _) ∧ ∀ z ∈ (if q.2 < p.1 then p :: q :: r else if q.2 < p.2 then (q.1, p.2) :: r else q :: r), _
      by_cases c1 : q.2 < p.1
      · rw [if_pos c1]
        refine ⟨⟨fun z hz => ?_, List.pairwise_cons.mpr ⟨fun z hz => ?_, h.gap⟩⟩, fun x => ?_, fun z hz => ?_⟩
        · rcases List.mem_cons.mp hz with rfl | hz
          · omega
          · exact h.ok z hz
        · rcases List.mem_cons.mp hz with rfl | hz
          · exact c1
          · have := hg z hz; omega
        · rw [cov_cons]; exact Or.comm
        · rcases List.mem_cons.mp hz with rfl | hz
          · exact Int.le_refl _
          · exact hh z hz
      · rw [if_neg c1]
        by_cases c2 : q.2 < p.2
        · rw [if_pos c2]
          refine ⟨⟨fun z hz => ?_, List.pairwise_cons.mpr ⟨fun z hz => hg z hz, hr.gap⟩⟩, fun x => ?_, fun z hz => ?_⟩
          · rcases List.mem_cons.mp hz with rfl | hz
            · show q.1 < p.2; omega
            · exact hr.ok z hz
          · rw [cov_cons, cov_cons]
            show (q.1 ≤ x ∧ x < p.2) ∨ cov r x ↔ _
            constructor
            · rintro (z | z)
              · by_cases x < q.2
                · exact .inl (.inl ⟨z.1, by assumption⟩)
                · exact .inr ⟨by omega, z.2⟩
              · exact .inl (.inr z)
            · rintro ((z | z) | z)
              · exact .inl ⟨z.1, by omega⟩
              · exact .inr z
              · exact .inl ⟨by omega, z.2⟩
          · rcases List.mem_cons.mp hz with rfl | hz
            · exact hl
            · exact hh z (List.mem_cons_of_mem _ hz)
        · rw [if_neg c2]
          refine ⟨h, fun x => ⟨.inl, fun z => ?_⟩, hh⟩
          rcases z with z | z
          · exact z
          · exact cov_cons.mpr (.inl ⟨by omega, by omega⟩)
theorem fold_tidy : ∀ (ys acc : List Pr), RT acc → ys.Pairwise (fun p q => p.1 ≤ q.1) → (∀ q ∈ acc, ∀ p ∈ ys, q.1 ≤ p.1) →
    RT (ys.foldl tStep acc) ∧ ∀ x, cov (ys.foldl tStep acc) x ↔ cov acc x ∨ cov ys x
  | [], acc, h, _, _ => ⟨h, fun x => ⟨.inl, fun z => z.elim id fun z => absurd z cov_nil⟩⟩
  | p :: ys, acc, h, hs, hh => by
    obtain ⟨h1, h2, h3⟩ := h.step (p := p) fun q hq => hh q hq p List.mem_cons_self
    have hs' := List.pairwise_cons.mp hs
    obtain ⟨k1, k2⟩ := fold_tidy ys (tStep acc p) h1 hs'.2 fun q hq z hz => Int.le_trans (h3 q hq) (hs'.1 z hz)
    refine ⟨k1, fun x => ?_⟩
    show cov (ys.foldl tStep (tStep acc p)) x ↔ _
    rw [k2, h2, cov_cons, or_assoc]
/-- what tidy makes of rows in order -/
def tidyF (ys : List Pr) : List Pr := (ys.foldl tStep []).reverse
theorem tidyF_tdy {ys : List Pr} (hs : ys.Pairwise (fun p q => p.1 ≤ q.1)) : Tdy (tidyF ys) ∧ ∀ x, cov (tidyF ys) x ↔ cov ys x := by
  obtain ⟨h1, h2⟩ := fold_tidy ys [] ⟨fun p hp => (by cases hp), List.Pairwise.nil⟩ hs (fun q hq => by cases hq)
  refine ⟨h1.tdy, fun x => ?_⟩
  unfold tidyF
  rw [cov_rev, h2]
  exact ⟨fun z => z.elim (fun z => absurd z cov_nil) id, .inr⟩
/-- how many places -/
def wid (ps : List Pr) : Int := (ps.map fun p => p.2 - p.1).sum
theorem wid_cons {p : Pr} {r : List Pr} : wid (p :: r) = p.2 - p.1 + wid r := by
  unfold wid; rw [List.map_cons, List.sum_cons]
theorem wid_append {a b : List Pr} : wid (a ++ b) = wid a + wid b := by
  unfold wid; rw [List.map_append, List.sum_append]
theorem wid_rev : ∀ (a : List Pr), wid a.reverse = wid a
  | [] => rfl
  | p :: r => by
    rw [List.reverse_cons, wid_append, wid_rev r, wid_cons, wid_cons]
    show wid r + (p.2 - p.1 + 0) = _
    omega
/-- one turn of the law's own rows -/
def rStep (acc : List Pr) (x : Int) : List Pr := match acc with
  | [] => [(x, x + 1)]
  | q :: r => if q.2 = x then (q.1, x + 1) :: r else (x, x + 1) :: q :: r
theorem rStep_wid (acc : List Pr) (x : Int) : wid (rStep acc x) = wid acc + 1 := by
  cases acc with
  | nil => unfold rStep; rw [wid_cons]; show x + 1 - x + 0 = 0 + 1; omega
  | cons q r =>
    show wid (if q.2 = x then (q.1, x + 1) :: r else (x, x + 1) :: q :: r) = _
    by_cases c : q.2 = x
    · rw [if_pos c, wid_cons, wid_cons]; show x + 1 - q.1 + wid r = _; omega
    · rw [if_neg c, wid_cons]; show x + 1 - x + wid (q :: r) = _; omega
theorem rStep_eq {acc : List Pr} {x : Int} (h : ∀ q ∈ acc, q.2 ≤ x) : rStep acc x = tStep acc (x, x + 1) := by
  unfold tStep
  rw [if_neg (show ¬ (x + 1 ≤ x) by omega)]
  cases acc with
  | nil => rfl
  | cons q r =>
    have := h q List.mem_cons_self
    show (if q.2 = x then (q.1, x + 1) :: r else (x, x + 1) :: q :: r) = (if q.2 < x then (x, x + 1) :: q :: r else if q.2 < x + 1 then (q.1, x + 1) :: r else q :: r)
    by_cases c : q.2 = x
    · rw [if_pos c, if_neg (by omega), if_pos (by omega)]
    · rw [if_neg c, if_pos (by omega)]
theorem rStep_le {acc : List Pr} {x : Int} (h : ∀ q ∈ acc, q.2 ≤ x) : ∀ q ∈ rStep acc x, q.2 ≤ x + 1 := by
  intro q hq
  cases acc with
  | nil =>
    have e : q = (x, x + 1) := List.mem_singleton.mp hq
    rw [e]; exact Int.le_refl _
  | cons p r =>
    have hq : q ∈ (if p.2 = x then (p.1, x + 1) :: r else (x, x + 1) :: p :: r) := hq
    by_cases c : p.2 = x
    · rw [if_pos c] at hq
      rcases List.mem_cons.mp hq with e | hq
      · rw [e]; exact Int.le_refl _
      · have := h q (List.mem_cons_of_mem _ hq); omega
    · rw [if_neg c] at hq
      rcases List.mem_cons.mp hq with e | hq
      · rw [e]; exact Int.le_refl _
      · have := h q hq; omega
def ones (xs : List Int) : List Pr := xs.map fun x => (x, x + 1)
theorem fold_rows : ∀ (xs : List Int) (acc : List Pr), xs.Pairwise (· < ·) → (∀ q ∈ acc, ∀ x ∈ xs, q.2 ≤ x) →
    xs.foldl rStep acc = (ones xs).foldl tStep acc ∧ wid (xs.foldl rStep acc) = wid acc + xs.length
  | [], acc, _, _ => ⟨rfl, by show wid acc = wid acc + 0; omega⟩
  | x :: xs, acc, hs, hh => by
    have hs' := List.pairwise_cons.mp hs
    have h1 : ∀ q ∈ acc, q.2 ≤ x := fun q hq => hh q hq x List.mem_cons_self
    obtain ⟨k1, k2⟩ := fold_rows xs (rStep acc x) hs'.2 fun q hq z hz => by
      have a := rStep_le h1 q hq
      have b := hs'.1 z hz
      omega
    constructor
    · show xs.foldl rStep (rStep acc x) = (ones xs).foldl tStep (tStep acc (x, x + 1))
      rw [k1, rStep_eq h1]
    · show wid (xs.foldl rStep (rStep acc x)) = _
      rw [k2, rStep_wid, List.length_cons]
      omega
theorem cov_ones {xs : List Int} {x : Int} : cov (ones xs) x ↔ x ∈ xs := by
  unfold cov ones
  constructor
  · rintro ⟨q, hq, h⟩
    obtain ⟨y, hy, e⟩ := List.mem_map.mp hq
    subst e
    have h1 : y ≤ x := h.1
    have h2 : x < y + 1 := h.2
    have e : x = y := by omega
    rw [e]; exact hy
  · intro h
    exact ⟨(x, x + 1), List.mem_map.mpr ⟨x, h, rfl⟩, Int.le_refl _, by show x < x + 1; omega⟩
/-- the law's own rows of places in order -/
def rowsF (xs : List Int) : List Pr := (xs.foldl rStep []).reverse
theorem rowsF_tdy {xs : List Int} (hs : xs.Pairwise (· < ·)) : Tdy (rowsF xs) ∧ (∀ x, cov (rowsF xs) x ↔ x ∈ xs) ∧ wid (rowsF xs) = xs.length := by
  obtain ⟨k1, k2⟩ := fold_rows xs [] hs fun q hq => by cases hq
  have e : rowsF xs = tidyF (ones xs) := by unfold rowsF tidyF; rw [k1]
  have hp : (ones xs).Pairwise (fun p q => p.1 ≤ q.1) := by
    unfold ones
    rw [List.pairwise_map]
    exact hs.imp fun h => Int.le_of_lt h
  obtain ⟨t1, t2⟩ := tidyF_tdy hp
  refine ⟨e ▸ t1, fun x => ?_, ?_⟩
  · rw [e, t2, cov_ones]
  · unfold rowsF; rw [wid_rev, k2]; show (0 : Int) + _ = _; omega
/-- times by, and moved -/
def sc (by_ high : Int) (p : Pr) : Pr := (p.1 * by_ + high, p.2 * by_ + high)
theorem cov_sc {by_ high : Int} (hb : 0 < by_) {ps : List Pr} {x : Int} : cov (ps.map (sc by_ high)) x ↔ cov ps ((x - high) / by_) := by
  have key : ∀ a : Int, a * by_ + high ≤ x ↔ a ≤ (x - high) / by_ := fun a => by
    rw [Int.le_ediv_iff_mul_le hb]; omega
  unfold cov
  constructor
  · rintro ⟨q, hq, h1, h2⟩
    obtain ⟨p, hp, rfl⟩ := List.mem_map.mp hq
    have k1 := key p.1
    have k2 := key p.2
    have h1 : p.1 * by_ + high ≤ x := h1
    have h2 : x < p.2 * by_ + high := h2
    refine ⟨p, hp, k1.mp h1, ?_⟩
    have : ¬ p.2 ≤ (x - high) / by_ := fun z => by have := k2.mpr z; omega
    omega
  · rintro ⟨p, hp, h1, h2⟩
    have k1 := key p.1
    have k2 := key p.2
    refine ⟨sc by_ high p, List.mem_map.mpr ⟨p, hp, rfl⟩, k1.mpr h1, ?_⟩
    show x < p.2 * by_ + high
    have : ¬ p.2 * by_ + high ≤ x := fun z => by have := k2.mp z; omega
    omega
theorem sc_lt {by_ a b : Int} (high : Int) (hb : 0 < by_) (h : a < b) : a * by_ + high < b * by_ + high := by
  have := Int.mul_lt_mul_of_pos_right h hb
  omega
theorem Tdy.scale {by_ high : Int} (hb : 0 < by_) {ps : List Pr} (h : Tdy ps) : Tdy (ps.map (sc by_ high)) := by
  refine ⟨fun q hq => ?_, ?_⟩
  · obtain ⟨p, hp, rfl⟩ := List.mem_map.mp hq
    exact sc_lt high hb (h.ok p hp)
  · rw [List.pairwise_map]
    exact h.gap.imp fun z => sc_lt high hb z
theorem wid_sc {by_ high : Int} : ∀ ps : List Pr, wid (ps.map (sc by_ high)) = wid ps * by_
  | [] => by show (0 : Int) = 0 * by_; rw [Int.zero_mul]
  | p :: r => by
    rw [List.map_cons, wid_cons, wid_cons, wid_sc r, Int.add_mul, Int.sub_mul]
    show p.2 * by_ + high - (p.1 * by_ + high) + _ = _
    omega
end Rep
namespace Rep
open PySem L2
/-! pairs on the heap -/
def kOf (H : Hp) (v : V) : Pr := match v with
  | .ref t => (match H t with
    | some (.tup [.int a, .int b]) => (a, b)
    | _ => (0, 0))
  | _ => (0, 0)
def IsPr (H : Hp) (v : V) : Prop := ∃ t, v = .ref t ∧ H t = some (.tup [.int (kOf H v).1, .int (kOf H v).2])
theorem kOf_at {H : Hp} {t : Addr} {a b : Int} (h : H t = some (.tup [.int a, .int b])) : kOf H (.ref t) = (a, b) := by
  show (match H t with
    | some (.tup [.int a, .int b]) => (a, b)
    | _ => (0, 0)) = (a, b)
  rw [h]
theorem IsPr.of {H : Hp} {t : Addr} {a b : Int} (h : H t = some (.tup [.int a, .int b])) : IsPr H (.ref t) :=
  ⟨t, rfl, by rw [kOf_at h]; exact h⟩
/-- tuples stay -/
def TS (H H' : Hp) : Prop := ∀ t xs, H t = some (.tup xs) → H' t = some (.tup xs)
theorem TS.of {H H' : Hp} (h : Same H H') : TS H H' := fun t xs e => h t _ e
theorem TS.refl (H : Hp) : TS H H := fun _ _ e => e
theorem TS.trans {H H1 H2 : Hp} (a : TS H H1) (b : TS H1 H2) : TS H H2 := fun t xs e => b t xs (a t xs e)
theorem TS.lst {H : Hp} {o : Addr} {zs : List V} {u : HO} (h : H o = some (.lst zs)) : TS H (upd H o u) := fun t xs e => by
  rw [upd_ne (ne_of e h (by intro z; cases z))]
  exact e
theorem TS.dict {H : Hp} {o : Addr} {zs : List (Key × V)} {u : HO} (h : H o = some (.dK zs)) : TS H (upd H o u) := fun t xs e => by
  rw [upd_ne (ne_of e h (by intro z; cases z))]
  exact e
theorem same_upd {H : Hp} {p : Addr} {o : HO} (h : H p = none) : Same H (upd H p o) := fun b x e => by
  rw [upd_ne (ne_of_none e h)]
  exact e
theorem TS.new {H : Hp} {p : Addr} {o : HO} (h : H p = none) : TS H (upd H p o) := TS.of (same_upd h)
theorem same_over {H H' : Hp} {o : Addr} {u : HO} (h : Same H H') (n : H o = none) : Same H (upd H' o u) := fun b x e => by
  rw [upd_ne (ne_of_none e n)]
  exact h b x e
theorem kOf_ts {H H' : Hp} (s : TS H H') {v : V} (h : IsPr H v) : kOf H' v = kOf H v := by
  obtain ⟨t, e, h⟩ := h
  have h2 := s _ _ h
  subst e
  rw [kOf_at h2]
theorem IsPr.ts {H H' : Hp} (s : TS H H') {v : V} (h : IsPr H v) : IsPr H' v := by
  have e := kOf_ts s h
  obtain ⟨t, rfl, h⟩ := h
  exact ⟨t, rfl, by rw [e]; exact s _ _ h⟩
structure PL (H : Hp) (vs : List V) (ps : List Pr) : Prop where
  all : ∀ v ∈ vs, IsPr H v
  eq : vs.map (kOf H) = ps
theorem PL.nil {H : Hp} : PL H [] [] := ⟨fun v h => (by cases h), rfl⟩
theorem PL.len {H : Hp} {vs : List V} {ps : List Pr} (h : PL H vs ps) : vs.length = ps.length := by rw [← h.eq, List.length_map]
theorem PL.ts {H H' : Hp} (s : TS H H') {vs : List V} {ps : List Pr} (h : PL H vs ps) : PL H' vs ps := by
  refine ⟨fun v hv => (h.all v hv).ts s, ?_⟩
  rw [← h.eq]
  exact List.map_congr_left fun v hv => kOf_ts s (h.all v hv)
theorem PL.snoc {H : Hp} {vs : List V} {ps : List Pr} {t : Addr} {a b : Int} (h : PL H vs ps) (ht : H t = some (.tup [.int a, .int b])) : PL H (vs ++ [.ref t]) (ps ++ [(a, b)]) := by
  refine ⟨fun v hv => ?_, ?_⟩
  · rcases List.mem_append.mp hv with hv | hv
    · exact h.all v hv
    · rw [List.mem_singleton.mp hv]; exact .of ht
  · rw [List.map_append, h.eq]
    show ps ++ [kOf H (.ref t)] = _
    rw [kOf_at ht]
theorem PL.get {H : Hp} {vs : List V} {ps : List Pr} (h : PL H vs ps) {i : Nat} {v : V} (e : vs[i]? = some v) : ∃ t p, v = .ref t ∧ H t = some (.tup [.int p.1, .int p.2]) ∧ ps[i]? = some p := by
  obtain ⟨t, et, ht⟩ := h.all v (List.mem_of_getElem? e)
  refine ⟨t, kOf H v, et, ht, ?_⟩
  rw [← h.eq, List.getElem?_map, e]
  rfl
theorem PL.cut {H : Hp} {vs : List V} {ps : List Pr} {p : Pr} (h : PL H vs (ps ++ [p])) : ∃ ws t, vs = ws ++ [.ref t] ∧ PL H ws ps ∧ H t = some (.tup [.int p.1, .int p.2]) := by
  have hl := h.len
  rw [List.length_append, List.length_singleton] at hl
  have hn : vs ≠ [] := fun e => by rw [e] at hl; simp at hl
  refine ⟨vs.dropLast, ?_⟩
  have e := (List.dropLast_concat_getLast hn).symm
  obtain ⟨t, et, ht⟩ := h.all _ (List.getLast_mem hn)
  have q := h.eq
  rw [e, List.map_append] at q
  have q2 : vs.dropLast.map (kOf H) = ps ∧ [kOf H (vs.getLast hn)] = [p] := List.append_inj' q rfl
  refine ⟨t, by rw [← et]; exact e, ⟨fun v hv => h.all v (List.dropLast_subset _ hv), q2.1⟩, ?_⟩
  have q3 : kOf H (vs.getLast hn) = p := by simpa using q2.2
  rw [← q3]; exact ht
theorem PL.perm {H : Hp} {vs ys : List V} {ps : List Pr} (h : PL H vs ps) (p : ys.Perm vs) : PL H ys (ys.map (kOf H)) ∧ (ys.map (kOf H)).Perm ps :=
  ⟨⟨fun v hv => h.all v (p.mem_iff.mp hv), rfl⟩, by rw [← h.eq]; exact p.map _⟩
theorem cov_perm {a b : List Pr} (h : a.Perm b) {x : Int} : cov a x ↔ cov b x := by
  unfold cov
  constructor
  · rintro ⟨q, hq, z⟩; exact ⟨q, h.mem_iff.mp hq, z⟩
  · rintro ⟨q, hq, z⟩; exact ⟨q, h.mem_iff.mpr hq, z⟩
theorem tYes_ok {σ : L2.St} {H : Hp} {A : Bool → Hp → Prop} (h : A true H) : tYes σ H A := h
/-! data at a depth -/
inductive DT (H : Hp) : Nat → V → PyData → Prop
  | non {n : Nat} : DT H n .non .none
  | bl {n : Nat} (b : Bool) : DT H n (.bl b) (.bool b)
  | int {n : Nat} (i : Int) : DT H n (.int i) (.int i)
  | str {n : Nat} (x : Str) : DT H n (.str x) (.str x)
  | lst {n : Nat} {a : Addr} {xs : List V} {ds : List PyData} : H a = some (.lst xs) → xs.length = ds.length → xs.length ≤ 4000000 → (∀ (i : Nat) (x : V) (d : PyData), xs[i]? = some x → ds[i]? = some d → DT H n x d) → DT H (n + 1) (.ref a) (.list ds)
  | tup {n : Nat} {a : Addr} {xs : List V} {ds : List PyData} : H a = some (.tup xs) → xs.length = ds.length → xs.length ≤ 4000000 → (∀ (i : Nat) (x : V) (d : PyData), xs[i]? = some x → ds[i]? = some d → DT H n x d) → DT H (n + 1) (.ref a) (.tuple ds)
theorem DT.same {H H' : Hp} (s : Same H H') {n : Nat} {v : V} {d : PyData} (h : DT H n v d) : DT H' n v d := by
  induction h with
  | non => exact .non
  | bl b => exact .bl b
  | int i => exact .int i
  | str x => exact .str x
  | lst e l b _ ih => exact .lst (s _ _ e) l b ih
  | tup e l b _ ih => exact .tup (s _ _ e) l b ih
def pD (p : Pr) : PyData := .tuple [.int p.1, .int p.2]
theorem DT.pair {H : Hp} {n : Nat} {t : Addr} {p : Pr} (h : H t = some (.tup [.int p.1, .int p.2])) : DT H (n + 1) (.ref t) (pD p) := by
  refine .tup h rfl (by show 2 ≤ 4000000; decide) fun i x d hx hd => ?_
  match i, hx, hd with
  | 0, hx, hd => cases hx; cases hd; exact .int _
  | 1, hx, hd => cases hx; cases hd; exact .int _
theorem PL.dt {H : Hp} {n : Nat} {a : Addr} {vs : List V} {ps : List Pr} (h : PL H vs ps) (ha : H a = some (.lst vs)) (hl : ps.length ≤ 4000000) : DT H (n + 2) (.ref a) (.list (ps.map pD)) := by
  refine .lst ha (by rw [h.len, List.length_map]) (by rw [h.len]; exact hl) fun i x d hx hd => ?_
  obtain ⟨t, p, rfl, ht, hp⟩ := h.get hx
  rw [List.getElem?_map, hp] at hd
  cases hd
  exact .pair ht
/-- as the layer's deep data -/
theorem PL.dp {K : PySem.W.Frag} {H : Hp} : ∀ {vs : List V} {ps : List Pr}, PL H vs ps → DpAll K H vs (ps.map pD)
  | [], ps, h => by
    have := h.eq
    subst this
    exact .nil
  | v :: vs, ps, h => by
    have e := h.eq
    subst e
    obtain ⟨t, et, ht⟩ := h.all v List.mem_cons_self
    refine .cons ?_ (PL.dp ⟨fun w hw => h.all w (List.mem_cons_of_mem _ hw), rfl⟩)
    rw [et] at ht ⊢
    exact .tup (.inl (.inl ht)) (.cons (.int _) (.cons (.int _) .nil))
theorem canAll : ∀ ps : List Pr, PyData.canLayAll0 (ps.map pD) = true
  | [] => rfl
  | _ :: r => by
    show (true && PyData.canLayAll0 (r.map pD)) = true
    rw [canAll r]; rfl
end Rep
namespace Rep
open PySem L2
def topS (i : Nat) : Stmt := PySem.Challenge.pw_reprise_k02_places_in_stretches.main.body.getD i (.Pass ⟨0, 0, 0, 0⟩)
abbrev sBegun : Stmt := topS 1
abbrev sHas : Stmt := topS 2
abbrev sUnder : Stmt := topS 3
abbrev sKth : Stmt := topS 4
abbrev sMix : Stmt := topS 6
abbrev sRaw : Stmt := topS 7
abbrev sDig : Stmt := topS 8
abbrev sPlaces : Stmt := topS 9
abbrev sSome : Stmt := topS 10
abbrev sRowsOf : Stmt := topS 11
abbrev sSame : Stmt := topS 12
abbrev sLaw : Stmt := topS 13
end Rep
namespace Rep
open PySem L2
/-! the draws -/
def mixA (s : Int) : Int := (s * 48271 + 11) % 2147483647
def mixB (s : Int) : Int := (mixA s * mixA s + 40692 * mixA s + s) % 2147483399
def mixF (s : Int) : Int := (mixB s * mixB s + 69621 * mixB s + mixA s) % 2147483563
theorem mixA_lt (s : Int) : -(2 ^ 64) < mixA s ∧ mixA s < 2 ^ 64 := by
  unfold mixA; omega
theorem mixB_lt (s : Int) : -(2 ^ 64) < mixB s ∧ mixB s < 2 ^ 64 := by
  unfold mixB; generalize mixA s * mixA s + 40692 * mixA s + s = z; omega
def spMix : Sp := fun vs H Q _ => ∃ s : Int, vs = [.int s] ∧ Q (.int (mixF s)) H
theorem scMix : FnScope ["_law_seed", "_law_one", "_law_two"] ["_law_seed"] (defScope sMix) := ⟨rfl, rfl, rfl, by decide +kernel, rfl, by decide +kernel, by decide +kernel⟩
section
variable {P : Program} {w : World} {K : PySem.W.Frag} {mg : Str → Option Value} {base : Heap}
theorem ok_mix {f : Addr} {fd : FuncData} {k : Nat} (F : Fun K "_law_mix" "_law_mix" sMix f fd) : FnOk P w K mg base CX0 (k + 1) f fd ["_law_seed"] spMix := by
  refine F.ok scMix (fun vs H Q E h => ?_) (fun cdv A outer s H vs Q E hr h => ?_)
  · obtain ⟨s, rfl, _⟩ := h; rfl
  obtain ⟨z, rfl, q⟩ := h
  refine ⟨_, pss_cons (ps_set (i := 1) scMix.nd rfl (.inl rfl) (pe_op op_mod (pe_op op_add (pe_op op_mul (pv 0) pe_int) pe_int) pe_int))
    (pss_cons (ps_set (i := 2) scMix.nd rfl (.inl rfl) (pe_op op_mod (pe_op op_add (pe_op op_add (pe_op op_mul (pv 1) (pv 1)) (pe_op op_mul pe_int (pv 1))) (pv 0)) pe_int))
    (pss_one (ps_ret (pe_op op_mod (pe_op op_add (pe_op op_add (pe_op op_mul (pv 2) (pv 2)) (pe_op op_mul pe_int (pv 2))) (pv 1)) pe_int)))), ?_⟩
  refine ⟨.int z, rfl, z, 48271, rfl, rfl, .inr ⟨by decide, by decide⟩, _, 11, rfl, rfl, _, 2147483647, rfl, rfl, (by show (0 : Int) < 2147483647; decide), ?_⟩
  refine ⟨.int (mixA z), rfl, .int (mixA z), rfl, _, _, rfl, rfl, .inl (mixA_lt z), .int (mixA z), rfl, 40692, mixA z, rfl, rfl, .inl ⟨by decide, by decide⟩, _, _, rfl, rfl, .int z, rfl, _, _, rfl, rfl, _, 2147483399, rfl, rfl, (by show (0 : Int) < 2147483399; decide), ?_⟩
  refine ⟨.int (mixB z), rfl, .int (mixB z), rfl, _, _, rfl, rfl, .inl (mixB_lt z), .int (mixB z), rfl, 69621, mixB z, rfl, rfl, .inl ⟨by decide, by decide⟩, _, _, rfl, rfl, .int (mixA z), rfl, _, _, rfl, rfl, _, 2147483563, rfl, rfl, (by show (0 : Int) < 2147483563; decide), ?_⟩
  exact q
end
/-! a raw number -/
def cellF (ns : List Int) (k : Int) : Int := if 0 < ns.length then ns.getD (k % (ns.length : Int)).toNat 0 + 9973 * (k / (ns.length : Int)) else 7 * k + 3
def foundF (c k : Int) : Nat → Int
  | 0 => 0
  | i + 1 => foundF c k i * 2147483563 + mixF (c + 1009 * k + 7919 * (i : Int))
def rawF (ns : List Int) (k : Int) : Int := if k < (ns.length : Int) ∧ 10 ^ 18 ≤ cellF ns k then cellF ns k - 10 ^ 18 else foundF (cellF ns k) k 40
def spRaw (K : PySem.W.Frag) : Sp := fun vs H Q _ => ∃ (a : Addr) (ns : List Int) (k : Int), vs = [.ref a, .int k] ∧ SqL K H a (ns.map V.int) ∧ ns.length ≤ 63 ∧ Q (.int (rawF ns k)) H
theorem scRaw : FnScope ["_law_script", "_law_k", "_law_cell", "_law_found", "_law_turn"] ["_law_script", "_law_k"] (defScope sRaw) := ⟨rfl, rfl, rfl, by decide +kernel, rfl, by decide +kernel, by decide +kernel⟩
theorem at_mod {ns : List Int} {k : Int} (h : 0 < ns.length) : atI (ns.map V.int) (k % ((ns.map V.int).length : Int)) = some (.int (ns.getD (k % (ns.length : Int)).toNat 0)) := by
  rw [List.length_map]
  have h0 : 0 ≤ k % (ns.length : Int) := Int.emod_nonneg _ (by omega)
  have h1 : k % (ns.length : Int) < (ns.length : Int) := Int.emod_lt_of_pos _ (by omega)
  have e : k % (ns.length : Int) = (((k % (ns.length : Int)).toNat : Nat) : Int) := by omega
  have hj : (k % (ns.length : Int)).toNat < ns.length := by omega
  have q : atI (ns.map V.int) (((k % (ns.length : Int)).toNat : Nat) : Int) = some (.int (ns.getD (k % (ns.length : Int)).toNat 0)) := by
    refine atI_nat ?_
    rw [List.getElem?_map, List.getElem?_eq_getElem hj, List.getD_eq_getElem?_getD, List.getElem?_eq_getElem hj]
    rfl
  rw [← e] at q
  exact q
section
variable {P : Program} {w : World} {K : PySem.W.Frag} {mg : Str → Option Value} {base : Heap}
theorem ok_raw {f fM : Addr} {fd fdM : FuncData} {k : Nat} (F : Fun K "_law_raw" "_law_raw" sRaw f fd) (FM : Fun K "_law_mix" "_law_mix" sMix fM fdM) (bM : Binds K fdM ["_law_seed"] []) (gM : mg "_law_mix" = some (.ref fM)) (ml : mg "len" = none) (mr : mg "range" = none) : FnOk P w K mg base CX0 (k + 2) f fd ["_law_script", "_law_k"] (spRaw K) := by
  have GM : FnOk P w K mg base CX0 (k + 1) fM fdM ["_law_seed"] spMix := ok_mix FM
  refine F.ok scRaw (fun vs H Q E h => ?_) (fun cdv A outer s H vs Q E hr h => ?_)
  · obtain ⟨a, ns, z, rfl, _⟩ := h; rfl
  obtain ⟨a, ns, z, rfl, hS, h63, q⟩ := h
  have hl : ((ns.map V.int).length : Int) = (ns.length : Int) := by rw [List.length_map]
  refine ⟨_, pss_cons (ps_set (i := 2) scRaw.nd rfl (.inl rfl) (pe_op op_add (pe_op op_mul pe_int (pv 1)) pe_int))
    (C8.pss_cut (ps_if (pt_cmpR op_gt (pe_callB call_len_seq (by rfl) ml PySem.boot_len (pa_cons (pv 0) pa_nil)) pe_int (nomark _))
      (pss_one (ps_set (i := 2) scRaw.nd rfl (.inl rfl) (pe_op op_add (pe_ix ix_list (pv 0) (pe_op op_mod (pv 1) (pe_callB call_len_seq (by rfl) ml PySem.boot_len (pa_cons (pv 0) pa_nil))) (fun _ _ => rfl))
        (pe_op op_mul pe_int (pe_op op_fdiv (pv 1) (pe_callB call_len_seq (by rfl) ml PySem.boot_len (pa_cons (pv 0) pa_nil))))))) pss_nil)
    (C8.pss_cut (ps_if (PW.pt (pw_and (pt_cmpR op_lt (pv 1) (pe_callB call_len_seq (by rfl) ml PySem.boot_len (pa_cons (pv 0) pa_nil)) (nomark _)) (pw_and1 (pt_cmpR op_ge (pv 2) (pe_op op_pow pe_int pe_int) (nomark _)))))
      (pss_one (ps_ret (pe_op op_sub (pv 2) (pe_op op_pow pe_int pe_int)))) pss_nil)
    (pss_cons (ps_set (i := 3) scRaw.nd rfl (.inl rfl) pe_int)
    (pss_cons (ps_for PassesOwn.never rfl (pi_range1 rfl mr (pa_cons pe_int pa_nil)) (pg_name (i := 4) scRaw.nd rfl (.inl rfl))
      (pss_one (ps_set (i := 3) scRaw.nd rfl (.inl rfl) (pe_op op_add (pe_op op_mul (pv 3) pe_int) (pe_call GM hr (by rfl) gM FM.kp bM .nil pass0 (pa_cons (pe_op op_add (pe_op op_add (pv 2) (pe_op op_mul pe_int (pv 1))) (pe_op op_mul pe_int (pv 4))) pa_nil))))))
    (pss_one (ps_ret (pv 3))))))), ?_⟩
  refine ⟨.int z, rfl, 7, z, rfl, rfl, .inl ⟨by decide, by decide⟩, _, 3, rfl, rfl, ?_⟩
  refine ⟨fun σ' H' => σ' = [some (.ref a), some (.int z), some (.int (cellF ns z)), none, none] ∧ H' = H, ?_, fun σ' H' hm => ?_⟩
  · refine ⟨.ref a, rfl, a, ns.map V.int, rfl, .inl hS, _, 0, rfl, rfl, _, rfl, ite2 (fun c => ?_) (fun c => ?_)⟩
    · have c' : (0 : Int) < ((ns.map V.int).length : Int) := of_decide_eq_true c
      rw [hl] at c'
      have c2 : 0 < ns.length := by omega
      refine ⟨.ref a, rfl, .int z, rfl, .ref a, rfl, a, ns.map V.int, rfl, .inl hS, _, _, rfl, rfl, (by show (0 : Int) < ((ns.map V.int).length : Int); omega), a, _, _, _, rfl, rfl, hS, at_mod c2, .int z, rfl, .ref a, rfl, a, ns.map V.int, rfl, .inl hS, _, _, rfl, rfl, ⟨by omega, by omega⟩, 9973, _, rfl, rfl, .inl ⟨by decide, by decide⟩, _, _, rfl, rfl, ?_, rfl⟩
      unfold cellF
      rw [if_pos c2, hl]
      rfl
    · have c' : ¬ (0 : Int) < ((ns.map V.int).length : Int) := fun e => c (decide_eq_true e)
      rw [hl] at c'
      refine ⟨?_, rfl⟩
      unfold cellF
      rw [if_neg (by omega)]
      rfl
  · obtain ⟨rfl, rfl⟩ := hm
    have p18 : CPow 10 18 := ⟨by decide, by decide, by decide⟩
    refine ⟨fun σ' H2 => σ' = [some (.ref a), some (.int z), some (.int (cellF ns z)), none, none] ∧ H2 = H' ∧ ¬ (z < (ns.length : Int) ∧ 10 ^ 18 ≤ cellF ns z), ?_, fun σ' H2 hm => ?_⟩
    · refine ⟨.int z, rfl, .ref a, rfl, a, ns.map V.int, rfl, .inl hS, _, _, rfl, rfl, _, rfl, ite2 (fun c => ?_) (fun c => ?_)⟩
      · have c1 : z < ((ns.map V.int).length : Int) := of_decide_eq_true c
        rw [hl] at c1
        refine ⟨.int (cellF ns z), rfl, 10, 18, rfl, rfl, p18, _, _, rfl, rfl, _, rfl, ite2 (fun c => ?_) (fun c => ?_)⟩
        · have c2 : (10 : Int) ^ 18 ≤ cellF ns z := of_decide_eq_true c
          refine ⟨.int (cellF ns z), rfl, 10, 18, rfl, rfl, p18, _, _, rfl, rfl, ?_⟩
          unfold rawF at q
          rw [if_pos ⟨c1, c2⟩] at q
          exact q
        · exact ⟨rfl, rfl, fun e => c (decide_eq_true e.2)⟩
      · refine iteF ⟨rfl, rfl, fun e => c (decide_eq_true ?_)⟩
        rw [hl]
        exact e.1
    · obtain ⟨rfl, rfl, hn⟩ := hm
      have er : foundF (cellF ns z) z 40 = rawF ns z := by
        unfold rawF; rw [if_neg hn]
      refine ⟨40, rfl, by decide, by decide, for_range (n := 40) (fun i σ H => ∃ y, σ = [some (.ref a), some (.int z), some (.int (cellF ns z)), some (.int (foundF (cellF ns z) z i)), y] ∧ H = H2) ⟨none, rfl, rfl⟩ (fun i σ H3 hi hP => ?_) (fun σ H3 hP => ?_)⟩
      · obtain ⟨y, rfl, rfl⟩ := hP
        refine ⟨.int (foundF (cellF ns z) z i), rfl, _, 2147483563, rfl, rfl, .inr ⟨by decide, by decide⟩, .int (cellF ns z), rfl, .int z, rfl, 1009, z, rfl, rfl, .inl ⟨by decide, by decide⟩, _, _, rfl, rfl, .int (0 + (i : Int)), rfl, 7919, _, rfl, rfl, .inl ⟨by decide, by decide⟩, _, _, rfl, rfl, _, rfl, _, _, rfl, rfl, ?_⟩
        refine ⟨some (.int (0 + (i : Int))), ?_, rfl⟩
        show [some (V.ref a), some (.int z), some (.int (cellF ns z)), some (.int (foundF (cellF ns z) z i * 2147483563 + mixF (cellF ns z + 1009 * z + 7919 * (0 + (i : Int))))), some (.int (0 + (i : Int)))] = _
        rw [Int.zero_add]
        rfl
      · obtain ⟨y, rfl, rfl⟩ := hP
        exact ⟨_, rfl, by rw [er]; exact q⟩
end
end Rep
namespace Rep
open PySem L2
/-! digits of a raw number -/
def digF : Int → List Int → List Int
  | _, [] => []
  | r, z :: zs => (r % z) :: digF (r / z) zs
def restF (r : Int) (zs : List Int) : Int := zs.foldl (· / ·) r
theorem digF_snoc : ∀ (r : Int) (a : List Int) (z : Int), digF r (a ++ [z]) = digF r a ++ [restF r a % z]
  | r, [], z => rfl
  | r, y :: a, z => by
    show (r % y) :: digF (r / y) (a ++ [z]) = (r % y) :: (digF (r / y) a ++ [restF (r / y) a % z])
    rw [digF_snoc (r / y) a z]
theorem restF_snoc (r : Int) (a : List Int) (z : Int) : restF r (a ++ [z]) = restF r a / z := by
  unfold restF; rw [List.foldl_append]; rfl
theorem digF_len : ∀ (r : Int) (zs : List Int), (digF r zs).length = zs.length
  | _, [] => rfl
  | r, z :: zs => by
    show (digF (r / z) zs).length + 1 = zs.length + 1
    rw [digF_len]
def spDig (K : PySem.W.Frag) : Sp := fun vs H Q _ => ∃ (a b : Addr) (ns zs : List Int) (k : Int), vs = [.ref a, .int k, .ref b] ∧ SqL K H a (ns.map V.int) ∧ ns.length ≤ 63 ∧ SqL K H b (zs.map V.int) ∧ zs.length ≤ 1000 ∧ (∀ z ∈ zs, 0 < z ∧ z.natAbs.log2 < 9000) ∧
  ∀ H' p, Same H H' → H p = none → H' p = some (.lst ((digF (rawF ns k) zs).map V.int)) → Q (.ref p) H'
theorem scDig : FnScope ["_law_script", "_law_k", "_law_sizes", "_law_rest", "_law_found", "_law_size"] ["_law_script", "_law_k", "_law_sizes"] (defScope sDig) := ⟨rfl, rfl, rfl, by decide +kernel, rfl, by decide +kernel, by decide +kernel⟩
section
variable {P : Program} {w : World} {K : PySem.W.Frag} {mg : Str → Option Value} {base : Heap}
theorem ok_dig {f fR : Addr} {fd fdR : FuncData} {k : Nat} (F : Fun K "_law_digits" "_law_digits" sDig f fd) (GR : FnOk P w K mg base CX0 k fR fdR ["_law_script", "_law_k"] (spRaw K)) (kR : PySem.W.keepIn K (.ref fR) = true) (bR : Binds K fdR ["_law_script", "_law_k"] []) (gR : mg "_law_raw" = some (.ref fR)) : FnOk P w K mg base CX0 (k + 1) f fd ["_law_script", "_law_k", "_law_sizes"] (spDig K) := by
  refine F.ok scDig (fun vs H Q E h => ?_) (fun cdv A outer s H vs Q E hr h => ?_)
  · obtain ⟨a, b, ns, zs, z, rfl, _⟩ := h; rfl
  obtain ⟨a, b, ns, zs, z, rfl, hS, h63, hZ, hz1, hz2, q⟩ := h
  refine ⟨_, pss_cons (ps_set (i := 3) scDig.nd rfl (.inl rfl) (pe_call GR hr (by rfl) gR kR bR .nil pass0 (pa_cons (pv 0) (pa_cons (pv 1) pa_nil))))
    (pss_cons (ps_set (i := 4) scDig.nd rfl (.inl rfl) (pe_lst pa_nil))
    (pss_cons (ps_for PassesOwn.never rfl (pi_list (pv 2)) (pg_name (i := 5) scDig.nd rfl (.inl rfl))
      (pss_cons (ps_expr (pe_bm PySem.F.plainAttrs_list PySem.F.slot_list_append PySem.F.type_list_append mt_append (pv 4) (pa_cons (pe_op op_mod (pv 3) (pv 5)) pa_nil)))
      (pss_one (ps_set (i := 3) scDig.nd rfl (.inl rfl) (pe_op op_fdivW (pv 3) (pv 5))))))
    (pss_one (ps_ret (pv 4))))), ?_⟩
  refine ⟨.ref a, rfl, .int z, rfl, a, ns, z, rfl, hS, h63, Nat.zero_le _, fun o no => ?_⟩
  have s1 : Same H (upd H o (.lst [])) := same_upd no
  refine ⟨.ref b, rfl, b, rfl, ⟨_, s1.seq hZ⟩, for_list (xs := zs.map V.int) (fun i σ H3 => ∃ y, σ = [some (.ref a), some (.int z), some (.ref b), some (.int (restF (rawF ns z) (zs.take i))), some (.ref o), y] ∧ Same H H3 ∧ H3 o = some (.lst ((digF (rawF ns z) (zs.take i)).map V.int))) ⟨none, rfl, s1, upd_same⟩ (fun i σ H3 _ hP => ?_) (fun i x σ H3 hx hP => ?_) (fun σ H3 hP => ?_)⟩
  · obtain ⟨y, _, sm, _⟩ := hP
    exact sm.seq hZ
  · obtain ⟨y, rfl, sm, eo⟩ := hP
    rw [List.getElem?_map] at hx
    obtain ⟨v, hv, rfl⟩ := Option.map_eq_some_iff.mp hx
    have hv2 := hz2 v (List.mem_of_getElem? hv)
    have hi : i < zs.length := (List.getElem?_eq_some_iff.mp hv).1
    have et : zs.take (i + 1) = zs.take i ++ [v] := by rw [List.take_add_one, hv]; rfl
    refine ⟨.ref o, rfl, .inl ⟨rfl, _, .inl (.inl eo)⟩, .int _, rfl, .int v, rfl, _, _, rfl, rfl, hv2.1, o, _, _, rfl, rfl, eo, ?_, ?_⟩
    · rw [List.length_map, digF_len, List.length_take]
      exact small1000 (by omega)
    · refine ⟨.int _, rfl, .int v, rfl, _, _, rfl, rfl, hv2, some (.int v), ?_, same_over sm no, ?_⟩
      · rw [et, restF_snoc]; rfl
      · rw [upd_same, et, digF_snoc, List.map_append]; rfl
  · obtain ⟨y, rfl, sm, eo⟩ := hP
    rw [List.length_map, List.take_length] at eo
    exact ⟨.ref o, rfl, q H3 o sm no eo⟩
end
/-! drawn rows -/
def rowF (r w : Int) : Pr := (r % w, r % w + ([(r / w) % 9, (r / w) % 9, 1, 0 - (r / w) % 9, w] : List Int).getD ((r / w / 9) % 5).toNat 0)
def someF (ns : List Int) (k w : Int) (m : Nat) : List Pr := (List.range m).map fun (i : Nat) => rowF (rawF ns (k + (i : Int))) w
theorem someF_succ (ns : List Int) (k w : Int) (m : Nat) : someF ns k w (m + 1) = someF ns k w m ++ [rowF (rawF ns (k + (m : Int))) w] := by
  unfold someF; rw [List.range_succ, List.map_append]; rfl
theorem someF_len (ns : List Int) (k w : Int) (m : Nat) : (someF ns k w m).length = m := by
  unfold someF; rw [List.length_map, List.length_range]
theorem way_cases (r : Int) : r % 5 = 0 ∨ r % 5 = 1 ∨ r % 5 = 2 ∨ r % 5 = 3 ∨ r % 5 = 4 := by omega
theorem rowF_bd {r w : Int} (hw : 0 < w) : 0 ≤ (rowF r w).1 ∧ (rowF r w).1 < w ∧ -8 ≤ (rowF r w).2 ∧ (rowF r w).2 - (rowF r w).1 ≤ 8 + w := by
  have h0 : 0 ≤ r % w := Int.emod_nonneg _ (by omega)
  have h1 : r % w < w := Int.emod_lt_of_pos _ hw
  have hs : 0 ≤ (r / w) % 9 ∧ (r / w) % 9 < 9 := ⟨by omega, by omega⟩
  unfold rowF
  generalize (r / w) % 9 = s at *
  refine ⟨h0, h1, ?_⟩
  show -8 ≤ r % w + ([s, s, 1, 0 - s, w] : List Int).getD ((r / w / 9) % 5).toNat 0 ∧ (r % w + ([s, s, 1, 0 - s, w] : List Int).getD ((r / w / 9) % 5).toNat 0) - r % w ≤ 8 + w
  generalize r % w = y at *
  rcases way_cases (r / w / 9) with e | e | e | e | e <;> rw [e]
  · show -8 ≤ y + s ∧ y + s - y ≤ 8 + w; omega
  · show -8 ≤ y + s ∧ y + s - y ≤ 8 + w; omega
  · show -8 ≤ y + 1 ∧ y + 1 - y ≤ 8 + w; omega
  · show -8 ≤ y + (0 - s) ∧ y + (0 - s) - y ≤ 8 + w; omega
  · show -8 ≤ y + w ∧ y + w - y ≤ 8 + w; omega
theorem someF_bd {ns : List Int} {k w : Int} {m : Nat} (hw : 0 < w) : ∀ p ∈ someF ns k w m, 0 ≤ p.1 ∧ p.1 < w ∧ -8 ≤ p.2 ∧ p.2 - p.1 ≤ 8 + w := by
  intro p hp
  unfold someF at hp
  obtain ⟨i, _, rfl⟩ := List.mem_map.mp hp
  exact rowF_bd hw
theorem at_way {r s w : Int} : atI ([.int s, .int s, .int 1, .int (0 - s), .int w] : List V) (r % 5) = some (.int (([s, s, 1, 0 - s, w] : List Int).getD (r % 5).toNat 0)) := by
  rcases way_cases r with e | e | e | e | e <;> rw [e] <;> rfl
def spSome (K : PySem.W.Frag) : Sp := fun vs H Q _ => ∃ (a : Addr) (ns : List Int) (k w : Int) (m : Nat), vs = [.ref a, .int k, .int (m : Int), .int w] ∧ SqL K H a (ns.map V.int) ∧ ns.length ≤ 63 ∧ m ≤ 1000 ∧ 0 < w ∧ w.natAbs.log2 < 9000 ∧
  ∀ H' p xs, Same H H' → H p = none → H' p = some (.lst xs) → PL H' xs (someF ns k w m) → Q (.ref p) H'
theorem scSome : FnScope ["_law_script", "_law_k", "_law_many", "_law_wide", "_law_found", "_law_at", "_law_low", "_law_size", "_law_way"] ["_law_script", "_law_k", "_law_many", "_law_wide"] (defScope sSome) := ⟨rfl, rfl, rfl, by decide +kernel, rfl, by decide +kernel, by decide +kernel⟩
section
variable {P : Program} {w : World} {K : PySem.W.Frag} {mg : Str → Option Value} {base : Heap}
theorem ok_some {f fD : Addr} {fd fdD : FuncData} {k : Nat} (F : Fun K "_law_some_rows" "_law_some_rows" sSome f fd) (GD : FnOk P w K mg base CX0 k fD fdD ["_law_script", "_law_k", "_law_sizes"] (spDig K)) (kD : PySem.W.keepIn K (.ref fD) = true) (bD : Binds K fdD ["_law_script", "_law_k", "_law_sizes"] []) (gD : mg "_law_digits" = some (.ref fD)) (mr : mg "range" = none) : FnOk P w K mg base CX0 (k + 1) f fd ["_law_script", "_law_k", "_law_many", "_law_wide"] (spSome K) := by
  refine F.ok scSome (fun vs H Q E h => ?_) (fun cdv A outer s H vs Q E hr h => ?_)
  · obtain ⟨a, ns, z, w, m, rfl, _⟩ := h; rfl
  obtain ⟨a, ns, z, w, m, rfl, hS, h63, hm, hw, hw2, q⟩ := h
  refine ⟨_, pss_cons (ps_set (i := 4) scSome.nd rfl (.inl rfl) (pe_lst pa_nil))
    (pss_cons (ps_for PassesOwn.never rfl (pi_range1 rfl mr (pa_cons (pv 2) pa_nil)) (pg_name (i := 5) scSome.nd rfl (.inl rfl))
      (pss_cons (ps_asg (pe_call GD hr (by rfl) gD kD bD .nil pass0 (pa_cons (pv 0) (pa_cons (pe_op op_add (pv 1) (pv 5)) (pa_cons (pe_lst (pa_cons (pv 3) (pa_cons pe_int (pa_cons pe_int pa_nil)))) pa_nil))))
          (pg_lst rfl (pgs_cons (pg_name (i := 6) scSome.nd rfl (.inl rfl)) (pgs_cons (pg_name (i := 7) scSome.nd rfl (.inl rfl)) (pgs_cons (pg_name (i := 8) scSome.nd rfl (.inl rfl)) pgs_nil)))))
      (pss_one (ps_expr (pe_bm PySem.F.plainAttrs_list PySem.F.slot_list_append PySem.F.type_list_append mt_append (pv 4) (pa_cons (pe_tup (pa_cons (pv 6) (pa_cons (pe_op op_add (pv 6)
          (pe_ix ix_list (pe_lst (pa_cons (pv 7) (pa_cons (pv 7) (pa_cons pe_int (pa_cons (pe_op op_sub pe_int (pv 7)) (pa_cons (pv 3) pa_nil)))))) (pv 8) (fun _ _ => rfl))) pa_nil))) pa_nil))))))
    (pss_one (ps_ret (pv 4)))), ?_⟩
  refine ⟨Nat.zero_le _, fun o no => ?_⟩
  have s1 : Same H (upd H o (.lst [])) := same_upd no
  refine ⟨.int (m : Int), rfl, (m : Int), rfl, by omega, by omega, for_range (n := m) (fun i σ H3 => ∃ y5 y6 y7 y8 xs, σ = [some (.ref a), some (.int z), some (.int (m : Int)), some (.int w), some (.ref o), y5, y6, y7, y8] ∧ Same H H3 ∧ H3 o = some (.lst xs) ∧ PL H3 xs (someF ns z w i)) ⟨none, none, none, none, [], rfl, s1, upd_same, .nil⟩ (fun i σ H3 hi hP => ?_) (fun σ H3 hP => ?_)⟩
  · obtain ⟨y5, y6, y7, y8, xs, rfl, sm, eo, pl⟩ := hP
    refine ⟨.ref a, rfl, .int z, rfl, .int (0 + (i : Int)), rfl, _, _, rfl, rfl, .int w, rfl, (by show 3 ≤ sizeLine; decide), fun l nl => ?_⟩
    have s2 := same_upd (o := .lst [.int w, .int 9, .int 5]) nl
    refine ⟨a, l, ns, [w, 9, 5], z + (0 + (i : Int)), rfl, s2.seq (sm.seq hS), h63, .inl (.inl upd_same), (by show 3 ≤ 1000; decide), fun y hy => ?_, fun H4 p s4 np ep => ?_⟩
    · rcases List.mem_cons.mp hy with rfl | hy
      · exact ⟨hw, hw2⟩
      · rcases List.mem_cons.mp hy with rfl | hy
        · exact ⟨by decide, by decide⟩
        · rw [List.mem_singleton.mp hy]; exact ⟨by decide, by decide⟩
    rw [Int.zero_add] at ep
    have s3 : Same H3 H4 := s2.trans s4
    generalize hr' : rawF ns (z + (i : Int)) = r at ep
    refine ⟨p, [.int (r % w), .int ((r / w) % 9), .int ((r / w / 9) % 5)], rfl, .inl (.inl ep), rfl, _, _, rfl, _, _, rfl, _, _, rfl, rfl, ?_⟩
    have eo4 := s3 _ _ eo
    refine ⟨.ref o, rfl, .inl ⟨rfl, _, .inl (.inl eo4)⟩, .int (r % w), rfl, .int (r % w), rfl, .int ((r / w) % 9), rfl, .int ((r / w) % 9), rfl, .int ((r / w) % 9), rfl, 0, _, rfl, rfl, .int w, rfl, (by show 5 ≤ sizeLine; decide), fun l2 nl2 => ?_⟩
    have s5 := same_upd (o := .lst [.int ((r / w) % 9), .int ((r / w) % 9), .int 1, .int (0 - (r / w) % 9), .int w]) nl2
    refine ⟨.int ((r / w / 9) % 5), rfl, l2, _, _, _, rfl, rfl, .inl (.inl upd_same), at_way, _, _, rfl, rfl, (by show 2 ≤ sizeLine; decide), fun t nt => ?_⟩
    have s6 := same_upd (o := .tup [.int (r % w), .int (r % w + ([(r / w) % 9, (r / w) % 9, 1, 0 - (r / w) % 9, w] : List Int).getD ((r / w / 9) % 5).toNat 0)]) nt
    have s7 := s5.trans s6
    have eo7 := s7 _ _ eo4
    refine ⟨o, _, _, rfl, rfl, eo7, ?_, ?_⟩
    · rw [pl.len, someF_len]; exact small1000 (by omega)
    · refine ⟨some (.int (0 + (i : Int))), some (.int (r % w)), some (.int ((r / w) % 9)), some (.int ((r / w / 9) % 5)), xs ++ [.ref t], rfl, same_over ((sm.trans s3).trans s7) no, upd_same, ?_⟩
      rw [someF_succ, hr']
      exact ((pl.ts (TS.of (s3.trans s7))).snoc upd_same).ts (TS.lst eo7)
  · obtain ⟨y5, y6, y7, y8, xs, rfl, sm, eo, pl⟩ := hP
    exact ⟨.ref o, rfl, q H3 o xs sm no eo pl⟩
end
end Rep
namespace Rep
open PySem L2
/-! the places of rows, in a dict -/
def kd (ks : List Int) : List (Key × V) := ks.map fun x => (Sum.inl x, V.bl true)
def addK (ks : List Int) (x : Int) : List Int := if x ∈ ks then ks else ks ++ [x]
theorem kd_len (ks : List Int) : (kd ks).length = ks.length := List.length_map _
theorem put_kd (ks : List Int) (x : Int) : putK (kd ks) (Sum.inl x) (V.bl true) = kd (addK ks x) := by
  unfold putK addK
  by_cases h : x ∈ ks
  · have e : ((kd ks).any fun kv => decide (kv.1 = Sum.inl x)) = true := by
      refine List.any_eq_true.mpr ⟨(Sum.inl x, V.bl true), List.mem_map.mpr ⟨x, h, rfl⟩, ?_⟩
      exact decide_eq_true rfl
    rw [if_pos e, if_pos h]
    unfold kd
    rw [List.map_map]
    refine List.map_congr_left fun y _ => ?_
    show (if (Sum.inl y : Key) = Sum.inl x then ((Sum.inl y : Key), V.bl true) else (Sum.inl y, V.bl true)) = (Sum.inl y, V.bl true)
    split <;> rfl
  · have e : ¬ ((kd ks).any fun kv => decide (kv.1 = Sum.inl x)) = true := fun e => by
      obtain ⟨kv, hm, hd⟩ := List.any_eq_true.mp e
      obtain ⟨y, hy, rfl⟩ := List.mem_map.mp hm
      have e2 : (Sum.inl y : Key) = Sum.inl x := of_decide_eq_true hd
      cases e2
      exact h hy
    rw [if_neg e, if_neg h]
    unfold kd
    rw [List.map_append]
    rfl
theorem addK_mem {ks : List Int} {x y : Int} : y ∈ addK ks x ↔ y ∈ ks ∨ y = x := by
  unfold addK
  split
  · exact ⟨.inl, fun h => h.elim id fun e => by rw [e]; assumption⟩
  · rw [List.mem_append, List.mem_singleton]
theorem addK_nodup {ks : List Int} {x : Int} (h : ks.Nodup) : (addK ks x).Nodup := by
  unfold addK
  split
  · exact h
  · rename_i hx
    rw [List.nodup_append]
    refine ⟨h, (by simp), fun a ha b hb e => ?_⟩
    rw [List.mem_singleton.mp hb] at e
    rw [e] at ha
    exact hx ha
theorem addK_len {ks : List Int} {x : Int} : (addK ks x).length ≤ ks.length + 1 := by
  unfold addK
  split
  · omega
  · rw [List.length_append]; exact Nat.le_refl _
theorem cov_take {ps : List Pr} {i : Nat} {p : Pr} (h : ps[i]? = some p) {x : Int} : cov (ps.take (i + 1)) x ↔ cov (ps.take i) x ∨ (p.1 ≤ x ∧ x < p.2) := by
  rw [List.take_add_one, h]
  unfold cov
  constructor
  · rintro ⟨q, hq, z⟩
    rcases List.mem_append.mp hq with hq | hq
    · exact .inl ⟨q, hq, z⟩
    · have e : q = p := List.mem_singleton.mp hq
      rw [← e]; exact .inr z
  · rintro (⟨q, hq, z⟩ | z)
    · exact ⟨q, List.mem_append_left _ hq, z⟩
    · exact ⟨p, List.mem_append_right _ (List.mem_singleton.mpr rfl), z⟩
structure Small (ps : List Pr) : Prop where
  len : ps.length ≤ 1000
  lo : ∀ p ∈ ps, -1000 ≤ p.1 ∧ p.1 ≤ 1000
  hi : ∀ p ∈ ps, -1000 ≤ p.2 ∧ p.2 ≤ 1000
def spPlaces (K : PySem.W.Frag) : Sp := fun vs H Q _ => ∃ (a : Addr) (xs : List V) (ps : List Pr), vs = [.ref a] ∧ SqL K H a xs ∧ PL H xs ps ∧ Small ps ∧
  ∀ H' d ks, Same H H' → H d = none → H' d = some (.dK (kd ks)) → ks.Nodup → (∀ x, x ∈ ks ↔ cov ps x) → ks.length ≤ 2002000 → Q (.ref d) H'
theorem scPlaces : FnScope ["_law_rows", "_law_found", "_law_low", "_law_behind", "_law_place"] ["_law_rows"] (defScope sPlaces) := ⟨rfl, rfl, rfl, by decide +kernel, rfl, by decide +kernel, by decide +kernel⟩
section
variable {P : Program} {w : World} {K : PySem.W.Frag} {mg : Str → Option Value} {base : Heap}
theorem ok_places {f : Addr} {fd : FuncData} {k : Nat} (F : Fun K "_law_places_in" "_law_places_in" sPlaces f fd) (mr : mg "range" = none) : FnOk P w K mg base CX0 (k + 1) f fd ["_law_rows"] (spPlaces K) := by
  refine F.ok scPlaces (fun vs H Q E h => ?_) (fun cdv A outer s H vs Q E hr h => ?_)
  · obtain ⟨a, xs, ps, rfl, _⟩ := h; rfl
  obtain ⟨a, xs, ps, rfl, hS, pl, sml, q⟩ := h
  have hu := hu_of hr
  refine ⟨_, pss_cons (ps_set (i := 1) scPlaces.nd rfl (.inl rfl) pe_dnewK)
    (pss_cons (ps_for PassesOwn.never rfl (pi_list (pv 0)) (pg_tup rfl (pgs_cons (pg_name (i := 2) scPlaces.nd rfl (.inl rfl)) (pgs_cons (pg_name (i := 3) scPlaces.nd rfl (.inl rfl)) pgs_nil)))
      (pss_one (ps_for PassesOwn.never rfl (pi_range2 rfl mr (pa_cons (pv 2) (pa_cons (pv 3) pa_nil))) (pg_name (i := 4) scPlaces.nd rfl (.inl rfl))
        (pss_one (ps_dput hu (pv 1) (pv 4) pe_bl rfl)))))
    (pss_one (ps_ret (pv 1)))), ?_⟩
  refine fun d nd => ?_
  have s1 : Same H (upd H d (.dK [])) := same_upd nd
  refine ⟨.ref a, rfl, a, rfl, ⟨_, s1.seq hS⟩, for_list (xs := xs) (fun i σ H3 => ∃ y2 y3 y4 ks, σ = [some (.ref a), some (.ref d), y2, y3, y4] ∧ Same H H3 ∧ H3 d = some (.dK (kd ks)) ∧ ks.Nodup ∧ (∀ x, x ∈ ks ↔ cov (ps.take i) x) ∧ ks.length ≤ 2000 * i)
    ⟨none, none, none, [], rfl, s1, upd_same, List.nodup_nil, fun x => ⟨fun h => (by cases h), fun h => absurd h cov_nil⟩, Nat.le_refl _⟩ (fun i σ H3 _ hP => ?_) (fun i v σ H3 hv hP => ?_) (fun σ H3 hP => ?_)⟩
  · obtain ⟨_, _, _, _, _, sm, _⟩ := hP
    exact sm.seq hS
  · obtain ⟨y2, y3, y4, ks, rfl, sm, ed, nk, ck, lk⟩ := hP
    obtain ⟨t, p, rfl, ht, hp⟩ := pl.get hv
    have hpm := List.mem_of_getElem? hp
    have b1 := sml.lo p hpm
    have b2 := sml.hi p hpm
    have bl := sml.len
    have hi : i < ps.length := (List.getElem?_eq_some_iff.mp hp).1
    refine ⟨t, [.int p.1, .int p.2], rfl, .inl (.inl (sm _ _ ht)), rfl, _, _, rfl, _, _, rfl, rfl, ?_⟩
    refine ⟨.int p.1, rfl, .int p.2, rfl, p.1, p.2, rfl, ⟨by omega, by omega, by omega, by omega⟩, for_range (lo := p.1) (n := (p.2 - p.1).toNat) (fun j σ H4 => ∃ y4 ks, σ = [some (.ref a), some (.ref d), some (.int p.1), some (.int p.2), y4] ∧ Same H H4 ∧ H4 d = some (.dK (kd ks)) ∧ ks.Nodup ∧ (∀ x, x ∈ ks ↔ cov (ps.take i) x ∨ (p.1 ≤ x ∧ x < p.1 + (j : Int))) ∧ ks.length ≤ 2000 * i + j)
      ⟨y4, ks, rfl, sm, ed, nk, fun x => ⟨fun h => .inl ((ck x).mp h), fun h => h.elim (ck x).mpr fun z => by omega⟩, lk⟩ (fun j σ H4 hj hP => ?_) (fun σ H4 hP => ?_)⟩
    · obtain ⟨z4, ks', rfl, sm', ed', nk', ck', lk'⟩ := hP
      refine ⟨.ref d, rfl, .int (p.1 + (j : Int)), rfl, d, _, rfl, DPut.k (k := Sum.inl (p.1 + (j : Int))) ed' ?_, ?_⟩
      · rw [kd_len]
        exact Nat.lt_of_le_of_lt (show ks'.length ≤ 4000000 by omega) (by decide)
      · refine ⟨some (.int (p.1 + (j : Int))), addK ks' (p.1 + (j : Int)), rfl, same_over sm' nd, ?_, addK_nodup nk', fun x => ?_, ?_⟩
        · rw [upd_same, put_kd]
        · rw [addK_mem, ck']
          constructor
          · rintro ((h | h) | h)
            · exact .inl h
            · exact .inr (by omega)
            · exact .inr (by omega)
          · rintro (h | h)
            · exact .inl (.inl h)
            · by_cases e : x = p.1 + (j : Int)
              · exact .inr e
              · exact .inl (.inr (by omega))
        · have := addK_len (ks := ks') (x := p.1 + (j : Int))
          omega
    · obtain ⟨z4, ks', rfl, sm', ed', nk', ck', lk'⟩ := hP
      refine ⟨some (.int p.1), some (.int p.2), z4, ks', rfl, sm', ed', nk', fun x => ?_, by omega⟩
      rw [ck', cov_take hp]
      constructor
      · rintro (h | h)
        · exact .inl h
        · exact .inr (by omega)
      · rintro (h | h)
        · exact .inl h
        · exact .inr (by omega)
  · obtain ⟨y2, y3, y4, ks, rfl, sm, ed, nk, ck, lk⟩ := hP
    rw [pl.len, List.take_length] at ck
    have bl := sml.len
    refine ⟨.ref d, rfl, q H3 d ks sm nd ed nk ck ?_⟩
    rw [pl.len] at lk
    omega
end
/-! the law's own rows -/
theorem depthAll_pD : ∀ ps : List Pr, PyData.depthAll (ps.map pD) ≤ 1
  | [] => Nat.zero_le _
  | _ :: r => by
    show max 1 (PyData.depthAll (r.map pD)) ≤ 1
    have := depthAll_pD r
    omega
theorem shaped_pD (ps : List Pr) : SeqAt.shaped (.list (ps.map pD)) = true := by
  unfold SeqAt.shaped
  have h := depthAll_pD ps
  have e : PyData.canLay0 (.list (ps.map pD)) = true := canAll ps
  rw [e]
  refine decide_eq_true ?_
  show PyData.depthAll (ps.map pD) + 1 ≤ 64
  omega
theorem eqv_nil (ps : List Pr) : PyData.eqv (.list (ps.map pD)) (.list []) = ps.isEmpty := by
  cases ps <;> rfl
theorem eqv_pD (ps : List Pr) : PyData.eqv (.list (ps.map pD)) (.list (ps.map pD)) = true := SeqAt.eqv_refl _ (canAll ps)
theorem ixN_last {n : Nat} : ixN (n + 1) (-1) = some n := by
  unfold ixN
  rw [if_neg (by decide), if_pos (by omega)]
  congr 1
  omega
theorem set_last {α : Type} (ws : List α) (a b : α) : (ws ++ [a]).set ws.length b = ws ++ [b] := by
  rw [List.set_append_right _ _ (Nat.le_refl _), Nat.sub_self]
  rfl
theorem call_listE {X : Cx} (hc : X.calm = true) : CallR X (.type "list") (fun xs H Q => ∃ (a : Addr) (vs : List V), xs = [.ref a] ∧ ((∃ kvs : List (Key × V), Rd H a (.dK kvs) ∧ vs = kvs.map fun kv => kV kv.1) ∨ SqL X.K H a vs ∨ SqT X.K H a vs) ∧ ∀ l, H l = none → Q (.ref l) (upd H l (.lst vs))) := by
  intro pins s σ H vs us Q I r h
  obtain ⟨a, ws, rfl, h | h, q⟩ := h
  · obtain ⟨kvs, h, rfl⟩ := h
    exact call_listD hc pins s σ H [.ref a] us Q I r ⟨a, kvs, rfl, h, q⟩
  · exact call_list_of pins s σ H [.ref a] us Q I r ⟨a, ws, rfl, h, q⟩
theorem kd_keys (ks : List Int) : (kd ks).map (fun kv => kV kv.1) = ks.map V.int := by
  unfold kd; rw [List.map_map]; rfl
theorem lt_of_nodup : ∀ {zs : List Int}, zs.Nodup → zs.Pairwise (· ≤ ·) → zs.Pairwise (· < ·)
  | [], _, _ => .nil
  | z :: zs, h1, h2 => by
    have a := List.pairwise_cons.mp h1
    have b := List.pairwise_cons.mp h2
    exact List.pairwise_cons.mpr ⟨fun y hy => by have := a.1 y hy; have := b.1 y hy; omega, lt_of_nodup a.2 b.2⟩
theorem rStep_len (acc : List Pr) (x : Int) : (rStep acc x).length ≤ acc.length + 1 := by
  cases acc with
  | nil => exact Nat.le_refl _
  | cons q r =>
    show (if q.2 = x then (q.1, x + 1) :: r else (x, x + 1) :: q :: r).length ≤ _
    split
    · show r.length + 1 ≤ r.length + 1 + 1; omega
    · exact Nat.le_refl _
theorem foldR_len : ∀ (zs : List Int) (acc : List Pr), (zs.foldl rStep acc).length ≤ acc.length + zs.length
  | [], _ => Nat.le_refl _
  | z :: zs, acc => by
    have a := foldR_len zs (rStep acc z)
    have b := rStep_len acc z
    show (zs.foldl rStep (rStep acc z)).length ≤ _
    rw [List.length_cons]
    omega
def spRowsOf (K : PySem.W.Frag) : Sp := fun vs H Q _ => ∃ (a : Addr) (ks : List Int), vs = [.ref a] ∧ (Rd H a (.dK (kd ks)) ∨ SqL K H a (ks.map V.int)) ∧ ks.Nodup ∧ ks.length ≤ 3000000 ∧
  ∀ H' p xs zs, Same H H' → H p = none → H' p = some (.lst xs) → PL H' xs (rowsF zs) → zs.Perm ks → zs.Pairwise (· < ·) → Q (.ref p) H'
theorem scRowsOf : FnScope ["_law_places", "_law_found", "_law_place"] ["_law_places"] (defScope sRowsOf) := ⟨rfl, rfl, rfl, by decide +kernel, rfl, by decide +kernel, by decide +kernel⟩
section
variable {P : Program} {w : World} {K : PySem.W.Frag} {mg : Str → Option Value} {base : Heap}
theorem ok_rowsOf {f : Addr} {fd : FuncData} {k : Nat} (F : Fun K "_law_rows_of" "_law_rows_of" sRowsOf f fd) (ms : mg "sorted" = none) (ml : mg "list" = none) : FnOk P w K mg base CX0 (k + 1) f fd ["_law_places"] (spRowsOf K) := by
  refine F.ok scRowsOf (fun vs H Q E h => ?_) (fun cdv A outer s H vs Q E hr h => ?_)
  · obtain ⟨a, ks, rfl, _⟩ := h; rfl
  obtain ⟨a, ks, rfl, hS, nk, lk, q⟩ := h
  refine ⟨_, pss_cons (ps_set (i := 1) scRowsOf.nd rfl (.inl rfl) (pe_lst pa_nil))
    (pss_cons (ps_for PassesOwn.never rfl (pi_list (pe_callB cr_sortedI (by rfl) ms PyProof.Rows.boot_sorted (pa_cons (pe_callTy (call_listE rfl) (by rfl) ml PyProof.Rows.boot_list (pa_cons (pv 0) pa_nil)) pa_nil))) (pg_name (i := 2) scRowsOf.nd rfl (.inl rfl))
      (pss_one (ps_if (PW.pt (pw_and (pt_cmpR (op_neD hr.units) (pv 1) (pe_lst pa_nil) (nomark _)) (pw_and1 (pt_cmpR op_eq (pe_ix ix_tup (pe_ix ix_list (pv 1) (pe_un un_neg pe_int) (fun _ _ => rfl)) pe_int (fun _ _ => rfl)) (pv 2) (nomark _)))))
        (pss_one (ps_asg (pe_tup (pa_cons (pe_ix ix_tup (pe_ix ix_list (pv 1) (pe_un un_neg pe_int) (fun _ _ => rfl)) pe_int (fun _ _ => rfl)) (pa_cons (pe_op op_add (pv 2) pe_int) pa_nil))) (pg_sub (pv 1) (pe_un un_neg pe_int) set_list)))
        (pss_one (ps_expr (pe_bm PySem.F.plainAttrs_list PySem.F.slot_list_append PySem.F.type_list_append mt_append (pv 1) (pa_cons (pe_tup (pa_cons (pv 2) (pa_cons (pe_op op_add (pv 2) pe_int) pa_nil))) pa_nil)))))))
    (pss_one (ps_ret (pv 1)))), ?_⟩
  refine ⟨Nat.zero_le _, fun o no => ?_⟩
  have s1 : Same H (upd H o (.lst [])) := same_upd no
  refine ⟨.ref a, rfl, a, ks.map V.int, rfl, ?_, fun l nl => ?_⟩
  · rcases hS with hS | hS
    · refine .inl ⟨kd ks, ?_, (kd_keys ks).symm⟩
      rcases hS with hS | ⟨ob, hS⟩
      · exact .inl (s1 _ _ hS)
      · exact .inr ⟨ob, s1 _ _ hS⟩
    · exact .inr (.inl (s1.seq hS))
  have s2 := same_upd (o := .lst (ks.map V.int)) nl
  refine ⟨l, ks, rfl, .inl (.inl upd_same), fun zs pz hperm hord npz => ?_⟩
  have s3 := same_upd (o := .lst (zs.map V.int)) npz
  have s123 : Same H _ := (s1.trans s2).trans s3
  have zlt : zs.Pairwise (· < ·) := lt_of_nodup (hperm.nodup_iff.mpr nk) hord
  have zlen : zs.length ≤ 3000000 := by rw [hperm.length_eq]; exact lk
  have eo1 := s3 _ _ (s2 _ _ (upd_same (H := H) (a := o) (o := .lst [])))
  have nez : pz ≠ o := fun e => by
    rw [e] at npz
    rw [s2 _ _ (upd_same (H := H) (a := o) (o := .lst []))] at npz
    cases npz
  refine ⟨pz, rfl, ⟨_, .inl (.inl upd_same)⟩, for_list (xs := zs.map V.int) (fun i σ H3 => ∃ y xs, σ = [some (.ref a), some (.ref o), y] ∧ Same H H3 ∧ H3 pz = some (.lst (zs.map V.int)) ∧ H3 o = some (.lst xs) ∧ PL H3 xs ((zs.take i).foldl rStep []).reverse)
    ⟨none, [], rfl, s123, upd_same, eo1, .nil⟩ (fun i σ H3 _ hP => ?_) (fun i v σ H3 hv hP => ?_) (fun σ H3 hP => ?_)⟩
  · obtain ⟨y, xs, _, _, ez, _⟩ := hP
    exact .inl (.inl ez)
  · obtain ⟨y, xs, rfl, sm, ez, eo, pl⟩ := hP
    rw [List.getElem?_map] at hv
    obtain ⟨x, hx, rfl⟩ := Option.map_eq_some_iff.mp hv
    have hi : i < zs.length := (List.getElem?_eq_some_iff.mp hx).1
    have ef : (zs.take (i + 1)).foldl rStep [] = rStep ((zs.take i).foldl rStep []) x := by
      rw [List.take_add_one, hx, List.foldl_append]; rfl
    have hlen : ((zs.take i).foldl rStep []).length ≤ 3000000 := by
      have := foldR_len (zs.take i) []
      rw [List.length_take] at this
      have e0 : ([] : List Pr).length = 0 := rfl
      omega
    rw [ef]
    generalize (zs.take i).foldl rStep [] = acc at *
    -- found != []
    refine ⟨.ref o, rfl, Nat.zero_le _, fun e0 ne0 => ?_⟩
    have s4 := same_upd (o := .lst []) ne0
    have eo4 := s4 _ _ eo
    have ez4 := s4 _ _ ez
    have pl4 := pl.ts (TS.of s4)
    refine ⟨.list (acc.reverse.map pD), .list [], .lst (.inl (.inl eo4)) pl4.dp, .lst (.inl (.inl upd_same)) .nil, shaped_pD _, rfl, _, rfl, ?_⟩
    rw [eqv_nil]
    cases acc with
    | nil =>
      refine iteF ?_
      refine iteF ?_
      have ex : xs = [] := by have := pl.len; simpa using this
      subst ex
      refine ⟨.ref o, rfl, .inl ⟨rfl, _, .inl (.inl eo4)⟩, .int x, rfl, .int x, rfl, x, 1, rfl, rfl, (by show 2 ≤ sizeLine; decide), fun t nt => ?_⟩
      have s5 := same_upd (o := .tup [.int x, .int (x + 1)]) nt
      have eo5 := s5 _ _ eo4
      refine ⟨o, _, _, rfl, rfl, eo5, by decide, some (.int x), [.ref t], rfl, same_over ((sm.trans s4).trans s5) no, ?_, upd_same, ?_⟩
      · rw [upd_ne nez]; exact s5 _ _ ez4
      · exact (PL.nil.snoc (upd_same (H := upd H3 e0 (.lst [])))).ts (TS.lst eo5)
    | cons p r =>
      rw [List.reverse_cons] at pl4
      obtain ⟨ws, t, rfl, plw, ht⟩ := pl4.cut
      have hwl : (ws ++ [V.ref t]).length < sizeLine := by
        have h1 := pl4.len
        rw [h1, List.length_append, List.length_reverse, List.length_singleton]
        have h2 : (p :: r).length = r.length + 1 := rfl
        exact Nat.lt_of_le_of_lt (show r.length + 1 ≤ 3000000 by omega) (by decide)
      have rl : ¬ ((r.reverse ++ [p]).isEmpty = true) := by simp
      have rf : (r.reverse ++ [p]).isEmpty = false := by simp
      rw [List.reverse_cons, rf]
      refine iteT ?_
      refine ⟨.ref o, rfl, 1, rfl, o, _, _, _, rfl, rfl, .inl (.inl eo4), atI_last ws (.ref t), t, _, 1, .int p.2, rfl, rfl, .inl (.inl ht), rfl, .int x, rfl, rfl, _, rfl, ite2 (fun c => ?_) (fun c => ?_)⟩
      · have c' : p.2 = x := V.int.inj (of_decide_eq_true c)
        refine ⟨.ref o, rfl, 1, rfl, o, _, _, _, rfl, rfl, .inl (.inl eo4), atI_last ws (.ref t), t, _, 0, .int p.1, rfl, rfl, .inl (.inl ht), rfl, .int x, rfl, x, 1, rfl, rfl, (by show 2 ≤ sizeLine; decide), fun t2 nt2 => ?_⟩
        have s5 := same_upd (o := .tup [.int p.1, .int (x + 1)]) nt2
        have eo5 := s5 _ _ eo4
        refine ⟨.ref o, rfl, 1, rfl, o, _, -1, ws.length, rfl, rfl, eo5, ?_, some (.int x), ws ++ [.ref t2], rfl, same_over ((sm.trans s4).trans s5) no, ?_, ?_, ?_⟩
        · rw [List.length_append]; exact ixN_last
        · rw [upd_ne nez]; exact s5 _ _ ez4
        · rw [upd_same, set_last]
        · have e : rStep (p :: r) x = (p.1, x + 1) :: r := if_pos c'
          rw [e, List.reverse_cons]
          exact ((plw.ts (TS.of s5)).snoc (upd_same (H := upd H3 e0 (.lst [])))).ts (TS.lst eo5)
      · have c' : ¬ p.2 = x := fun e => c (decide_eq_true (by rw [e]))
        refine ⟨.ref o, rfl, .inl ⟨rfl, _, .inl (.inl eo4)⟩, .int x, rfl, .int x, rfl, x, 1, rfl, rfl, (by show 2 ≤ sizeLine; decide), fun t2 nt2 => ?_⟩
        have s5 := same_upd (o := .tup [.int x, .int (x + 1)]) nt2
        have eo5 := s5 _ _ eo4
        refine ⟨o, _, _, rfl, rfl, eo5, hwl, some (.int x), (ws ++ [.ref t]) ++ [.ref t2], rfl, same_over ((sm.trans s4).trans s5) no, ?_, upd_same, ?_⟩
        · rw [upd_ne nez]; exact s5 _ _ ez4
        · have e : rStep (p :: r) x = (x, x + 1) :: p :: r := if_neg c'
          rw [e, List.reverse_cons, List.reverse_cons]
          exact (((plw.snoc ht).ts (TS.of s5)).snoc (upd_same (H := upd H3 e0 (.lst [])))).ts (TS.lst eo5)
  · obtain ⟨y, xs, rfl, sm, ez, eo, pl⟩ := hP
    rw [List.length_map, List.take_length] at pl
    exact ⟨.ref o, rfl, q H3 o xs zs sm no eo pl hperm zlt⟩
end
end Rep
namespace Rep
open PySem L2
/-! the law's own comparison: of equal data it is True -/
def tyN : PyData → String
  | .none => "NoneType"
  | .bool _ => "bool"
  | .int _ => "int"
  | .str _ => "str"
  | .list _ => "list"
  | .tuple _ => "tuple"
  | .dict _ => "dict"
theorem DT.ty {K : PySem.W.Frag} {H : Hp} {n : Nat} {v : V} {d : PyData} (h : DT H n v d) : TyX K H v (.type (tyN d)) := by
  cases h with
  | non => exact .base .non
  | bl b => exact .base (.bl b)
  | int i => exact .base (.int i)
  | str x => exact .base (.str x)
  | lst e _ _ _ => exact .base (.lst e)
  | tup e _ _ _ => exact .base (.tup e)
theorem kit_any {H : Hp} {n : Nat} {v : V} {d : PyData} (h : DT H n v d) : (∃ b, kitB (tyN d) "bool" = some b) ∧ (∃ b, kitB (tyN d) "int" = some b) ∧ (∃ b, kitB (tyN d) "list" = some b) ∧ (∃ b, kitB (tyN d) "tuple" = some b) ∧ (∃ b, kitB (tyN d) "str" = some b) := by
  cases h with
  | non => exact ⟨⟨false, by decide +kernel⟩, ⟨false, by decide +kernel⟩, ⟨false, by decide +kernel⟩, ⟨false, by decide +kernel⟩, ⟨false, by decide +kernel⟩⟩
  | bl b => exact ⟨⟨true, show kitB "bool" "bool" = some true by decide +kernel⟩, ⟨true, show kitB "bool" "int" = some true by decide +kernel⟩, ⟨false, show kitB "bool" "list" = some false by decide +kernel⟩, ⟨false, show kitB "bool" "tuple" = some false by decide +kernel⟩, ⟨false, show kitB "bool" "str" = some false by decide +kernel⟩⟩
  | int i => exact ⟨⟨false, show kitB "int" "bool" = some false by decide +kernel⟩, ⟨true, show kitB "int" "int" = some true by decide +kernel⟩, ⟨false, show kitB "int" "list" = some false by decide +kernel⟩, ⟨false, show kitB "int" "tuple" = some false by decide +kernel⟩, ⟨false, show kitB "int" "str" = some false by decide +kernel⟩⟩
  | str x => exact ⟨⟨false, show kitB "str" "bool" = some false by decide +kernel⟩, ⟨false, show kitB "str" "int" = some false by decide +kernel⟩, ⟨false, show kitB "str" "list" = some false by decide +kernel⟩, ⟨false, show kitB "str" "tuple" = some false by decide +kernel⟩, ⟨true, show kitB "str" "str" = some true by decide +kernel⟩⟩
  | lst _ _ _ _ => exact ⟨⟨false, show kitB "list" "bool" = some false by decide +kernel⟩, ⟨false, show kitB "list" "int" = some false by decide +kernel⟩, ⟨true, show kitB "list" "list" = some true by decide +kernel⟩, ⟨false, show kitB "list" "tuple" = some false by decide +kernel⟩, ⟨false, show kitB "list" "str" = some false by decide +kernel⟩⟩
  | tup _ _ _ _ => exact ⟨⟨false, show kitB "tuple" "bool" = some false by decide +kernel⟩, ⟨false, show kitB "tuple" "int" = some false by decide +kernel⟩, ⟨false, show kitB "tuple" "list" = some false by decide +kernel⟩, ⟨true, show kitB "tuple" "tuple" = some true by decide +kernel⟩, ⟨false, show kitB "tuple" "str" = some false by decide +kernel⟩⟩
structure Two (H : Hp) (m : Nat) (xs ys : List V) : Prop where
  few : xs.length ≤ 4000000
  len : xs.length = ys.length
  at_ : ∀ (i : Nat) (u v : V), xs[i]? = some u → ys[i]? = some v → ∃ d, DT H m u d ∧ DT H m v d
theorem two_of {H : Hp} {m : Nat} {xs ys : List V} {ds : List PyData} (l0 : xs.length ≤ 4000000) (l1 : xs.length = ds.length) (l2 : ys.length = ds.length) (h1 : ∀ (i : Nat) (x : V) (d : PyData), xs[i]? = some x → ds[i]? = some d → DT H m x d) (h2 : ∀ (i : Nat) (x : V) (d : PyData), ys[i]? = some x → ds[i]? = some d → DT H m x d) : Two H m xs ys := by
  refine ⟨l0, l1.trans l2.symm, fun i u v hu hv => ?_⟩
  have hi : i < ds.length := by
    have := (List.getElem?_eq_some_iff.mp hu).1
    omega
  exact ⟨ds[i], h1 i u _ hu (List.getElem?_eq_getElem hi), h2 i v _ hv (List.getElem?_eq_getElem hi)⟩
theorem DT.kinds {H : Hp} {n : Nat} {x y : V} {d : PyData} (hx : DT H n x d) (hy : DT H n y d) :
    (kitB (tyN d) "list" = some false ∧ kitB (tyN d) "tuple" = some false ∧ x = y ∧ scal x y = true) ∨
    (∃ m a b xs ys, n = m + 1 ∧ kitB (tyN d) "list" = some true ∧ x = .ref a ∧ y = .ref b ∧ H a = some (.lst xs) ∧ H b = some (.lst ys) ∧ Two H m xs ys) ∨
    (∃ m a b xs ys, n = m + 1 ∧ kitB (tyN d) "list" = some false ∧ kitB (tyN d) "tuple" = some true ∧ x = .ref a ∧ y = .ref b ∧ H a = some (.tup xs) ∧ H b = some (.tup ys) ∧ Two H m xs ys) := by
  cases hx with
  | non => cases hy; exact .inl ⟨show kitB "NoneType" "list" = some false by decide +kernel, show kitB "NoneType" "tuple" = some false by decide +kernel, rfl, rfl⟩
  | bl b => cases hy; exact .inl ⟨show kitB "bool" "list" = some false by decide +kernel, show kitB "bool" "tuple" = some false by decide +kernel, rfl, rfl⟩
  | int b => cases hy; exact .inl ⟨show kitB "int" "list" = some false by decide +kernel, show kitB "int" "tuple" = some false by decide +kernel, rfl, rfl⟩
  | str b => cases hy; exact .inl ⟨show kitB "str" "list" = some false by decide +kernel, show kitB "str" "tuple" = some false by decide +kernel, rfl, rfl⟩
  | lst e l z h =>
    cases hy with
    | lst e' l' z' h' => exact .inr (.inl ⟨_, _, _, _, _, rfl, show kitB "list" "list" = some true by decide +kernel, rfl, rfl, e, e', two_of z l l' h h'⟩)
  | tup e l z h =>
    cases hy with
    | tup e' l' z' h' => exact .inr (.inr ⟨_, _, _, _, _, rfl, show kitB "tuple" "list" = some false by decide +kernel, show kitB "tuple" "tuple" = some true by decide +kernel, rfl, rfl, e, e', two_of z l l' h h'⟩)
theorem walk_zipT {K : PySem.W.Frag} {a b : Addr} {xs ys : List V} (hl : xs.length = ys.length) : Walk (RZ.ItzT K a b) xs.length (fun H => SqT K H a xs ∧ SqT K H b ys) (YPair (fun i => xs[i]?) (fun i => ys[i]?)) := by
  refine ⟨fun i H hi q => ⟨xs, ys, xs[i], ys[i]'(by omega), q.1, q.2, List.getElem?_eq_getElem hi, List.getElem?_eq_getElem (by omega)⟩, fun H q => ⟨xs, ys, q.1, q.2, .inl (Nat.le_refl _)⟩, fun i H v H' hi q y => ?_⟩
  obtain ⟨T, x, y, e, hT, e2, f1, f2⟩ := y
  exact ⟨T, x, y, e, hT, e2, f1 _ q.1, f2 _ q.2⟩
theorem all_true : ∀ n : Nat, (List.replicate n true).all id = true
  | 0 => rfl
  | n + 1 => by
    show (true && (List.replicate n true).all id) = true
    rw [all_true n]; rfl
theorem rep_snoc (n : Nat) : (List.replicate (n + 1) true).map V.bl = (List.replicate n true).map V.bl ++ [V.bl true] := by
  rw [List.replicate_succ', List.map_append]; rfl
def spSame : Nat → Sp
  | 0 => fun _ _ _ _ => False
  | n + 1 => fun vs H Q _ => ∃ (x y : V) (d : PyData), vs = [x, y] ∧ DT H n x d ∧ DT H n y d ∧ ∀ H', Same H H' → Q (.bl true) H'
abbrev nSame : List Str := ["_law_told", "_law_due", "_law_one", "_law_other"]
theorem scSame : FnScope nSame ["_law_told", "_law_due"] (defScope sSame) := ⟨rfl, rfl, rfl, by decide +kernel, rfl, by decide +kernel, by decide +kernel⟩
structure TySame (mg : Str → Option Value) : Prop where
  isi : mg "isinstance" = none
  bool : mg "bool" = none
  int : mg "int" = none
  list : mg "list" = none
  tuple : mg "tuple" = none
  str : mg "str" = none
  len : mg "len" = none
  all : mg "all" = none
  zip : mg "zip" = none
section
variable {P : Program} {w : World} {K : PySem.W.Frag} {mg : Str → Option Value} {base : Heap}
theorem ok_same1 {f : Addr} {fd : FuncData} {n : Nat} (F : Fun K "_law_same" "_law_same" sSame f fd) (G : FnOk P w K mg base CX0 n f fd ["_law_told", "_law_due"] (spSame n)) (bG : Binds K fd ["_law_told", "_law_due"] []) (gG : mg "_law_same" = some (.ref f)) (T : TySame mg) :
    FnOk P w K mg base CX0 (n + 1) f fd ["_law_told", "_law_due"] (spSame (n + 1)) := by
  refine F.ok scSame (fun vs H Q E h => ?_) (fun cdv A outer s H vs Q E hr h => ?_)
  · obtain ⟨x, y, d, rfl, _⟩ := h; rfl
  obtain ⟨x, y, d, rfl, hx, hy, q⟩ := h
  refine ⟨_, pss_cons (ps_if (pt_cmpR op_isN (pv 1) pe_non (nomark _)) (pss_one (ps_ret (pe_cmpR op_isN (pv 0) pe_non (nomark _)))) pss_nil)
    (pss_cons (ps_if (PW.pt (pw_or (pt_cmpR op_ne (pe_callB call_isi (by rfl) T.isi PyProof.Rows.boot_isinstance (pa_cons (pv 0) (pa_cons (pe_bltn (v := .ty "bool") (by rfl) T.bool PyProof.Rows.boot_bool rfl) pa_nil))) (pe_callB call_isi (by rfl) T.isi PyProof.Rows.boot_isinstance (pa_cons (pv 1) (pa_cons (pe_bltn (v := .ty "bool") (by rfl) T.bool PyProof.Rows.boot_bool rfl) pa_nil))) (nomark _))
        (pw_or1 (pt_cmpR op_ne (pe_callB call_isi (by rfl) T.isi PyProof.Rows.boot_isinstance (pa_cons (pv 0) (pa_cons (pe_bltn (v := .ty "int") (by rfl) T.int PyProof.Rows.boot_int rfl) pa_nil))) (pe_callB call_isi (by rfl) T.isi PyProof.Rows.boot_isinstance (pa_cons (pv 1) (pa_cons (pe_bltn (v := .ty "int") (by rfl) T.int PyProof.Rows.boot_int rfl) pa_nil))) (nomark _)))))
      (pss_one (ps_ret pe_bl)) pss_nil)
    (pss_cons (ps_if (PW.pt (pw_or (pt_cmpR op_ne (pe_callB call_isi (by rfl) T.isi PyProof.Rows.boot_isinstance (pa_cons (pv 0) (pa_cons (pe_bltn (v := .ty "list") (by rfl) T.list PyProof.Rows.boot_list rfl) pa_nil))) (pe_callB call_isi (by rfl) T.isi PyProof.Rows.boot_isinstance (pa_cons (pv 1) (pa_cons (pe_bltn (v := .ty "list") (by rfl) T.list PyProof.Rows.boot_list rfl) pa_nil))) (nomark _))
        (pw_or1 (pt_cmpR op_ne (pe_callB call_isi (by rfl) T.isi PyProof.Rows.boot_isinstance (pa_cons (pv 0) (pa_cons (pe_bltn (v := .ty "tuple") (by rfl) T.tuple PyProof.Rows.boot_tuple rfl) pa_nil))) (pe_callB call_isi (by rfl) T.isi PyProof.Rows.boot_isinstance (pa_cons (pv 1) (pa_cons (pe_bltn (v := .ty "tuple") (by rfl) T.tuple PyProof.Rows.boot_tuple rfl) pa_nil))) (nomark _)))))
      (pss_one (ps_ret pe_bl)) pss_nil)
    (pss_cons (ps_if (PW.pt (pw_and (pt_not (pt_val (pe_callB call_isi (by rfl) T.isi PyProof.Rows.boot_isinstance (pa_cons (pv 1) (pa_cons (pe_bltn (v := .ty "list") (by rfl) T.list PyProof.Rows.boot_list rfl) pa_nil)))))
        (pw_and1 (pt_not (pt_val (pe_callB call_isi (by rfl) T.isi PyProof.Rows.boot_isinstance (pa_cons (pv 1) (pa_cons (pe_bltn (v := .ty "tuple") (by rfl) T.tuple PyProof.Rows.boot_tuple rfl) pa_nil))))))))
      (pss_one (ps_ret (pe_and (pe_cmpR op_eq (pe_callB call_isi (by rfl) T.isi PyProof.Rows.boot_isinstance (pa_cons (pv 0) (pa_cons (pe_bltn (v := .ty "str") (by rfl) T.str PyProof.Rows.boot_str rfl) pa_nil))) (pe_callB call_isi (by rfl) T.isi PyProof.Rows.boot_isinstance (pa_cons (pv 1) (pa_cons (pe_bltn (v := .ty "str") (by rfl) T.str PyProof.Rows.boot_str rfl) pa_nil))) (nomark _))
        (pe_one (pe_cmpR op_eq (pv 0) (pv 1) (nomark _)))))) pss_nil)
    (pss_one (ps_ret (pe_and (pe_cmpR op_eq (pe_callB call_len_seq (by rfl) T.len PySem.boot_len (pa_cons (pv 0) pa_nil)) (pe_callB call_len_seq (by rfl) T.len PySem.boot_len (pa_cons (pv 1) pa_nil)) (nomark _))
      (pe_one (pe_callB (cr_all rfl) (by rfl) T.all PyProof.Rows.boot_all (pa_cons (pe_lc (own := [("_law_one", 2), ("_law_other", 3)]) (g := gTup K 2 (gCons (gName 2) (gCons (gName 3) gNil))) (tt := tYes) rfl scSame.nd
        (RZ.pi_zipA (by rfl) T.zip (pa_cons (pv 0) (pa_cons (pv 1) pa_nil))) (blkOk_by (N := nSame) (sc := defScope sSame) (by decide +kernel))
        (fun _ _ _ _ _ => pg_tup rfl (pgs_cons (pg_name (i := 2) scSame.nd rfl (.inl rfl)) (pgs_cons (pg_name (i := 3) scSame.nd rfl (.inl rfl)) pgs_nil))) (fun _ _ _ _ _ => pts_nil)
        (fun _ _ _ _ _ => pe_call G hr (by rfl) gG F.kp bG .nil pass0 (pa_cons (pv 2) (pa_cons (pv 3) pa_nil)))) pa_nil))))))))), ?_⟩
  obtain ⟨⟨b1, k1⟩, ⟨b2, k2⟩, ⟨b3, k3⟩, ⟨b4, k4⟩, ⟨b5, k5⟩⟩ := kit_any hy
  have tx := hx.ty (K := K)
  have ty := hy.ty (K := K)
  have e1 := kit_ty (K := K) k1
  have e2 := kit_ty (K := K) k2
  have e3 := kit_ty (K := K) k3
  have e4 := kit_ty (K := K) k4
  have e5 := kit_ty (K := K) k5
  have nn : ∀ b : Bool, (!decide (V.bl b = V.bl b)) = false := fun b => by rw [decide_eq_true rfl]; rfl
  refine ⟨y, rfl, rfl, _, rfl, ite2 (fun c => ?_) (fun c => ?_)⟩
  · have c' : y = .non := of_decide_eq_true c
    subst c'
    cases hy
    cases hx
    exact ⟨_, rfl, rfl, q H (Same.refl H)⟩
  have cn : ¬ y = .non := fun e => c (decide_eq_true e)
  refine ⟨x, rfl, x, _, _, _, b1, rfl, .ty "bool", tx, e1, y, rfl, y, _, _, _, b1, rfl, .ty "bool", ty, e1, rfl, _, rfl, ?_⟩
  rw [nn]
  refine iteF ?_
  refine ⟨x, rfl, x, _, _, _, b2, rfl, .ty "int", tx, e2, y, rfl, y, _, _, _, b2, rfl, .ty "int", ty, e2, rfl, _, rfl, ?_⟩
  rw [nn]
  refine iteF ?_
  refine ⟨x, rfl, x, _, _, _, b3, rfl, .ty "list", tx, e3, y, rfl, y, _, _, _, b3, rfl, .ty "list", ty, e3, rfl, _, rfl, ?_⟩
  rw [nn]
  refine iteF ?_
  refine ⟨x, rfl, x, _, _, _, b4, rfl, .ty "tuple", tx, e4, y, rfl, y, _, _, _, b4, rfl, .ty "tuple", ty, e4, rfl, _, rfl, ?_⟩
  rw [nn]
  refine iteF ?_
  refine ⟨y, rfl, y, _, _, _, b3, rfl, .ty "list", ty, e3, _, rfl, ?_⟩
  rcases hx.kinds hy with ⟨j3, j4, exy, hsc⟩ | ⟨m, a, b, xs, ys, en, j3, ex, ey, ha, hb, two⟩ | ⟨m, a, b, xs, ys, en, j3, j4, ex, ey, ha, hb, two⟩
  · have f3 : b3 = false := Option.some.inj (k3.symm.trans j3)
    have f4 : b4 = false := Option.some.inj (k4.symm.trans j4)
    subst f3 f4 exy
    refine iteT ?_
    refine ⟨x, rfl, x, _, _, _, false, rfl, .ty "tuple", ty, e4, _, rfl, ?_⟩
    refine iteT ?_
    refine ⟨x, rfl, x, _, _, _, b5, rfl, .ty "str", tx, e5, x, rfl, x, _, _, _, b5, rfl, .ty "str", ty, e5, rfl, _, rfl, ?_⟩
    rw [decide_eq_true rfl]
    refine iteT ?_
    refine ⟨x, rfl, x, rfl, hsc, ?_⟩
    rw [decide_eq_true rfl]
    exact q H (Same.refl H)
  · have f3 : b3 = true := Option.some.inj (k3.symm.trans j3)
    subst f3 ex ey en
    refine iteF ?_
    refine iteF ?_
    refine ⟨.ref a, rfl, a, xs, rfl, .inl (.inl (.inl ha)), .ref b, rfl, b, ys, rfl, .inl (.inl (.inl hb)), rfl, _, rfl, ?_⟩
    rw [decide_eq_true (by rw [two.len])]
    refine iteT ?_
    refine ⟨.ref a, rfl, .ref b, rfl, a, b, xs, ys, rfl, .inl ⟨.inl (.inl ha), .inl (.inl hb), fun D nD => ?_⟩⟩
    have s1 : Same H (upd H D (.lst [])) := same_upd nD
    refine lc_it (walk_zip (K := K) (a := a) (b := b) (xs := xs) (ys := ys) (n := xs.length) (by rw [two.len, Nat.min_self])) (fun i H3 => Same H H3 ∧ H3 D = some (.lst ((List.replicate i true).map V.bl)) ∧ i ≤ xs.length) ⟨s1, upd_same, Nat.zero_le _⟩ (fun i H3 _ hP => ⟨hP.1.seq (.inl (.inl ha)), hP.1.seq (.inl (.inl hb))⟩) (fun i v H3 H4 hi hP hy4 => ?_) (fun H3 hP => ?_)
    · obtain ⟨sm, eD, _⟩ := hP
      obtain ⟨t, u1, u2, rfl, nt, rfl, g1, g2⟩ := hy4
      obtain ⟨du, d1, d2⟩ := two.at_ i u1 u2 g1 g2
      have s4 := same_upd (o := .tup [u1, u2]) nt
      have s5 := sm.trans s4
      refine ⟨t, [u1, u2], rfl, .inl (.inl upd_same), rfl, _, _, rfl, _, _, rfl, rfl, rfl, ?_⟩
      refine tYes_ok ?_
      refine iteT ?_
      refine ⟨u1, rfl, u2, rfl, u1, u2, du, rfl, d1.same s5, d2.same s5, fun H6 s6 => ?_⟩
      refine ⟨_, s6 _ _ (s4 _ _ eD), ?_, same_over (s5.trans s6) nD, ?_, hi⟩
      · rw [List.length_map, List.length_replicate]
        exact Nat.lt_of_le_of_lt (show i ≤ 4000000 by have := two.few; omega) (by decide)
      · rw [upd_same, rep_snoc]
    · obtain ⟨sm, eD, _⟩ := hP
      refine ⟨D, _, rfl, .inl (.inl eD), ?_⟩
      rw [all_true]
      exact q H3 sm
  · have f3 : b3 = false := Option.some.inj (k3.symm.trans j3)
    have f4 : b4 = true := Option.some.inj (k4.symm.trans j4)
    subst f3 f4 ex ey en
    refine iteT ?_
    refine ⟨.ref b, rfl, .ref b, _, _, _, true, rfl, .ty "tuple", ty, e4, _, rfl, ?_⟩
    refine iteF ?_
    refine ⟨.ref a, rfl, a, xs, rfl, .inr (.inl (.inl ha)), .ref b, rfl, b, ys, rfl, .inr (.inl (.inl hb)), rfl, _, rfl, ?_⟩
    rw [decide_eq_true (by rw [two.len])]
    refine iteT ?_
    refine ⟨.ref a, rfl, .ref b, rfl, a, b, xs, ys, rfl, .inr ⟨.inl (.inl ha), .inl (.inl hb), fun D nD => ?_⟩⟩
    have s1 : Same H (upd H D (.lst [])) := same_upd nD
    refine lc_it (walk_zipT (K := K) (a := a) (b := b) two.len) (fun i H3 => Same H H3 ∧ H3 D = some (.lst ((List.replicate i true).map V.bl)) ∧ i ≤ xs.length) ⟨s1, upd_same, Nat.zero_le _⟩ (fun i H3 _ hP => ⟨.inl (.inl (hP.1 _ _ ha)), .inl (.inl (hP.1 _ _ hb))⟩) (fun i v H3 H4 hi hP hy4 => ?_) (fun H3 hP => ?_)
    · obtain ⟨sm, eD, _⟩ := hP
      obtain ⟨t, u1, u2, rfl, nt, rfl, g1, g2⟩ := hy4
      obtain ⟨du, d1, d2⟩ := two.at_ i u1 u2 g1 g2
      have s4 := same_upd (o := .tup [u1, u2]) nt
      have s5 := sm.trans s4
      refine ⟨t, [u1, u2], rfl, .inl (.inl upd_same), rfl, _, _, rfl, _, _, rfl, rfl, rfl, ?_⟩
      refine tYes_ok ?_
      refine iteT ?_
      refine ⟨u1, rfl, u2, rfl, u1, u2, du, rfl, d1.same s5, d2.same s5, fun H6 s6 => ?_⟩
      refine ⟨_, s6 _ _ (s4 _ _ eD), ?_, same_over (s5.trans s6) nD, ?_, hi⟩
      · rw [List.length_map, List.length_replicate]
        exact Nat.lt_of_le_of_lt (show i ≤ 4000000 by have := two.few; omega) (by decide)
      · rw [upd_same, rep_snoc]
    · obtain ⟨sm, eD, _⟩ := hP
      refine ⟨D, _, rfl, .inl (.inl eD), ?_⟩
      rw [all_true]
      exact q H3 sm
theorem same_none {f : Addr} {fd : FuncData} : FnOk P w K mg base CX0 0 f fd ["_law_told", "_law_due"] (spSame 0) :=
  ⟨fun _ _ _ _ h => h.elim, fun _ _ _ _ _ _ _ _ _ _ _ _ _ h => h.elim⟩
theorem ok_same {f : Addr} {fd : FuncData} (F : Fun K "_law_same" "_law_same" sSame f fd) (bG : Binds K fd ["_law_told", "_law_due"] []) (gG : mg "_law_same" = some (.ref f)) (T : TySame mg) :
    ∀ n : Nat, FnOk P w K mg base CX0 n f fd ["_law_told", "_law_due"] (spSame n)
  | 0 => same_none
  | n + 1 => ok_same1 F (ok_same F bG gG T n) bG gG T
end
end Rep
namespace Rep
open PySem L2
theorem cut63 {xs : List V} (h : xs.length ≤ 63) : cutV xs none (some 63) = xs := by
  unfold cutV
  rw [show HT.sIx xs.length xs.length (some 63) = min 63 xs.length from HT.sIx_nat xs.length xs.length 63, HT.sIx_none]
  show (xs.take (min 63 xs.length - 0)) = xs
  exact List.take_of_length_le (by omega)
theorem m3_cases (r : Int) : r % 3 = 0 ∨ r % 3 = 1 ∨ r % 3 = 2 := by omega
theorem m4_cases (r : Int) : r % 4 = 0 ∨ r % 4 = 1 ∨ r % 4 = 2 ∨ r % 4 = 3 := by omega
theorem at3 {a b c r : Int} : ∃ z, atI ([.int a, .int b, .int c] : List V) (r % 3) = some (.int z) ∧ (z = a ∨ z = b ∨ z = c) := by
  rcases m3_cases r with e | e | e <;> rw [e]
  · exact ⟨a, rfl, .inl rfl⟩
  · exact ⟨b, rfl, .inr (.inl rfl)⟩
  · exact ⟨c, rfl, .inr (.inr rfl)⟩
theorem at4 {a b c d r : Int} : ∃ z, atI ([.int a, .int b, .int c, .int d] : List V) (r % 4) = some (.int z) ∧ (z = a ∨ z = b ∨ z = c ∨ z = d) := by
  rcases m4_cases r with e | e | e | e <;> rw [e]
  · exact ⟨a, rfl, .inl rfl⟩
  · exact ⟨b, rfl, .inr (.inl rfl)⟩
  · exact ⟨c, rfl, .inr (.inr (.inl rfl))⟩
  · exact ⟨d, rfl, .inr (.inr (.inr rfl))⟩
/-- what is covered within bounds has its ends within them -/
theorem Tdy.within {R ps : List Pr} (t : Tdy R) (h : ∀ x, cov R x → cov ps x) (s : Small ps) : ∀ p ∈ R, (-1000 ≤ p.1 ∧ p.1 ≤ 1000) ∧ (-1000 ≤ p.2 ∧ p.2 ≤ 1000) := by
  intro p hp
  have h0 := t.ok p hp
  obtain ⟨q, hq, a1, a2⟩ := (h p.1) ⟨p, hp, Int.le_refl _, h0⟩
  obtain ⟨r, hr, b1, b2⟩ := (h (p.2 - 1)) ⟨p, hp, by omega, by omega⟩
  have q1 := s.lo q hq
  have q2 := s.hi q hq
  have r1 := s.lo r hr
  have r2 := s.hi r hr
  omega
theorem small_some {ns : List Int} {k w : Int} {m : Nat} (hw : 0 < w) (hw2 : w ≤ 400) (hm : m ≤ 1000) : Small (someF ns k w m) := by
  refine ⟨by rw [someF_len]; exact hm, fun p hp => ?_, fun p hp => ?_⟩
  · have := someF_bd (ns := ns) (k := k) (w := w) (m := m) hw p hp
    omega
  · have := someF_bd (ns := ns) (k := k) (w := w) (m := m) hw p hp
    omega
theorem nodup_len {a b : List Int} (h : a.Nodup) (hs : ∀ x, x ∈ a → x ∈ b) : a.length ≤ b.length := List.Nodup.length_le_of_subset h hs
theorem rowsF_len (zs : List Int) : (rowsF zs).length ≤ zs.length := by
  have h1 := foldR_len zs []
  unfold rowsF
  rw [List.length_reverse]
  have e0 : ([] : List Pr).length = 0 := rfl
  omega
/-- the comprehension that scales rows -/
theorem lc_sc {K : PySem.W.Frag} {a : Addr} {rs : List V} {R : List Pr} {H8 : Hp} {by_ high : Int} {il ib iby ihi : Nat} {σ : L2.St}
    (eR : H8 a = some (.lst rs)) (plR : PL H8 rs R) (bR : ∀ p ∈ R, (-1000 ≤ p.1 ∧ p.1 ≤ 1000) ∧ (-1000 ≤ p.2 ∧ p.2 ≤ 1000)) (lR : R.length ≤ 3000000)
    (h1 : ∀ u v, (((wipe σ [il, ib]).set il (some u)).set ib (some v))[il]? = some (some u)) (h2 : ∀ u v, (((wipe σ [il, ib]).set il (some u)).set ib (some v))[ib]? = some (some v))
    (h3 : ∀ u v, (((wipe σ [il, ib]).set il (some u)).set ib (some v))[iby]? = some (some (.int by_))) (h4 : ∀ u v, (((wipe σ [il, ib]).set il (some u)).set ib (some v))[ihi]? = some (some (.int high)))
    (h5 : ∀ u v, wipe (((wipe σ [il, ib]).set il (some u)).set ib (some v)) [il, ib] = wipe σ [il, ib])
    {D : Addr} (nD : H8 D = none) {Qd : Hp → Prop} (hd : ∀ H5 ys, Same H8 H5 → H5 D = some (.lst ys) → PL H5 ys (R.map (sc by_ high)) → Qd H5) :
    ∃ W : Nat → Nat → Hp → Prop, (∃ m, W 0 m (upd H8 D (.lst []))) ∧ ∀ i m H, W i m H → ((Itl K a).stop i H ∧ Qd H) ∨ ((Itl K a).go i H ∧ ∃ Nx : Hp → Prop, (∀ H', Nx H' → ∃ m', m' < m ∧ W (i + 1) m' H') ∧
      ∀ x H', (Itl K a).yld i H x H' → (gTup K 2 (gCons (gName il) (gCons (gName ib) gNil))) x (wipe σ [il, ib]) H' fun σ2 H2 => wipe σ2 [il, ib] = wipe σ [il, ib] ∧ tYes σ2 H2 fun b H3 =>
        if b = true then (tTup (tCons (tOp (rI0 fun i j => .int (i + j)) (tOp (rI CMul fun i j => .int (i * j)) (tVar il) (tVar iby)) (tVar ihi)) (tCons (tOp (rI0 fun i j => .int (i + j)) (tOp (rI CMul fun i j => .int (i * j)) (tVar ib) (tVar iby)) (tVar ihi)) tNil))) σ2 H3 fun y H4 => ∃ acc, H4 D = some (.lst acc) ∧ acc.length < sizeLine ∧ Nx (upd H4 D (.lst (acc ++ [y]))) else Nx H3) := by
  refine lc_list (xs := rs) (fun i H5 => Same H8 H5 ∧ ∃ ys, H5 D = some (.lst ys) ∧ PL H5 ys ((R.take i).map (sc by_ high))) ⟨same_upd nD, [], upd_same, .nil⟩ (fun i H5 _ hP => .inl (.inl (hP.1 _ _ eR))) (fun i v H5 hv hP => ?_) (fun H5 hP => ?_)
  · obtain ⟨sm5, ys, eD, pl5⟩ := hP
    obtain ⟨t, p, rfl, ht, hp⟩ := plR.get hv
    have hi : i < R.length := (List.getElem?_eq_some_iff.mp hp).1
    have hb := bR p (List.mem_of_getElem? hp)
    refine ⟨t, [.int p.1, .int p.2], rfl, .inl (.inl (sm5 _ _ ht)), rfl, _, _, rfl, _, _, rfl, rfl, h5 _ _, ?_⟩
    refine tYes_ok ?_
    refine iteT ?_
    refine ⟨.int p.1, h1 _ _, .int by_, h3 _ _, _, _, rfl, rfl, .inl ⟨by omega, by omega⟩, .int high, h4 _ _, _, _, rfl, rfl, .int p.2, h2 _ _, .int by_, h3 _ _, _, _, rfl, rfl, .inl ⟨by omega, by omega⟩, .int high, h4 _ _, _, _, rfl, rfl, (by show 2 ≤ sizeLine; decide), fun t2 nt2 => ?_⟩
    have s9 := same_upd (o := .tup [.int (p.1 * by_ + high), .int (p.2 * by_ + high)]) nt2
    refine ⟨ys, s9 _ _ eD, ?_, same_over (sm5.trans s9) nD, ys ++ [.ref t2], upd_same, ?_⟩
    · rw [pl5.len, List.length_map, List.length_take]
      exact Nat.lt_of_le_of_lt (show _ ≤ 3000000 by omega) (by decide)
    · rw [List.take_add_one, hp, Option.toList_some, List.map_append]
      exact ((pl5.ts (TS.of s9)).snoc (upd_same (H := H5))).ts (TS.lst (s9 _ _ eD))
  · obtain ⟨s9, ys, eD, plD⟩ := hP
    rw [plR.len, List.take_length] at plD
    exact hd H5 ys s9 eD plD
theorem valV_kd (ks : List Int) (x : Int) : (valV (kd ks) (Sum.inl x : Key)).isSome = decide (x ∈ ks) := by
  rw [← valV_any]
  by_cases h : x ∈ ks
  · rw [decide_eq_true h]
    exact List.any_eq_true.mpr ⟨(Sum.inl x, V.bl true), List.mem_map.mpr ⟨x, h, rfl⟩, decide_eq_true rfl⟩
  · rw [decide_eq_false h]
    cases e : (kd ks).any fun kv => decide (kv.1 = (Sum.inl x : Key)) with
    | false => rfl
    | true =>
      obtain ⟨kv, hm, hd⟩ := List.any_eq_true.mp e
      obtain ⟨y, hy, rfl⟩ := List.mem_map.mp hm
      have e2 : (Sum.inl y : Key) = Sum.inl x := of_decide_eq_true hd
      cases e2
      exact absurd hy h
end Rep
namespace Rep
/-! counting in rows -/
def mnn (a b : Int) : Int := if b < a then b else a
def undF (ps : List Pr) (x : Int) : Int := ((ps.filter fun p => decide (p.1 < x)).map fun p => mnn p.2 x - p.1).sum
def kthF : List Pr → Int → Option Int
  | [], _ => none
  | p :: r, k => if k < p.2 - p.1 then some (p.1 + k) else kthF r (k - (p.2 - p.1))
def one_ (p : Pr) : List Int := (List.range (p.2 - p.1).toNat).map fun (i : Nat) => p.1 + (i : Int)
def flat : List Pr → List Int
  | [] => []
  | p :: r => one_ p ++ flat r
theorem mem_one {p : Pr} {x : Int} : x ∈ one_ p ↔ p.1 ≤ x ∧ x < p.2 := by
  unfold one_
  rw [List.mem_map]
  constructor
  · rintro ⟨i, hi, rfl⟩
    have := List.mem_range.mp hi
    omega
  · intro h
    exact ⟨(x - p.1).toNat, List.mem_range.mpr (by omega), by omega⟩
theorem mem_flat : ∀ {R : List Pr} {x : Int}, x ∈ flat R ↔ cov R x
  | [], x => ⟨fun h => (by cases h), fun h => absurd h cov_nil⟩
  | p :: r, x => by
    show x ∈ one_ p ++ flat r ↔ _
    rw [List.mem_append, mem_one, mem_flat, cov_cons]
theorem sorted_one (p : Pr) : (one_ p).Pairwise (· < ·) := by
  unfold one_
  rw [List.pairwise_map]
  exact List.pairwise_lt_range.imp fun h => by omega
theorem sorted_flat : ∀ {R : List Pr}, Tdy R → (flat R).Pairwise (· < ·)
  | [], _ => .nil
  | p :: r, h => by
    show (one_ p ++ flat r).Pairwise _
    rw [List.pairwise_append]
    refine ⟨sorted_one p, sorted_flat h.tail, fun a ha b hb => ?_⟩
    have h1 := mem_one.mp ha
    have h2 := h.behind (mem_flat.mp hb)
    omega
theorem sorted_uniq : ∀ {a b : List Int}, a.Pairwise (· < ·) → b.Pairwise (· < ·) → (∀ x, x ∈ a ↔ x ∈ b) → a = b
  | [], [], _, _, _ => rfl
  | [], y :: b, _, _, h => by
    have := (h y).mpr List.mem_cons_self
    cases this
  | x :: a, [], _, _, h => by
    have := (h x).mp List.mem_cons_self
    cases this
  | x :: a, y :: b, ha, hb, h => by
    have ha' := List.pairwise_cons.mp ha
    have hb' := List.pairwise_cons.mp hb
    have e : x = y := by
      rcases List.mem_cons.mp ((h x).mp List.mem_cons_self) with e | h1
      · exact e
      · rcases List.mem_cons.mp ((h y).mpr List.mem_cons_self) with e | h2
        · exact e.symm
        · have := hb'.1 x h1
          have := ha'.1 y h2
          omega
    subst e
    have et : a = b := sorted_uniq ha'.2 hb'.2 fun z => ⟨fun hz => by
      rcases List.mem_cons.mp ((h z).mp (List.mem_cons_of_mem _ hz)) with e | h1
      · have := ha'.1 z hz; omega
      · exact h1, fun hz => by
      rcases List.mem_cons.mp ((h z).mpr (List.mem_cons_of_mem _ hz)) with e | h1
      · have := hb'.1 z hz; omega
      · exact h1⟩
    rw [et]
theorem flat_rows {zs : List Int} (h : zs.Pairwise (· < ·)) : flat (rowsF zs) = zs := by
  obtain ⟨t, c, _⟩ := rowsF_tdy h
  exact sorted_uniq (sorted_flat t) h fun x => by rw [mem_flat, c]
theorem one_len (p : Pr) : (one_ p).length = (p.2 - p.1).toNat := by
  unfold one_; rw [List.length_map, List.length_range]
theorem one_get {p : Pr} {k : Nat} (h : k < (p.2 - p.1).toNat) : (one_ p)[k]? = some (p.1 + (k : Int)) := by
  unfold one_
  rw [List.getElem?_map, List.getElem?_range h]
  rfl
theorem kth_sc {by_ high a : Int} (hb : 0 < by_) (ha : 0 ≤ a) (ha' : a < by_) : ∀ {R : List Pr}, (∀ p ∈ R, p.1 < p.2) → ∀ k : Nat, kthF (R.map (sc by_ high)) ((k : Int) * by_ + a) = ((flat R)[k]?).map fun z => z * by_ + a + high
  | [], _, k => rfl
  | p :: r, h, k => by
    have hp := h p List.mem_cons_self
    show (if (k : Int) * by_ + a < p.2 * by_ + high - (p.1 * by_ + high) then some (p.1 * by_ + high + ((k : Int) * by_ + a)) else kthF (r.map (sc by_ high)) ((k : Int) * by_ + a - (p.2 * by_ + high - (p.1 * by_ + high)))) = ((one_ p ++ flat r)[k]?).map _
    have ew : p.2 * by_ + high - (p.1 * by_ + high) = (p.2 - p.1) * by_ := by rw [Int.sub_mul]; omega
    rw [ew]
    by_cases c : k < (p.2 - p.1).toNat
    · have c1 : (k : Int) + 1 ≤ p.2 - p.1 := by omega
      have c2 : ((k : Int) + 1) * by_ ≤ (p.2 - p.1) * by_ := Int.mul_le_mul_of_nonneg_right c1 (by omega)
      rw [Int.add_mul] at c2
      rw [if_pos (by omega), List.getElem?_append_left (by rw [one_len]; exact c), one_get c]
      show some _ = some ((p.1 + (k : Int)) * by_ + a + high)
      rw [Int.add_mul]
      congr 1
      omega
    · have c1 : p.2 - p.1 ≤ (k : Int) := by omega
      have c2 : (p.2 - p.1) * by_ ≤ (k : Int) * by_ := Int.mul_le_mul_of_nonneg_right c1 (by omega)
      rw [if_neg (by omega), List.getElem?_append_right (by rw [one_len]; omega), one_len]
      have e : (k : Int) * by_ + a - (p.2 - p.1) * by_ = ((k - (p.2 - p.1).toNat : Nat) : Int) * by_ + a := by
        have e1 : ((k - (p.2 - p.1).toNat : Nat) : Int) = (k : Int) - (p.2 - p.1) := by omega
        rw [e1]
        generalize p.2 - p.1 = wd at *
        rw [Int.sub_mul]
        omega
      rw [e]
      exact kth_sc hb ha ha' (fun q hq => h q (List.mem_cons_of_mem _ hq)) _
theorem kth_far : ∀ {R : List Pr} {k : Int}, (∀ p ∈ R, p.1 < p.2) → wid R ≤ k → kthF R k = none
  | [], _, _, _ => rfl
  | p :: r, k, h, hk => by
    rw [wid_cons] at hk
    have hw : 0 ≤ wid r := by
      clear hk
      have h' : ∀ q ∈ r, q.1 < q.2 := fun q hq => h q (List.mem_cons_of_mem _ hq)
      clear h
      induction r with
      | nil => exact Int.le_refl _
      | cons q r ih =>
        rw [wid_cons]
        have := h' q List.mem_cons_self
        have := ih fun z hz => h' z (List.mem_cons_of_mem _ hz)
        omega
    show (if k < p.2 - p.1 then _ else _) = none
    rw [if_neg (by omega)]
    exact kth_far (fun q hq => h q (List.mem_cons_of_mem _ hq)) (by omega)
theorem und_cons (p : Pr) (r : List Pr) (x : Int) : undF (p :: r) x = (if p.1 < x then mnn p.2 x - p.1 else 0) + undF r x := by
  unfold undF
  by_cases c : p.1 < x
  · have e : (p :: r).filter (fun p => decide (p.1 < x)) = p :: r.filter (fun p => decide (p.1 < x)) := by simp [c]
    rw [e, if_pos c, List.map_cons, List.sum_cons]
  · have e : (p :: r).filter (fun p => decide (p.1 < x)) = r.filter (fun p => decide (p.1 < x)) := by
      have c' : x ≤ p.1 := by omega
      simp [c']
    rw [e, if_neg c]
    omega
def b2 (b : Prop) [Decidable b] : Int := if b then 1 else 0
theorem filter_range (x y : Int) : ∀ n : Nat, (((List.range n).map fun (i : Nat) => y + (i : Int)).filter fun z => decide (z < x)).length = if y < x then min n (x - y).toNat else 0
  | 0 => by
    show 0 = _
    split <;> simp
  | n + 1 => by
    rw [List.range_succ, List.map_append, List.filter_append, List.length_append, filter_range x y n]
    by_cases c : y + (n : Int) < x
    · have e : (([n].map fun (i : Nat) => y + (i : Int)).filter fun z => decide (z < x)).length = 1 := by simp [c]
      rw [e, if_pos (by omega), if_pos (by omega)]
      omega
    · have e : (([n].map fun (i : Nat) => y + (i : Int)).filter fun z => decide (z < x)).length = 0 := by
        have c' : x ≤ y + (n : Int) := by omega
        simp [c']
      rw [e]
      split
      · omega
      · rfl
theorem und_flat : ∀ {R : List Pr}, (∀ p ∈ R, p.1 < p.2) → ∀ x : Int, undF R x = (((flat R).filter fun z => decide (z < x)).length : Int)
  | [], _, x => rfl
  | p :: r, h, x => by
    have hp := h p List.mem_cons_self
    rw [und_cons, und_flat (fun q hq => h q (List.mem_cons_of_mem _ hq)) x]
    show _ = (((one_ p ++ flat r).filter fun z => decide (z < x)).length : Int)
    rw [List.filter_append, List.length_append]
    have e := filter_range x p.1 (p.2 - p.1).toNat
    have e' : ((one_ p).filter fun z => decide (z < x)).length = if p.1 < x then min (p.2 - p.1).toNat (x - p.1).toNat else 0 := e
    rw [e']
    unfold mnn
    by_cases c : p.1 < x
    · rw [if_pos c, if_pos c]
      split <;> omega
    · rw [if_neg c, if_neg c]
      omega
theorem und_sc {by_ high a : Int} (hb : 0 < by_) (ha : 0 ≤ a) (ha' : a < by_) : ∀ {R : List Pr}, Tdy R → ∀ (x : Int) [Decidable (cov R x)], undF (R.map (sc by_ high)) (x * by_ + a + high) = undF R x * by_ + a * b2 (cov R x)
  | [], _, x, _ => by
    show (0 : Int) = 0 * by_ + a * b2 (cov [] x)
    unfold b2
    rw [if_neg cov_nil]
    omega
  | p :: r, h, x, dec => by
    have hp := h.ok p List.mem_cons_self
    have dr : Decidable (cov r x) := Classical.propDecidable _
    have ih := und_sc (high := high) hb ha ha' h.tail x
    rw [List.map_cons, und_cons, und_cons, ih]
    -- the first row's part
    have mono : ∀ {u v : Int}, u ≤ v → u * by_ ≤ v * by_ := fun {u v} l => Int.mul_le_mul_of_nonneg_right l (by omega)
    have key : (if (sc by_ high p).1 < x * by_ + a + high then mnn (sc by_ high p).2 (x * by_ + a + high) - (sc by_ high p).1 else 0) = (if p.1 < x then mnn p.2 x - p.1 else 0) * by_ + a * (if p.1 ≤ x ∧ x < p.2 then 1 else 0) := by
      show (if p.1 * by_ + high < x * by_ + a + high then mnn (p.2 * by_ + high) (x * by_ + a + high) - (p.1 * by_ + high) else 0) = _
      unfold mnn
      by_cases c1 : p.1 < x
      · have m1 := mono (Int.le_of_lt c1)
        have m1' := mono (show p.1 + 1 ≤ x by omega)
        rw [Int.add_mul] at m1'
        rw [if_pos c1, if_pos (by omega)]
        by_cases c2 : x < p.2
        · have m2 := mono (show x + 1 ≤ p.2 by omega)
          rw [Int.add_mul] at m2
          rw [if_pos (show x * by_ + a + high < p.2 * by_ + high by omega), if_pos c2, if_pos (show p.1 ≤ x ∧ x < p.2 from ⟨by omega, c2⟩), Int.sub_mul]
          omega
        · have m2 := mono (show p.2 ≤ x by omega)
          rw [if_neg (show ¬ x * by_ + a + high < p.2 * by_ + high by omega), if_neg c2, if_neg (show ¬ (p.1 ≤ x ∧ x < p.2) by omega), Int.sub_mul]
          omega
      · rw [if_neg c1]
        by_cases c2 : p.1 = x
        · subst c2
          have m2 := mono (show p.1 + 1 ≤ p.2 by omega)
          rw [Int.add_mul] at m2
          rw [if_pos (show p.1 ≤ p.1 ∧ p.1 < p.2 from ⟨Int.le_refl _, hp⟩)]
          by_cases c3 : p.1 * by_ + high < p.1 * by_ + a + high
          · rw [if_pos c3, if_pos (show p.1 * by_ + a + high < p.2 * by_ + high by omega)]; omega
          · rw [if_neg c3]; omega
        · have m2 := mono (show x + 1 ≤ p.1 by omega)
          rw [Int.add_mul] at m2
          rw [if_neg (show ¬ p.1 * by_ + high < x * by_ + a + high by omega), if_neg (show ¬ (p.1 ≤ x ∧ x < p.2) by omega)]
          omega
    rw [key]
    have e2 : b2 (cov (p :: r) x) = (if p.1 ≤ x ∧ x < p.2 then 1 else 0) + b2 (cov r x) := by
      unfold b2
      by_cases c1 : p.1 ≤ x ∧ x < p.2
      · rw [if_pos c1, if_pos (cov_cons.mpr (.inl c1)), if_neg fun z => by have := h.behind z; omega]
        rfl
      · rw [if_neg c1]
        by_cases c2 : cov r x
        · rw [if_pos c2, if_pos (cov_cons.mpr (.inr c2))]; rfl
        · rw [if_neg c2, if_neg fun z => (cov_cons.mp z).elim c1 c2]; rfl
    rw [e2, Int.add_mul, Int.mul_add]
    omega
theorem und_all : ∀ {R : List Pr} {x : Int}, (∀ p ∈ R, p.1 < p.2 ∧ p.2 ≤ x) → undF R x = wid R
  | [], _, _ => rfl
  | p :: r, x, h => by
    have hp := h p List.mem_cons_self
    rw [und_cons, wid_cons, und_all fun q hq => h q (List.mem_cons_of_mem _ hq), if_pos (by omega)]
    unfold mnn
    rw [if_neg (by omega)]
end Rep
namespace Rep
open PySem L2
/-! where a place stands among rows that rise by their first item -/
structure FL (H : Hp) (xs : List V) (fs : List Int) : Prop where
  len : xs.length = fs.length
  at_ : ∀ (i : Nat) (f : Int), fs[i]? = some f → ∃ t r, xs[i]? = some (.ref t) ∧ H t = some (.tup (.int f :: r))
theorem PL.fl {H : Hp} {xs : List V} {ps : List Pr} (h : PL H xs ps) : FL H xs (ps.map (·.1)) := by
  refine ⟨by rw [h.len, List.length_map], fun i f hf => ?_⟩
  rw [List.getElem?_map] at hf
  obtain ⟨p, hp, rfl⟩ := Option.map_eq_some_iff.mp hf
  have hi : i < xs.length := by
    have := (List.getElem?_eq_some_iff.mp hp).1
    rw [h.len]; exact this
  obtain ⟨t, q, et, ht, hq⟩ := h.get (List.getElem?_eq_getElem hi)
  rw [hp] at hq
  cases hq
  exact ⟨t, _, by rw [List.getElem?_eq_getElem hi, et], ht⟩
theorem FL.same {H H' : Hp} {xs : List V} {fs : List Int} (h : FL H xs fs) (s : Same H H') : FL H' xs fs :=
  ⟨h.len, fun i f hf => by obtain ⟨t, r, h1, h2⟩ := h.at_ i f hf; exact ⟨t, r, h1, s _ _ h2⟩⟩
structure Cut (fs : List Int) (x : Int) (L : Nat) : Prop where
  le : L ≤ fs.length
  lo : ∀ (i : Nat) (f : Int), i < L → fs[i]? = some f → f ≤ x
  hi : ∀ (i : Nat) (f : Int), L ≤ i → fs[i]? = some f → x < f
def spBegun (K : PySem.W.Frag) : Sp := fun vs H Q _ => ∃ (a : Addr) (xs : List V) (fs : List Int) (x : Int), vs = [.ref a, .int x] ∧ SqL K H a xs ∧ FL H xs fs ∧ fs.Pairwise (· ≤ ·) ∧ ∀ L : Nat, Cut fs x L → Q (.int (L : Int)) H
abbrev nBegun : List Str := ["rows", "place", "least", "most", "middle"]
theorem scBegun : FnScope nBegun ["rows", "place"] (defScope sBegun) := ⟨rfl, rfl, rfl, by decide +kernel, rfl, by decide +kernel, by decide +kernel⟩
theorem sorted_get {fs : List Int} (h : fs.Pairwise (· ≤ ·)) {i j : Nat} {f g : Int} (hi : fs[i]? = some f) (hj : fs[j]? = some g) (l : i ≤ j) : f ≤ g := by
  obtain ⟨h1, e1⟩ := List.getElem?_eq_some_iff.mp hi
  obtain ⟨h2, e2⟩ := List.getElem?_eq_some_iff.mp hj
  rcases Nat.lt_or_eq_of_le l with l | l
  · rw [← e1, ← e2]; exact List.pairwise_iff_getElem.mp h i j h1 h2 l
  · subst l; rw [← e1, ← e2]; exact Int.le_refl _
section
variable {P : Program} {w : World} {K : PySem.W.Frag} {mg : Str → Option Value} {base : Heap}
theorem ok_begun {f : Addr} {fd : FuncData} {k : Nat} (F : Fun K "begun" "begun" sBegun f fd) (ml : mg "len" = none) : FnOk P w K mg base CX0 (k + 1) f fd ["rows", "place"] (spBegun K) := by
  refine F.ok scBegun (fun vs H Q E h => ?_) (fun cdv A outer s H vs Q E hr h => ?_)
  · obtain ⟨a, xs, fs, x, rfl, _⟩ := h; rfl
  obtain ⟨a, xs, fs, x, rfl, hX, fl, hsrt, q⟩ := h
  refine ⟨_, (pss_cons (ps_par (i := 2) (j := 3) (by rfl) scBegun.nd rfl rfl (by decide) rfl rfl (pa_cons pe_int (pa_cons (pe_callB call_len_seq (by rfl) ml PySem.boot_len (pa_cons (pv 0) pa_nil)) pa_nil)) (by rfl))
    (pss_cons (ps_while PassesOwn.never (pt_cmpR op_lt (pv 2) (pv 3) (nomark _))
      (pss_cons (ps_set (i := 4) scBegun.nd rfl (.inl rfl) (pe_op op_fdiv (pe_op op_add (pv 2) (pv 3)) pe_int))
    (pss_one (ps_if (pt_cmpR op_le (pe_ix ix_tup (pe_ix ix_list (pv 0) (pv 4) (fun _ _ => rfl)) pe_int (fun _ _ => rfl)) (pv 1) (nomark _)) (pss_one (ps_set (i := 2) scBegun.nd rfl (.inl rfl) (pe_op op_add (pv 4) pe_int))) (pss_one (ps_set (i := 3) scBegun.nd rfl (.inl rfl) (pv 4)))))))
    (pss_one (ps_ret (pv 2))))), ?_⟩
  have lx := fl.len
  refine ⟨.ref a, rfl, a, xs, rfl, .inl hX, _, _, rfl, ?_⟩
  refine ⟨fun m σ H3 => ∃ (l h : Nat) (y : Option V), σ = [some (.ref a), some (.int x), some (.int (l : Int)), some (.int (h : Int)), y] ∧ H3 = H ∧ m = h - l ∧ l ≤ h ∧ h ≤ fs.length ∧ (∀ (i : Nat) (f : Int), i < l → fs[i]? = some f → f ≤ x) ∧ (∀ (i : Nat) (f : Int), h ≤ i → fs[i]? = some f → x < f),
    ⟨fs.length, 0, fs.length, none, ?_, rfl, rfl, Nat.zero_le _, Nat.le_refl _, fun i f hi => absurd hi (Nat.not_lt_zero _), fun i f hi hf => ?_⟩, ?_⟩
  · rw [← lx]; rfl
  · have := (List.getElem?_eq_some_iff.mp hf).1
    omega
  rintro m σ H3 ⟨l, h, y, rfl, rfl, rfl, h1, h2, h3, h4⟩
  refine ⟨.int (l : Int), rfl, .int (h : Int), rfl, _, _, rfl, rfl, _, rfl, ite2 (fun c => ?_) (fun c => ?_)⟩
  · have c1 : (l : Int) < (h : Int) := of_decide_eq_true c
    obtain ⟨md, hmd, hmd1, hmd2⟩ : ∃ md : Nat, ((l : Int) + (h : Int)) / 2 = (md : Int) ∧ l ≤ md ∧ md < h := ⟨(((l : Int) + (h : Int)) / 2).toNat, by omega, by omega, by omega⟩
    refine ⟨fun σ' H' => ∃ (l' h' : Nat) (y : Option V), σ' = [some (.ref a), some (.int x), some (.int (l' : Int)), some (.int (h' : Int)), y] ∧ H' = H3 ∧ h' - l' < h - l ∧ l' ≤ h' ∧ h' ≤ fs.length ∧ (∀ (i : Nat) (f : Int), i < l' → fs[i]? = some f → f ≤ x) ∧ (∀ (i : Nat) (f : Int), h' ≤ i → fs[i]? = some f → x < f), fun σ' H' hN => ?_, ?_⟩
    · obtain ⟨l', h', y', e1, e2, e3, e4, e5, e6, e7⟩ := hN
      exact ⟨h' - l', e3, l', h', y', e1, e2, rfl, e4, e5, e6, e7⟩
    refine ⟨.int (l : Int), rfl, .int (h : Int), rfl, _, _, rfl, rfl, _, 2, rfl, rfl, ⟨by decide, by decide⟩, ?_⟩
    show gName 4 (.int (((l : Int) + (h : Int)) / 2)) _ _ _
    rw [hmd]
    have hmf : md < fs.length := by omega
    obtain ⟨t, r, et, ht⟩ := fl.at_ md _ (List.getElem?_eq_getElem hmf)
    refine ⟨.ref a, rfl, .int (md : Int), rfl, a, xs, _, _, rfl, rfl, hX, atI_nat et, t, _, 0, .int fs[md], rfl, rfl, .inl (.inl ht), atI_nat (j := 0) rfl, .int x, rfl, _, _, rfl, rfl, _, rfl, ite2 (fun c => ?_) (fun c => ?_)⟩
    · have c2 : fs[md] ≤ x := of_decide_eq_true c
      refine ⟨.int (md : Int), rfl, _, 1, rfl, rfl, md + 1, h, some (.int (md : Int)), rfl, rfl, by omega, by omega, h2, fun i f hi hf => ?_, h4⟩
      have := sorted_get hsrt hf (List.getElem?_eq_getElem hmf) (by omega)
      omega
    · have c2 : ¬ fs[md] ≤ x := fun e => c (decide_eq_true e)
      refine ⟨.int (md : Int), rfl, l, md, some (.int (md : Int)), rfl, rfl, by omega, by omega, by omega, h3, fun i f hi hf => ?_⟩
      have := sorted_get hsrt (List.getElem?_eq_getElem hmf) hf (by omega)
      omega
  · have c1 : ¬ (l : Int) < (h : Int) := fun e => c (decide_eq_true e)
    have e : l = h := by omega
    subst e
    exact ⟨.int (l : Int), rfl, q l ⟨h2, h3, h4⟩⟩
end
/-! has -/
theorem cov_cut {ps : List Pr} {x : Int} {L : Nat} (t : Tdy ps) (c : Cut (ps.map (·.1)) x L) : cov ps x ↔ ∃ j p, L = j + 1 ∧ ps[j]? = some p ∧ x < p.2 := by
  constructor
  · rintro ⟨p, hp, h1, h2⟩
    obtain ⟨j, hj⟩ := List.mem_iff_getElem?.mp hp
    have hjl : (ps.map (·.1))[j]? = some p.1 := by rw [List.getElem?_map, hj]; rfl
    have h3 : j < L := by
      rcases Nat.lt_or_ge j L with h | h
      · exact h
      · have := c.hi j _ h hjl; omega
    refine ⟨j, p, ?_, hj, h2⟩
    rcases Nat.lt_or_ge (j + 1) L with h | h
    · have hn : j + 1 < ps.length := by have := c.le; rw [List.length_map] at this; omega
      have h4 := c.lo (j + 1) ps[j + 1].1 h (by rw [List.getElem?_map, List.getElem?_eq_getElem hn]; rfl)
      have h5 := List.pairwise_iff_getElem.mp t.gap j (j + 1) (by omega) hn (by omega)
      have e : ps[j] = p := by
        have := List.getElem?_eq_getElem (l := ps) (i := j) (by omega)
        rw [this] at hj; exact Option.some.inj hj
      rw [e] at h5
      omega
    · omega
  · rintro ⟨j, p, e, hj, h⟩
    have h1 := c.lo j p.1 (by omega) (by rw [List.getElem?_map, hj]; rfl)
    exact ⟨p, List.mem_of_getElem? hj, h1, h⟩
theorem Tdy.firsts {ps : List Pr} (t : Tdy ps) : (ps.map (·.1)).Pairwise (· ≤ ·) := by
  rw [List.pairwise_map]
  exact List.Pairwise.imp_of_mem (fun {p q} hp hq h => by have := t.ok p hp; omega) t.gap
def spHas (K : PySem.W.Frag) : Sp := fun vs H Q _ => ∃ (a : Addr) (xs : List V) (ps : List Pr) (x : Int), vs = [.ref a, .int x] ∧ SqL K H a xs ∧ PL H xs ps ∧ Tdy ps ∧ ∀ b : Bool, (b = true ↔ cov ps x) → Q (.bl b) H
abbrev nHas : List Str := ["rows", "place", "k"]
theorem scHas : FnScope nHas ["rows", "place"] (defScope sHas) := ⟨rfl, rfl, rfl, by decide +kernel, rfl, by decide +kernel, by decide +kernel⟩
section
variable {P : Program} {w : World} {K : PySem.W.Frag} {mg : Str → Option Value} {base : Heap}
theorem ok_has {f fG : Addr} {fd fdG : FuncData} {k : Nat} (F : Fun K "has" "has" sHas f fd) (GG : FnOk P w K mg base CX0 k fG fdG ["rows", "place"] (spBegun K)) (kG : PySem.W.keepIn K (.ref fG) = true) (bG : Binds K fdG ["rows", "place"] []) (mG : mg "begun" = some (.ref fG)) : FnOk P w K mg base CX0 (k + 1) f fd ["rows", "place"] (spHas K) := by
  refine F.ok scHas (fun vs H Q E h => ?_) (fun cdv A outer s H vs Q E hr h => ?_)
  · obtain ⟨a, xs, ps, x, rfl, _⟩ := h; rfl
  obtain ⟨a, xs, ps, x, rfl, hX, pl, td, q⟩ := h
  refine ⟨_, (pss_cons (ps_set (i := 2) scHas.nd rfl (.inl rfl) (pe_call GG hr (by rfl) mG kG bG .nil pass0 (pa_cons (pv 0) (pa_cons (pv 1) pa_nil))))
    (pss_one (ps_ret (pe_and (pe_cmpR op_gt (pv 2) pe_int (nomark _)) (pe_one (pe_cmpR op_lt (pv 1) (pe_ix ix_tup (pe_ix ix_list (pv 0) (pe_op op_sub (pv 2) pe_int) (fun _ _ => rfl)) pe_int (fun _ _ => rfl)) (nomark _))))))), ?_⟩
  refine ⟨.ref a, rfl, .int x, rfl, a, xs, _, x, rfl, hX, pl.fl, td.firsts, fun L cut => ?_⟩
  have cc := cov_cut td cut
  refine ⟨.int (L : Int), rfl, _, 0, rfl, rfl, _, rfl, ?_⟩
  by_cases c : (0 : Int) < (L : Int)
  · rw [decide_eq_true c]
    refine iteT ?_
    have hL : L ≤ ps.length := by have := cut.le; rw [List.length_map] at this; exact this
    obtain ⟨j, rfl⟩ : ∃ j, L = j + 1 := ⟨L - 1, by omega⟩
    have hj : j < ps.length := by omega
    have hjx : j < xs.length := by rw [pl.len]; exact hj
    obtain ⟨t, p, et, ht, hp⟩ := pl.get (List.getElem?_eq_getElem hjx)
    have e1 : (((j + 1 : Nat) : Int) - 1) = (j : Int) := by omega
    have at_ : atI xs (((j + 1 : Nat) : Int) - 1) = some (.ref t) := by rw [e1]; exact atI_nat (by rw [List.getElem?_eq_getElem hjx, et])
    refine ⟨.int x, rfl, .ref a, rfl, .int ((j + 1 : Nat) : Int), rfl, _, 1, rfl, rfl, a, xs, _, _, rfl, rfl, hX, at_, t, _, 1, .int p.2, rfl, rfl, .inl (.inl ht), rfl, _, _, rfl, rfl, ?_⟩
    refine q _ ⟨fun h => cc.mpr ⟨j, p, rfl, hp, of_decide_eq_true h⟩, fun h => ?_⟩
    obtain ⟨j', p', e, hp', hx⟩ := cc.mp h
    have ej : j' = j := by omega
    subst ej
    rw [hp] at hp'
    cases hp'
    exact decide_eq_true hx
  · rw [decide_eq_false c]
    refine iteF ?_
    refine q false ⟨fun h => (by cases h), fun h => ?_⟩
    obtain ⟨j, p, e, _⟩ := cc.mp h
    omega
end
/-! under -/
def spUnder (K : PySem.W.Frag) : Sp := fun vs H Q _ => ∃ (a : Addr) (xs : List V) (ps : List Pr) (x : Int), vs = [.ref a, .int x] ∧ SqL K H a xs ∧ PL H xs ps ∧ ps.length ≤ 3000000 ∧ ∀ H', Same H H' → Q (.int (undF ps x)) H'
abbrev nUnder : List Str := ["rows", "place", "low", "behind"]
theorem scUnder : FnScope nUnder ["rows", "place"] (defScope sUnder) := ⟨rfl, rfl, rfl, by decide +kernel, rfl, by decide +kernel, by decide +kernel⟩
section
variable {P : Program} {w : World} {K : PySem.W.Frag} {mg : Str → Option Value} {base : Heap}
theorem ok_under {f : Addr} {fd : FuncData} {k : Nat} (F : Fun K "under" "under" sUnder f fd) (ms : mg "sum" = none) (mm : mg "min" = none) : FnOk P w K mg base CX0 (k + 1) f fd ["rows", "place"] (spUnder K) := by
  refine F.ok scUnder (fun vs H Q E h => ?_) (fun cdv A outer s H vs Q E hr h => ?_)
  · obtain ⟨a, xs, ps, x, rfl, _⟩ := h; rfl
  obtain ⟨a, xs, ps, x, rfl, hX, pl, lp, q⟩ := h
  refine ⟨_, (pss_one (ps_ret (pe_callB (cr_sum rfl) (by rfl) ms PyProof.Rows.boot_sum (pa_cons (pe_lc (own := [("low", 2), ("behind", 3)]) (g := (gTup K 2 (gCons (gName 2) (gCons (gName 3) gNil)))) (tt := _) rfl scUnder.nd (pi_list (pv 0)) (blkOk_by (N := nUnder) (sc := defScope sUnder) (by decide +kernel)) (fun _ _ _ _ _ => (pg_tup rfl (pgs_cons (pg_name (i := 2) scUnder.nd rfl (.inl rfl)) (pgs_cons (pg_name (i := 3) scUnder.nd rfl (.inl rfl)) pgs_nil)))) (fun _ _ _ _ _ => (pts_one (pt_cmpR op_lt (pv 2) (pv 1) (nomark _)))) (fun _ _ _ _ _ => (pe_op op_sub (pe_callB (call_min2 rfl) (by rfl) mm (by decide +kernel) (pa_cons (pv 3) (pa_cons (pv 1) pa_nil))) (pv 2)))) pa_nil)))), ?_⟩
  refine ⟨.ref a, rfl, a, rfl, ⟨_, hX⟩, fun D nD => ?_⟩
  have s1 : Same H (upd H D (.lst [])) := same_upd nD
  refine lc_list (xs := xs) (fun i H3 => Same H H3 ∧ H3 D = some (.lst ((((ps.take i).filter fun p => decide (p.1 < x)).map fun p => mnn p.2 x - p.1).map V.int))) ⟨s1, upd_same⟩ (fun i H3 _ hP => hP.1.seq hX) (fun i v H3 hv hP => ?_) (fun H3 hP => ?_)
  · obtain ⟨sm, eD⟩ := hP
    obtain ⟨t, p, rfl, ht, hp⟩ := pl.get hv
    have hi : i < ps.length := (List.getElem?_eq_some_iff.mp hp).1
    have et : ps.take (i + 1) = ps.take i ++ [p] := by rw [List.take_add_one, hp]; rfl
    refine ⟨t, [.int p.1, .int p.2], rfl, .inl (.inl (sm _ _ ht)), rfl, _, _, rfl, _, _, rfl, rfl, rfl, ?_⟩
    refine ⟨.int p.1, rfl, .int x, rfl, _, _, rfl, rfl, _, rfl, ?_⟩
    refine ite2 (fun c => ?_) (fun c => ?_)
    · have c1 : p.1 < x := of_decide_eq_true c
      have fp : [p].filter (fun p => decide (p.1 < x)) = [p] := by simp [c1]
      refine ⟨.int p.2, rfl, .int x, rfl, p.2, x, rfl, .int p.1, rfl, _, _, rfl, rfl, _, eD, ?_, same_over sm nD, ?_⟩
      · rw [List.length_map, List.length_map]
        have h1 := List.length_filter_le (fun p : Pr => decide (p.1 < x)) (ps.take i)
        rw [List.length_take] at h1
        exact Nat.lt_of_le_of_lt (show _ ≤ 3000000 by omega) (by decide)
      · rw [upd_same, et, List.filter_append, fp, List.map_append, List.map_append]
        rfl
    · have c1 : x ≤ p.1 := by
        have : ¬ p.1 < x := fun e => c (decide_eq_true e)
        omega
      have fp : [p].filter (fun p => decide (p.1 < x)) = [] := by simp [c1]
      refine ⟨sm, ?_⟩
      rw [eD, et, List.filter_append, fp, List.append_nil]
  · obtain ⟨sm, eD⟩ := hP
    rw [pl.len, List.take_length] at eD
    exact ⟨D, _, rfl, .inl (.inl eD), q H3 sm⟩
end
/-! kth -/
def oV : Option Int → V
  | none => .non
  | some z => .int z
def kth_ (ps : List Pr) (k : Int) : Option Int := if k < 0 then none else kthF ps k
def spKth (K : PySem.W.Frag) : Sp := fun vs H Q _ => ∃ (a : Addr) (xs : List V) (ps : List Pr) (k : Int), vs = [.ref a, .int k] ∧ SqL K H a xs ∧ PL H xs ps ∧ Q (oV (kth_ ps k)) H
abbrev nKth : List Str := ["rows", "k", "low", "behind"]
theorem scKth : FnScope nKth ["rows", "k"] (defScope sKth) := ⟨rfl, rfl, rfl, by decide +kernel, rfl, by decide +kernel, by decide +kernel⟩
section
variable {P : Program} {w : World} {K : PySem.W.Frag} {mg : Str → Option Value} {base : Heap}
theorem ok_kth {f : Addr} {fd : FuncData} {k : Nat} (F : Fun K "kth" "kth" sKth f fd) : FnOk P w K mg base CX0 (k + 1) f fd ["rows", "k"] (spKth K) := by
  refine F.ok scKth (fun vs H Q E h => ?_) (fun cdv A outer s H vs Q E hr h => ?_)
  · obtain ⟨a, xs, ps, x, rfl, _⟩ := h; rfl
  obtain ⟨a, xs, ps, x, rfl, hX, pl, q⟩ := h
  refine ⟨_, (pss_cons (ps_if (pt_cmpR op_lt (pv 1) pe_int (nomark _)) (pss_one (ps_ret pe_non)) pss_nil)
    (pss_cons (ps_for PassesOwn.never rfl (pi_list (pv 0)) (pg_tup rfl (pgs_cons (pg_name (i := 2) scKth.nd rfl (.inl rfl)) (pgs_cons (pg_name (i := 3) scKth.nd rfl (.inl rfl)) pgs_nil)))
      (pss_cons (ps_if (pt_cmpR op_lt (pv 1) (pe_op op_sub (pv 3) (pv 2)) (nomark _)) (pss_one (ps_ret (pe_op op_add (pv 2) (pv 1)))) pss_nil)
    (pss_one (ps_aug (i := 1) scKth.nd rfl (.inl rfl) (pe_op op_sub (pv 3) (pv 2)) ip_sub))))
    (pss_one (ps_ret pe_non)))), ?_⟩
  unfold kth_ at q
  refine ⟨.int x, rfl, _, 0, rfl, rfl, _, rfl, ite2 (fun c => ?_) (fun c => ?_)⟩
  · rw [if_pos (of_decide_eq_true c)] at q
    exact q
  · rw [if_neg (fun e => c (decide_eq_true e))] at q
    refine ⟨.ref a, rfl, a, rfl, ⟨_, hX⟩, for_list (xs := xs) (fun i σ H3 => ∃ (z : Int) (y2 y3 : Option V), σ = [some (.ref a), some (.int z), y2, y3] ∧ H3 = H ∧ kthF ps x = kthF (ps.drop i) z) ⟨x, none, none, rfl, rfl, rfl⟩ (fun i σ H3 _ hP => ?_) (fun i v σ H3 hv hP => ?_) (fun σ H3 hP => ?_)⟩
    · obtain ⟨z, y2, y3, _, rfl, _⟩ := hP
      exact hX
    · obtain ⟨z, y2, y3, rfl, rfl, ek⟩ := hP
      obtain ⟨t, p, rfl, ht, hp⟩ := pl.get hv
      have e1 : kthF (ps.drop i) z = if z < p.2 - p.1 then some (p.1 + z) else kthF (ps.drop (i + 1)) (z - (p.2 - p.1)) := by
        obtain ⟨hi, e⟩ := List.getElem?_eq_some_iff.mp hp
        rw [List.drop_eq_getElem_cons hi, e]
        rfl
      refine ⟨t, [.int p.1, .int p.2], rfl, .inl (.inl ht), rfl, _, _, rfl, _, _, rfl, rfl, ?_⟩
      refine ⟨.int z, rfl, .int p.2, rfl, .int p.1, rfl, _, _, rfl, rfl, _, _, rfl, rfl, _, rfl, ite2 (fun c => ?_) (fun c => ?_)⟩
      · have c1 : z < p.2 - p.1 := of_decide_eq_true c
        rw [ek, e1, if_pos c1] at q
        exact ⟨.int p.1, rfl, .int z, rfl, _, _, rfl, rfl, q⟩
      · have c1 : ¬ z < p.2 - p.1 := fun e => c (decide_eq_true e)
        refine ⟨.int z, rfl, .int p.2, rfl, .int p.1, rfl, _, _, rfl, rfl, _, _, rfl, rfl, z - (p.2 - p.1), some (.int p.1), some (.int p.2), rfl, rfl, ?_⟩
        rw [ek, e1, if_neg c1]
    · obtain ⟨z, y2, y3, rfl, rfl, ek⟩ := hP
      rw [pl.len, List.drop_length] at ek
      rw [ek] at q
      exact q
end
end Rep
namespace Rep
open PySem L2
def spLaw (K : PySem.W.Frag) : Sp := fun vs H Q _ => ∃ (a : Addr) (ns : List Int), vs = [.ref a] ∧ SqL K H a (ns.map V.int) ∧ ns.length ≤ 63 ∧ ∀ H', Q (.bl true) H'
abbrev nLaw : List Str := ["_law_script", "_law_many", "_law_far", "_law_high", "_law_kind", "_law_raw_here", "_law_rest", "_law_by", "_law_places", "_law_due", "_law_rows", "_law_handed", "_law_place", "_law_away", "_law_spot", "_law_under_it", "_law_k", "_law_at", "_law_low", "_law_behind", "_law_one"]
theorem scLaw : FnScope nLaw ["_law_script"] (defScope sLaw) := ⟨rfl, rfl, rfl, by decide +kernel, rfl, by decide +kernel, by decide +kernel⟩
structure TLaw (P : Program) (w : World) (K : PySem.W.Frag) (mg : Str → Option Value) (base : Heap) (fD fS fR fP fE fH fU fK : Addr) (fdD fdS fdR fdP fdE fdH fdU fdK : FuncData) : Prop where
  gD : FnOk P w K mg base CX0 3 fD fdD ["_law_script", "_law_k", "_law_sizes"] (spDig K)
  bD : Binds K fdD ["_law_script", "_law_k", "_law_sizes"] []
  kD : PySem.W.keepIn K (.ref fD) = true
  mD : mg "_law_digits" = some (.ref fD)
  gS : FnOk P w K mg base CX0 4 fS fdS ["_law_script", "_law_k", "_law_many", "_law_wide"] (spSome K)
  bS : Binds K fdS ["_law_script", "_law_k", "_law_many", "_law_wide"] []
  kS : PySem.W.keepIn K (.ref fS) = true
  mS : mg "_law_some_rows" = some (.ref fS)
  gR : FnOk P w K mg base CX0 1 fR fdR ["_law_places"] (spRowsOf K)
  bR : Binds K fdR ["_law_places"] []
  kR : PySem.W.keepIn K (.ref fR) = true
  mR : mg "_law_rows_of" = some (.ref fR)
  gP : FnOk P w K mg base CX0 1 fP fdP ["_law_rows"] (spPlaces K)
  bP : Binds K fdP ["_law_rows"] []
  kP : PySem.W.keepIn K (.ref fP) = true
  mP : mg "_law_places_in" = some (.ref fP)
  gE : FnOk P w K mg base CX0 3 fE fdE ["_law_told", "_law_due"] (spSame 3)
  bE : Binds K fdE ["_law_told", "_law_due"] []
  kE : PySem.W.keepIn K (.ref fE) = true
  mE : mg "_law_same" = some (.ref fE)
  gH : FnOk P w K mg base CX0 2 fH fdH ["rows", "place"] (spHas K)
  bH : Binds K fdH ["rows", "place"] []
  kH : PySem.W.keepIn K (.ref fH) = true
  mH : mg "has" = some (.ref fH)
  gU : FnOk P w K mg base CX0 1 fU fdU ["rows", "place"] (spUnder K)
  bU : Binds K fdU ["rows", "place"] []
  kU : PySem.W.keepIn K (.ref fU) = true
  mU : mg "under" = some (.ref fU)
  gK : FnOk P w K mg base CX0 1 fK fdK ["rows", "k"] (spKth K)
  bK : Binds K fdK ["rows", "k"] []
  kK : PySem.W.keepIn K (.ref fK) = true
  mK : mg "kth" = some (.ref fK)
  ml : mg "list" = none
  mr : mg "range" = none
  mn : mg "len" = none
  ms : mg "sorted" = none
  mi : mg "int" = none
abbrev S2 (a1 : Addr) (m : Nat) (far high kind raw rest by_ : Int) (x8 x9 x10 x11 x12 x13 x14 x15 x16 x17 : Option V) : L2.St :=
  [some (.ref a1), some (.int (m : Int)), some (.int far), some (.int high), some (.int kind), some (.int raw), some (.int rest), some (.int by_), x8, x9, x10, x11, x12, x13, x14, x15, x16, x17, none, none, none]
theorem div_in {x a b : Int} (h0 : 0 ≤ a) (h1 : a < b) : (x * b + a) / b = x := by
  have hb : 0 < b := by omega
  have e1 : x ≤ (x * b + a) / b := (Int.le_ediv_iff_mul_le hb).mpr (by omega)
  have e2 : ¬ x + 1 ≤ (x * b + a) / b := fun z => by
    have := (Int.le_ediv_iff_mul_le hb).mp z
    rw [Int.add_mul] at this
    omega
  omega
/-- what the law asks, of the scaled rows of places in order -/
structure Asked (du : List Pr) (zs : List Int) (by_ hi : Int) : Prop where
  td : Tdy du
  few : zs.length ≤ 128
  dlen : du.length ≤ 128
  bd : ∀ z ∈ zs, 0 ≤ z ∧ z < 128
  has : ∀ x a, 0 ≤ a → a < by_ → (cov du (x * by_ + a + hi) ↔ x ∈ zs)
  und : ∀ x a, 0 ≤ a → a < by_ → undF du (x * by_ + a + hi) = ((zs.filter fun z => decide (z < x)).length : Int) * by_ + a * (if decide (x ∈ zs) = true then 1 else 0)
  kth : ∀ (k : Nat) a, 0 ≤ a → a < by_ → kthF du ((k : Int) * by_ + a) = (zs[k]?).map fun z => z * by_ + a + hi
  wid : wid du = (zs.length : Int) * by_
  top : ∀ p ∈ du, p.2 ≤ 128 * by_ + hi
theorem few_of {zs : List Int} (h : zs.Pairwise (· < ·)) (hb : ∀ z ∈ zs, 0 ≤ z ∧ z < 128) : zs.length ≤ 128 := by
  have hn : zs.Nodup := h.imp fun z => by omega
  have := nodup_len (b := (List.range 128).map fun (i : Nat) => (i : Int)) hn fun x hx => by
    have := hb x hx
    exact List.mem_map.mpr ⟨x.toNat, List.mem_range.mpr (by omega), by omega⟩
  rw [List.length_map, List.length_range] at this
  exact this
theorem asked_of {zs : List Int} {by_ hi : Int} (hb : 0 < by_) (h : zs.Pairwise (· < ·)) (hz : ∀ z ∈ zs, 0 ≤ z ∧ z < 128) : Asked ((rowsF zs).map (sc by_ hi)) zs by_ hi := by
  obtain ⟨tR, cR, wR⟩ := rowsF_tdy h
  have fl := flat_rows h
  have hl := few_of h hz
  have hh : ∀ x a, 0 ≤ a → a < by_ → (cov ((rowsF zs).map (sc by_ hi)) (x * by_ + a + hi) ↔ x ∈ zs) := fun x a h0 h1 => by
    have e : (x * by_ + a + hi - hi) / by_ = x := by
      rw [show x * by_ + a + hi - hi = x * by_ + a by omega]
      exact div_in h0 h1
    rw [cov_sc hb, e, cR]
  refine ⟨tR.scale hb, hl, ?_, hz, hh, fun x a h0 h1 => ?_, fun k a h0 h1 => ?_, ?_, fun p hp => ?_⟩
  · rw [List.length_map]
    have := rowsF_len zs
    omega
  · have dec : Decidable (cov (rowsF zs) x) := Classical.propDecidable _
    rw [und_sc hb h0 h1 tR x, und_flat tR.ok, fl]
    unfold b2
    congr 2
    by_cases c : x ∈ zs
    · rw [if_pos ((cR x).mpr c), if_pos (decide_eq_true c)]
    · rw [if_neg fun z => c ((cR x).mp z), if_neg fun z => c (of_decide_eq_true z)]
  · rw [kth_sc hb h0 h1 tR.ok, fl]
  · rw [wid_sc, wR]
  · obtain ⟨r, hr, rfl⟩ := List.mem_map.mp hp
    have h0 := tR.ok r hr
    have h1 := hz _ ((cR (r.2 - 1)).mp ⟨r, hr, by omega, by omega⟩)
    show r.2 * by_ + hi ≤ _
    have := Int.mul_le_mul_of_nonneg_right (show r.2 ≤ 128 by omega) (show 0 ≤ by_ by omega)
    omega
section
variable {P : Program} {w : World} {K : PySem.W.Frag} {mg : Str → Option Value} {base : Heap}
theorem ok_law {f fD fS fR fP fE fH fU fK : Addr} {fd fdD fdS fdR fdP fdE fdH fdU fdK : FuncData} (F : Fun K "law" "law" sLaw f fd) (T : TLaw P w K mg base fD fS fR fP fE fH fU fK fdD fdS fdR fdP fdE fdH fdU fdK) : FnOk P w K mg base CX0 5 f fd ["_law_script"] (spLaw K) := by
  refine F.ok scLaw (fun vs H Q E h => ?_) (fun cdv A outer s H vs Q E hr h => ?_)
  · obtain ⟨a, ns, rfl, _⟩ := h; rfl
  obtain ⟨a, ns, rfl, hS, h63, q⟩ := h
  have r3 : Room 3 _ := hr.mono (by decide)
  have r2 : Room 2 _ := hr.mono (by decide)
  have r1 : Room 1 _ := hr.mono (by decide)
  have hu := hu_of hr
  refine ⟨_, (pss_cons (ps_set (i := 0) scLaw.nd rfl (.inl rfl) (pe_slice sl_list (pv 0) po_none (po_some pe_int)))
    (pss_cons (ps_asg (pe_call T.gD r3 (by rfl) T.mD T.kD T.bD .nil pass0 (pa_cons (pv 0) (pa_cons pe_int (pa_cons (pe_lst (pa_cons pe_int (pa_cons pe_int (pa_cons (pe_op op_pow pe_int pe_int) (pa_cons pe_int (pa_cons (pe_op op_pow pe_int pe_int) (pa_cons (pe_op op_pow pe_int pe_int) pa_nil))))))) pa_nil)))) (pg_lst rfl (pgs_cons (pg_name (i := 1) scLaw.nd rfl (.inl rfl)) (pgs_cons (pg_name (i := 2) scLaw.nd rfl (.inl rfl)) (pgs_cons (pg_name (i := 3) scLaw.nd rfl (.inr rfl)) (pgs_cons (pg_name (i := 4) scLaw.nd rfl (.inl rfl)) (pgs_cons (pg_name (i := 5) scLaw.nd rfl (.inl rfl)) (pgs_cons (pg_name (i := 6) scLaw.nd rfl (.inl rfl)) pgs_nil))))))))
    (pss_cons (ps_set (i := 3) scLaw.nd rfl (.inr rfl) (pe_ix ix_list (pe_lst (pa_cons pe_int (pa_cons (pv 3) (pa_cons (pe_op op_sub pe_int (pv 3)) (pa_cons (pe_un un_neg pe_int) pa_nil))))) (pv 2) (fun _ _ => rfl)))
    (C8.pss_cut (ps_set (i := 7) scLaw.nd rfl (.inr rfl) (pe_ix ix_list (pe_lst (pa_cons pe_int (pa_cons pe_int (pa_cons (pe_op op_add pe_int (pv 5)) pa_nil)))) (pv 4) (fun _ _ => rfl)))
    (pss_cons (ps_set (i := 8) scLaw.nd rfl (.inl rfl) (pe_call T.gP r1 (by rfl) T.mP T.kP T.bP .nil pass0 (pa_cons (pe_call T.gS hr (by rfl) T.mS T.kS T.bS .nil pass0 (pa_cons (pv 0) (pa_cons pe_int (pa_cons (pv 1) (pa_cons pe_int pa_nil))))) pa_nil)))
    (C8.pss_cut (ps_set (i := 9) scLaw.nd rfl (.inl rfl) (pe_callB cr_sortedI (by rfl) T.ms PyProof.Rows.boot_sorted (pa_cons (pe_callTy (call_listE rfl) (by rfl) T.ml PyProof.Rows.boot_list (pa_cons (pv 8) pa_nil)) pa_nil)))
    (C8.pss_cut (ps_setLc (i := 10) (own := [("_law_low", 18), ("_law_behind", 19)]) (g := (gTup K 2 (gCons (gName 18) (gCons (gName 19) gNil)))) (tt := tYes) rfl scLaw.nd rfl rfl (sw_true rfl rfl rfl (by decide +kernel)) (pi_list (pe_call T.gR r1 (by rfl) T.mR T.kR T.bR .nil pass0 (pa_cons (pv 8) pa_nil))) (blkOk_by (N := nLaw) (sc := defScope sLaw) (by decide +kernel)) (fun _ _ _ _ _ => (pg_tup rfl (pgs_cons (pg_name (i := 18) scLaw.nd rfl (.inl rfl)) (pgs_cons (pg_name (i := 19) scLaw.nd rfl (.inl rfl)) pgs_nil)))) (fun _ _ _ _ _ => pts_nil) (fun _ _ _ _ _ => (pe_tup (pa_cons (pe_op op_add (pe_op op_mul (pv 18) (pv 7)) (pv 3)) (pa_cons (pe_op op_add (pe_op op_mul (pv 19) (pv 7)) (pv 3)) pa_nil)))))
    (C8.pss_cut (ps_set (i := 11) scLaw.nd rfl (.inl rfl) (pe_callTy call_list_of (by rfl) T.ml PyProof.Rows.boot_list (pa_cons (pv 10) pa_nil)))
    (pss_cons (ps_for PassesOwn.never rfl (pi_range2 rfl T.mr (pa_cons (pe_un un_neg pe_int) (pa_cons pe_int pa_nil))) (pg_name (i := 12) scLaw.nd rfl (.inr rfl))
      (pss_cons (ps_set (i := 13) scLaw.nd rfl (.inl rfl) (pe_ix ix_list (pe_lst (pa_cons pe_int (pa_cons (pe_op op_sub (pv 7) pe_int) (pa_cons (pe_op op_mod (pv 6) (pv 7)) pa_nil)))) (pe_op op_mod (pv 12) pe_int) (fun _ _ => rfl)))
    (pss_cons (ps_set (i := 14) scLaw.nd rfl (.inl rfl) (pe_op op_add (pe_op op_add (pe_op op_mul (pv 12) (pv 7)) (pv 13)) (pv 3)))
    (pss_cons (ps_if (pt_not (pt_val (pe_call T.gE r3 (by rfl) T.mE T.kE T.bE .nil pass0 (pa_cons (pe_call T.gH r2 (by rfl) T.mH T.kH T.bH .nil pass0 (pa_cons (pv 11) (pa_cons (pv 14) pa_nil))) (pa_cons (pe_cmp (pc_din hu (pv 12) (pv 8))) pa_nil))))) (pss_one (ps_ret pe_bl)) pss_nil)
    (C8.pss_cut (ps_set (i := 15) scLaw.nd rfl (.inl rfl) (pe_op op_add (pe_op op_mul (pe_callB call_len_seq (by rfl) T.mn PySem.boot_len (pa_cons (pe_lc (own := [("_law_one", 20)]) (g := (gName 20)) (tt := _) rfl scLaw.nd (pi_list (pv 9)) (blkOk_by (N := nLaw) (sc := defScope sLaw) (by decide +kernel)) (fun _ _ _ _ _ => (pg_name (i := 20) scLaw.nd rfl (.inl rfl))) (fun _ _ _ _ _ => (pts_one (pt_cmpR op_lt (pv 20) (pv 12) (nomark _)))) (fun _ _ _ _ _ => (pv 20))) pa_nil)) (pv 7)) (pe_op op_mul (pv 13) (pe_callTy call_int1 (by rfl) T.mi PyProof.Rows.boot_int (pa_cons (pe_cmp (pc_din hu (pv 12) (pv 8))) pa_nil)))))
    (pss_one (ps_if (pt_not (pt_val (pe_call T.gE r3 (by rfl) T.mE T.kE T.bE .nil pass0 (pa_cons (pe_call T.gU r1 (by rfl) T.mU T.kU T.bU .nil pass0 (pa_cons (pv 11) (pa_cons (pv 14) pa_nil))) (pa_cons (pv 15) pa_nil))))) (pss_one (ps_ret pe_bl)) pss_nil)))))))
    (pss_cons (ps_for PassesOwn.never rfl (pi_range2 rfl T.mr (pa_cons (pe_un un_neg pe_int) (pa_cons (pe_op op_add (pe_callB call_len_seq (by rfl) T.mn PySem.boot_len (pa_cons (pv 9) pa_nil)) pe_int) pa_nil))) (pg_name (i := 16) scLaw.nd rfl (.inl rfl))
      (pss_cons (ps_set (i := 13) scLaw.nd rfl (.inl rfl) (pe_ix ix_list (pe_lst (pa_cons (pe_op op_sub (pv 7) pe_int) (pa_cons (pe_op op_mod (pv 6) (pv 7)) (pa_cons pe_int pa_nil)))) (pe_op op_mod (pv 16) pe_int) (fun _ _ => rfl)))
    (pss_cons (ps_set (i := 17) scLaw.nd rfl (.inl rfl) pe_non)
    (C8.pss_cut (ps_if (pt_chain op_le op_lt pe_int (pv 16) (pe_callB call_len_seq (by rfl) T.mn PySem.boot_len (pa_cons (pv 9) pa_nil))) (pss_one (ps_set (i := 17) scLaw.nd rfl (.inl rfl) (pe_op op_add (pe_op op_add (pe_op op_mul (pe_ix ix_list (pv 9) (pv 16) (fun _ _ => rfl)) (pv 7)) (pv 13)) (pv 3)))) pss_nil)
    (pss_one (ps_if (pt_not (pt_val (pe_call T.gE r3 (by rfl) T.mE T.kE T.bE .nil pass0 (pa_cons (pe_call T.gK r1 (by rfl) T.mK T.kK T.bK .nil pass0 (pa_cons (pv 11) (pa_cons (pe_op op_add (pe_op op_mul (pv 16) (pv 7)) (pv 13)) pa_nil))) (pa_cons (pv 17) pa_nil))))) (pss_one (ps_ret pe_bl)) pss_nil))))))
    (pss_cons (ps_if (PW.pt (pw_or (pt_not (pt_val (pe_call T.gE r3 (by rfl) T.mE T.kE T.bE .nil pass0 (pa_cons (pe_call T.gK r1 (by rfl) T.mK T.kK T.bK .nil pass0 (pa_cons (pv 11) (pa_cons (pe_op op_pow pe_int pe_int) pa_nil))) (pa_cons pe_non pa_nil))))) (pw_or1 (pt_not (pt_val (pe_call T.gE r3 (by rfl) T.mE T.kE T.bE .nil pass0 (pa_cons (pe_call T.gU r1 (by rfl) T.mU T.kU T.bU .nil pass0 (pa_cons (pv 11) (pa_cons (pe_op op_pow pe_int pe_int) pa_nil))) (pa_cons (pe_op op_mul (pe_callB call_len_seq (by rfl) T.mn PySem.boot_len (pa_cons (pv 9) pa_nil)) (pv 7)) pa_nil)))))))) (pss_one (ps_ret pe_bl)) pss_nil)
    (pss_one (ps_ret (pe_cmpR (op_eqD hr.units) (pv 11) (pv 10) (nomark _))))))))))))))), ?_⟩
  have hlV : (ns.map V.int).length ≤ 63 := by rw [List.length_map]; exact h63
  have p39 : CPow 10 39 := ⟨by decide, by decide, by decide⟩
  have p37 : CPow 10 37 := ⟨by decide, by decide, by decide⟩
  have p40 : CPow 10 40 := ⟨by decide, by decide, by decide⟩
  have p44 : CPow 10 44 := ⟨by decide, by decide, by decide⟩
  refine ⟨.ref a, rfl, 63, rfl, a, ns.map V.int, rfl, hS, fun a1 n1 => ?_⟩
  rw [cut63 hlV]
  have e1 : upd H a1 (.lst (ns.map V.int)) a1 = some (.lst (ns.map V.int)) := upd_same
  generalize upd H a1 (.lst (ns.map V.int)) = H1 at e1
  -- the digits
  refine ⟨.ref a1, rfl, 10, 39, rfl, rfl, p39, 10, 37, rfl, rfl, p37, 10, 37, rfl, rfl, p37, (by show 6 ≤ sizeLine; decide), fun l1 nl1 => ?_⟩
  have s1 := same_upd (o := .lst [.int 31, .int 4, .int (10 ^ (39 : Int).toNat), .int 3, .int (10 ^ (37 : Int).toNat), .int (10 ^ (37 : Int).toNat)]) nl1
  refine ⟨a1, l1, ns, [31, 4, 10 ^ (39 : Int).toNat, 3, 10 ^ (37 : Int).toNat, 10 ^ (37 : Int).toNat], 0, rfl, .inl (.inl (s1 _ _ e1)), h63, .inl (.inl upd_same), by decide, fun z hz => ?_, fun H2 q2 s2 _ eq2 => ?_⟩
  · rcases List.mem_cons.mp hz with rfl | hz
    · exact ⟨by decide, by decide⟩
    rcases List.mem_cons.mp hz with rfl | hz
    · exact ⟨by decide, by decide⟩
    rcases List.mem_cons.mp hz with rfl | hz
    · exact ⟨by decide +kernel, by decide +kernel⟩
    rcases List.mem_cons.mp hz with rfl | hz
    · exact ⟨by decide, by decide⟩
    rcases List.mem_cons.mp hz with rfl | hz
    · exact ⟨by decide +kernel, by decide +kernel⟩
    · rw [List.mem_singleton.mp hz]; exact ⟨by decide +kernel, by decide +kernel⟩
  have e2 := s2 _ _ (s1 _ _ e1)
  generalize rawF ns 0 = ra at eq2
  have hm0 : 0 ≤ ra % 31 ∧ ra % 31 < 31 := ⟨by omega, by omega⟩
  have hh0 : 0 ≤ ra / 31 / 4 % 10 ^ (39 : Int).toNat ∧ ra / 31 / 4 % 10 ^ (39 : Int).toNat < 10 ^ (39 : Int).toNat := ⟨Int.emod_nonneg _ (by decide +kernel), Int.emod_lt_of_pos _ (by decide +kernel)⟩
  have hr0 : 0 ≤ ra / 31 / 4 / 10 ^ (39 : Int).toNat / 3 % 10 ^ (37 : Int).toNat ∧ ra / 31 / 4 / 10 ^ (39 : Int).toNat / 3 % 10 ^ (37 : Int).toNat < 10 ^ (37 : Int).toNat := ⟨Int.emod_nonneg _ (by decide +kernel), Int.emod_lt_of_pos _ (by decide +kernel)⟩
  refine ⟨q2, [.int (ra % 31), .int (ra / 31 % 4), .int (ra / 31 / 4 % 10 ^ (39 : Int).toNat), .int (ra / 31 / 4 / 10 ^ (39 : Int).toNat % 3), .int (ra / 31 / 4 / 10 ^ (39 : Int).toNat / 3 % 10 ^ (37 : Int).toNat), .int (ra / 31 / 4 / 10 ^ (39 : Int).toNat / 3 / 10 ^ (37 : Int).toNat % 10 ^ (37 : Int).toNat)], rfl, .inl (.inl eq2), rfl, _, _, rfl, _, _, rfl, _, _, rfl, _, _, rfl, _, _, rfl, _, _, rfl, rfl, ?_⟩
  obtain ⟨m, hm, hm30⟩ : ∃ m : Nat, ra % 31 = (m : Int) ∧ m ≤ 30 := ⟨(ra % 31).toNat, by omega, by omega⟩
  rw [hm]
  generalize ra / 31 / 4 / 10 ^ (39 : Int).toNat / 3 / 10 ^ (37 : Int).toNat % 10 ^ (37 : Int).toNat = rest at *
  generalize ra / 31 / 4 / 10 ^ (39 : Int).toNat / 3 % 10 ^ (37 : Int).toNat = raw at *
  generalize ra / 31 / 4 / 10 ^ (39 : Int).toNat = kk at *
  generalize ra / 31 / 4 % 10 ^ (39 : Int).toNat = hg at *
  generalize ra / 31 = fr at *
  -- high
  refine ⟨.int hg, rfl, .int hg, rfl, 0, hg, rfl, rfl, 25, rfl, (by show 4 ≤ sizeLine; decide), fun l nl => ?_⟩
  have s3 := same_upd (o := .lst [.int 0, .int hg, .int (0 - hg), .int (-25)]) nl
  obtain ⟨hi, hhi, hhi2⟩ := at4 (a := 0) (b := hg) (c := 0 - hg) (d := -25) (r := fr)
  refine ⟨.int (fr % 4), rfl, l, _, _, _, rfl, rfl, .inl (.inl upd_same), hhi, ?_⟩
  have e3 := s3 _ _ e2
  have hhi3 : hi ≤ 10 ^ 39 := by
    have : (10 : Int) ^ (39 : Int).toNat = 10 ^ 39 := rfl
    omega
  -- by
  obtain ⟨by_, hby, hby2⟩ := at3 (a := 1) (b := 7) (c := 1 + raw) (r := kk)
  have hb0 : 0 < by_ := by omega
  have hb37 : by_ ≤ 10 ^ 37 := by
    have : (10 : Int) ^ (37 : Int).toNat = 10 ^ 37 := rfl
    omega
  refine ⟨fun σ' H' => σ' = S2 a1 m (fr % 4) hi (kk % 3) raw rest by_ none none none none none none none none none none ∧ H' a1 = some (.lst (ns.map V.int)), ?_, ?_⟩
  · refine ⟨.int raw, rfl, 1, raw, rfl, rfl, (by show 3 ≤ sizeLine; decide), fun l3 nl3 => ?_⟩
    have s5 := same_upd (o := .lst [.int 1, .int 7, .int (1 + raw)]) nl3
    exact ⟨.int (kk % 3), rfl, l3, _, _, _, rfl, rfl, .inl (.inl upd_same), hby, rfl, s5 _ _ e3⟩
  rintro σ' HA ⟨rfl, eA⟩
  -- places
  refine ⟨.ref a1, rfl, .int (m : Int), rfl, a1, ns, 1, 60, m, rfl, .inl (.inl eA), h63, by omega, by decide, by decide, fun H6 sA xs s8 _ eS plS => ?_⟩
  have smS : Small (someF ns 1 60 m) := small_some (by decide) (by decide) (by omega)
  have bdS : ∀ x, cov (someF ns 1 60 m) x → 0 ≤ x ∧ x < 128 := fun x h => by
    obtain ⟨p, hp, h1, h2⟩ := h
    have := someF_bd (ns := ns) (k := 1) (w := 60) (m := m) (by decide) p hp
    omega
  refine ⟨sA, xs, _, rfl, .inl (.inl eS), plS, smS, fun HB dA ks sB _ edA nk ck lk => ?_⟩
  generalize someF ns 1 60 m = sm at *
  -- due
  refine ⟨fun σ' H' => ∃ (zA : Addr) (zs : List Int), σ' = S2 a1 m (fr % 4) hi (kk % 3) raw rest by_ (some (.ref dA)) (some (.ref zA)) none none none none none none none none ∧ Same HB H' ∧ H' zA = some (.lst (zs.map V.int)) ∧ zs.Perm ks ∧ zs.Pairwise (· < ·), ?_, ?_⟩
  · refine ⟨.ref dA, rfl, dA, ks.map V.int, rfl, .inl ⟨kd ks, .inl edA, (kd_keys ks).symm⟩, fun l nl => ?_⟩
    have s9 := same_upd (o := .lst (ks.map V.int)) nl
    refine ⟨l, ks, rfl, .inl (.inl upd_same), fun zs pz hperm hord npz => ?_⟩
    have s10 := same_upd (o := .lst (zs.map V.int)) npz
    exact ⟨pz, zs, rfl, s9.trans s10, upd_same, hperm, lt_of_nodup (hperm.nodup_iff.mpr nk) hord⟩
  rintro σ' HC ⟨zA, zs, rfl, sBC, ezA, perm, zlt⟩
  have edC := sBC _ _ edA
  have hz : ∀ z ∈ zs, 0 ≤ z ∧ z < 128 := fun z h => bdS z ((ck z).mp (perm.mem_iff.mp h))
  have asked := asked_of (hi := hi) hb0 zlt hz
  have mk : ∀ x, x ∈ ks ↔ x ∈ zs := fun x => perm.mem_iff.symm
  -- rows
  refine ⟨fun σ' H' => ∃ D ys, σ' = S2 a1 m (fr % 4) hi (kk % 3) raw rest by_ (some (.ref dA)) (some (.ref zA)) (some (.ref D)) none none none none none none none ∧ Same HC H' ∧ H' D = some (.lst ys) ∧ PL H' ys ((rowsF zs).map (sc by_ hi)), ?_, ?_⟩
  · refine ⟨.ref dA, rfl, dA, ks, rfl, .inl (.inl edC), nk, by omega, fun HD rA rs zs2 sD _ eR plR perm2 zlt2 => ?_⟩
    have ez : zs2 = zs := sorted_uniq zlt2 zlt fun x => by rw [perm2.mem_iff, perm.mem_iff]
    subst ez
    have tR := (rowsF_tdy zlt2).1
    refine ⟨rA, rfl, ⟨_, .inl (.inl eR)⟩, fun D nD => ?_⟩
    refine lc_sc (il := 18) (ib := 19) (iby := 7) (ihi := 3) (by_ := by_) (high := hi) eR plR (tR.within (fun x h => (ck x).mp ((mk x).mpr (((rowsF_tdy zlt2).2.1 x).mp h))) smS) ?l1 ?h11 ?h12 ?h13 ?h14 ?h15 nD (fun HE ys sE eD plD => ?_)
    case h11 => exact fun _ _ => rfl
    case h12 => exact fun _ _ => rfl
    case h13 => exact fun _ _ => rfl
    case h14 => exact fun _ _ => rfl
    case h15 => exact fun _ _ => rfl
    · have h1 := rowsF_len zs2
      have h2 := asked.few
      omega
    · exact ⟨D, ys, rfl, sD.trans sE, eD, plD⟩
  rintro σ' HD ⟨D, ys, rfl, sCD, eD, plD⟩
  generalize (rowsF zs).map (sc by_ hi) = du at *
  have ldu := asked.dlen
  have lzs := asked.few
  -- handed
  refine ⟨fun σ' H' => ∃ hA, σ' = S2 a1 m (fr % 4) hi (kk % 3) raw rest by_ (some (.ref dA)) (some (.ref zA)) (some (.ref D)) (some (.ref hA)) none none none none none none ∧ Same HD H' ∧ H' hA = some (.lst ys), ?_, ?_⟩
  · refine ⟨.ref D, rfl, D, ys, rfl, .inl (.inl (.inl eD)), fun hA nhA => ?_⟩
    exact ⟨hA, rfl, same_upd nhA, upd_same⟩
  rintro σ' HE ⟨hA, rfl, sDE, ehA⟩
  have edE := sDE _ _ (sCD _ _ edC)
  have ezE := sDE _ _ (sCD _ _ ezA)
  have eDE := sDE _ _ eD
  have plE := plD.ts (TS.of sDE)
  -- the first loop
  refine ⟨2, rfl, -2, 130, rfl, ⟨by decide, by decide, by decide, by decide⟩, for_range (lo := -2) (n := 132) (fun i σ H => ∃ y12 y13 y14 y15, σ = S2 a1 m (fr % 4) hi (kk % 3) raw rest by_ (some (.ref dA)) (some (.ref zA)) (some (.ref D)) (some (.ref hA)) y12 y13 y14 y15 none none ∧ Same HE H) ⟨none, none, none, none, rfl, Same.refl _⟩ (fun i σ H9 hi' hP => ?_) (fun σ H9 hP => ?_)⟩
  · obtain ⟨y12, y13, y14, y15, rfl, s9⟩ := hP
    generalize hx : (-2 : Int) + (i : Int) = x
    have hx1 : -2 ≤ x ∧ x < 130 := by omega
    refine ⟨.int by_, rfl, _, 1, rfl, rfl, .int rest, rfl, .int by_, rfl, _, _, rfl, rfl, hb0, (by show 3 ≤ sizeLine; decide), fun l nl => ?_⟩
    have s10 := same_upd (o := .lst [.int 0, .int (by_ - 1), .int (rest % by_)]) nl
    obtain ⟨aw, haw, haw2⟩ := at3 (a := 0) (b := by_ - 1) (c := rest % by_) (r := x)
    have ha0 : 0 ≤ aw ∧ aw < by_ := by
      have h1 : 0 ≤ rest % by_ := Int.emod_nonneg _ (by omega)
      have h2 : rest % by_ < by_ := Int.emod_lt_of_pos _ hb0
      omega
    refine ⟨.int x, rfl, _, 3, rfl, rfl, (by show (0 : Int) < 3; decide), l, _, _, _, rfl, rfl, .inl (.inl upd_same), haw, ?_⟩
    have sA9 := s9.trans s10
    refine ⟨.int x, rfl, .int by_, rfl, _, _, rfl, rfl, .inl ⟨by omega, by omega⟩, .int aw, rfl, _, _, rfl, rfl, .int hi, rfl, _, _, rfl, rfl, ?_⟩
    -- has
    refine ⟨.ref hA, rfl, .int (x * by_ + aw + hi), rfl, hA, ys, du, _, rfl, .inl (.inl (sA9 _ _ ehA)), plE.ts (TS.of sA9), asked.td, fun b hb => ?_⟩
    have eb : b = decide (x ∈ ks) := by
      have h1 := hb.trans ((asked.has x aw ha0.1 ha0.2).trans (mk x).symm)
      by_cases c : x ∈ ks
      · rw [decide_eq_true c]; exact h1.mpr c
      · rw [decide_eq_false c]
        cases b with
        | false => rfl
        | true => exact absurd (h1.mp rfl) c
    refine ⟨.int x, rfl, .ref dA, rfl, dA, _, rfl, DGet.k (k := Sum.inl x) (sA9 _ _ edE), ?_⟩
    rw [valV_kd, ← eb]
    refine ⟨.bl b, .bl b, .bool b, rfl, .bl b, .bl b, fun HX sX => ⟨true, rfl, ?_⟩⟩
    refine iteF ?_
    have sX9 := sA9.trans sX
    -- under_it
    refine ⟨fun σ' H' => σ' = S2 a1 m (fr % 4) hi (kk % 3) raw rest by_ (some (.ref dA)) (some (.ref zA)) (some (.ref D)) (some (.ref hA)) (some (.int x)) (some (.int aw)) (some (.int (x * by_ + aw + hi))) (some (.int (undF du (x * by_ + aw + hi)))) none none ∧ Same HE H', ?_, ?_⟩
    · refine ⟨.ref zA, rfl, zA, rfl, ⟨_, .inl (.inl (sX9 _ _ ezE))⟩, fun L nL => ?_⟩
      have nL2 : HE L = none := Same.free sX9 nL
      refine lc_list (xs := zs.map V.int) (fun j H5 => Same HE H5 ∧ H5 L = some (.lst (((zs.take j).filter fun z => decide (z < x)).map V.int))) ⟨sX9.trans (same_upd nL), upd_same⟩ (fun j H5 _ hP => .inl (.inl (hP.1 _ _ ezE))) (fun j v H5 hv hP => ?_) (fun H5 hP => ?_)
      · obtain ⟨sm5, eL⟩ := hP
        rw [List.getElem?_map] at hv
        obtain ⟨z, hz', rfl⟩ := Option.map_eq_some_iff.mp hv
        have et : zs.take (j + 1) = zs.take j ++ [z] := by rw [List.take_add_one, hz']; rfl
        refine ⟨rfl, ?_⟩
        refine ⟨.int z, rfl, .int x, rfl, _, _, rfl, rfl, _, rfl, ?_⟩
        refine ite2 (fun c => ?_) (fun c => ?_)
        · have c1 : z < x := of_decide_eq_true c
          have fp : [z].filter (fun z => decide (z < x)) = [z] := by simp [c1]
          refine ⟨.int z, rfl, _, eL, ?_, same_over sm5 nL2, ?_⟩
          · rw [List.length_map]
            have h1 := List.length_filter_le (fun z : Int => decide (z < x)) (zs.take j)
            rw [List.length_take] at h1
            exact small1000 (by omega)
          · rw [upd_same, et, List.filter_append, fp, List.map_append]
            rfl
        · have c1 : x ≤ z := by
            have : ¬ z < x := fun e => c (decide_eq_true e)
            omega
          have fp : [z].filter (fun z => decide (z < x)) = [] := by simp [c1]
          refine ⟨sm5, ?_⟩
          rw [eL, et, List.filter_append, fp, List.append_nil]
      · obtain ⟨sm5, eL⟩ := hP
        rw [List.length_map, List.take_length] at eL
        have hfl : (zs.filter fun z => decide (z < x)).length ≤ 128 := by
          have h1 := List.length_filter_le (fun z : Int => decide (z < x)) zs
          omega
        refine ⟨L, _, rfl, .inl (.inl (.inl eL)), .int by_, rfl, _, _, rfl, rfl, .inl ⟨?_, ?_⟩, ?_⟩
        · rw [List.length_map]; omega
        · rw [List.length_map]; omega
        refine ⟨.int aw, rfl, .int x, rfl, .ref dA, rfl, dA, _, rfl, DGet.k (k := Sum.inl x) (sm5 _ _ edE), .inr ⟨_, rfl, ?_⟩⟩
        refine ⟨_, _, rfl, rfl, .inr ⟨by split <;> decide, by split <;> decide⟩, _, _, rfl, rfl, ?_⟩
        refine ⟨?_, sm5⟩
        rw [asked.und x aw ha0.1 ha0.2, valV_kd, List.length_map]
        have ed : decide (x ∈ ks) = decide (x ∈ zs) := by
          by_cases c : x ∈ ks
          · rw [decide_eq_true c, decide_eq_true ((mk x).mp c)]
          · rw [decide_eq_false c, decide_eq_false fun h => c ((mk x).mpr h)]
        rw [ed]
        rfl
    rintro σ' HY ⟨rfl, sY⟩
    refine ⟨.ref hA, rfl, .int (x * by_ + aw + hi), rfl, hA, ys, du, _, rfl, .inl (.inl (sY _ _ ehA)), plE.ts (TS.of sY), by omega, fun HV sV => ?_⟩
    refine ⟨.int _, rfl, .int _, .int _, .int (undF du (x * by_ + aw + hi)), rfl, .int _, .int _, fun HW sW => ⟨true, rfl, ?_⟩⟩
    refine iteF ?_
    exact ⟨_, _, _, _, rfl, (sY.trans sV).trans sW⟩
  · obtain ⟨y12, y13, y14, y15, rfl, s9⟩ := hP
    have ez9 := s9 _ _ ezE
    -- the second loop
    refine ⟨2, rfl, .ref zA, rfl, zA, _, rfl, .inl (.inl (.inl ez9)), _, 3, rfl, rfl, -2, _, rfl, ⟨by decide, by decide, ?_, ?_⟩, ?_⟩
    · rw [List.length_map]; omega
    · rw [List.length_map]; omega
    refine for_range (lo := -2) (n := (((zs.map V.int).length : Int) + 3 - -2).toNat) (fun i σ H => ∃ y13 y16 y17, σ = S2 a1 m (fr % 4) hi (kk % 3) raw rest by_ (some (.ref dA)) (some (.ref zA)) (some (.ref D)) (some (.ref hA)) y12 y13 y14 y15 y16 y17 ∧ Same HE H) ⟨y13, none, none, rfl, s9⟩ (fun i σ H10 hi' hP => ?_) (fun σ H10 hP => ?_)
    · obtain ⟨y13, y16, y17, rfl, s10⟩ := hP
      rw [List.length_map] at hi'
      generalize hx : (-2 : Int) + (i : Int) = x
      have hx1 : -2 ≤ x ∧ x < 132 := by omega
      refine ⟨.int by_, rfl, _, 1, rfl, rfl, .int rest, rfl, .int by_, rfl, _, _, rfl, rfl, hb0, (by show 3 ≤ sizeLine; decide), fun l nl => ?_⟩
      have s11 := same_upd (o := .lst [.int (by_ - 1), .int (rest % by_), .int 0]) nl
      obtain ⟨aw, haw, haw2⟩ := at3 (a := by_ - 1) (b := rest % by_) (c := 0) (r := x)
      have ha0 : 0 ≤ aw ∧ aw < by_ := by
        have h1 : 0 ≤ rest % by_ := Int.emod_nonneg _ (by omega)
        have h2 : rest % by_ < by_ := Int.emod_lt_of_pos _ hb0
        omega
      refine ⟨.int x, rfl, _, 3, rfl, rfl, (by show (0 : Int) < 3; decide), l, _, _, _, rfl, rfl, .inl (.inl upd_same), haw, ?_⟩
      have sA := s10.trans s11
      have ezA' := sA _ _ ezE
      -- at
      refine ⟨fun σ' H' => σ' = S2 a1 m (fr % 4) hi (kk % 3) raw rest by_ (some (.ref dA)) (some (.ref zA)) (some (.ref D)) (some (.ref hA)) y12 (some (.int aw)) y14 y15 (some (.int x)) (some (oV (kth_ du (x * by_ + aw)))) ∧ Same HE H', ?_, ?_⟩
      · refine ⟨.int x, rfl, 0, x, rfl, rfl, _, rfl, ?_⟩
        by_cases c0 : (0 : Int) ≤ x
        · rw [decide_eq_true c0]
          refine iteT ?_
          obtain ⟨k, rfl⟩ : ∃ k : Nat, x = (k : Int) := ⟨x.toNat, by omega⟩
          have hk : ¬ ((k : Int) * by_ + aw < 0) := by
            have := Int.mul_nonneg c0 (show 0 ≤ by_ by omega)
            omega
          have ekth : kth_ du ((k : Int) * by_ + aw) = (zs[k]?).map fun z => z * by_ + aw + hi := by
            unfold kth_
            rw [if_neg hk, asked.kth k aw ha0.1 ha0.2]
          refine ⟨.ref zA, rfl, zA, _, rfl, .inl (.inl (.inl ezA')), _, _, rfl, rfl, _, rfl, ?_⟩
          refine ite2 (fun c => ?_) (fun c => ?_)
          · have c1 : (k : Int) < ((zs.map V.int).length : Int) := of_decide_eq_true c
            rw [List.length_map] at c1
            have hk1 : k < zs.length := by omega
            have hb := asked.bd _ (List.getElem_mem hk1)
            have at_ : atI (zs.map V.int) (k : Int) = some (.int zs[k]) := atI_nat (by rw [List.getElem?_map, List.getElem?_eq_getElem hk1]; rfl)
            refine ⟨.ref zA, rfl, .int (k : Int), rfl, zA, _, _, _, rfl, rfl, .inl (.inl ezA'), at_, .int by_, rfl, _, _, rfl, rfl, .inl ⟨by omega, by omega⟩, .int aw, rfl, _, _, rfl, rfl, .int hi, rfl, _, _, rfl, rfl, ?_⟩
            refine ⟨?_, sA⟩
            rw [ekth, List.getElem?_eq_getElem hk1]
            rfl
          · have c1 : ¬ (k : Int) < ((zs.map V.int).length : Int) := fun e => c (decide_eq_true e)
            rw [List.length_map] at c1
            refine ⟨?_, sA⟩
            rw [ekth, List.getElem?_eq_none (by omega)]
            rfl
        · rw [decide_eq_false c0]
          refine iteF ?_
          refine ⟨_, rfl, iteF ⟨?_, sA⟩⟩
          have hk : x * by_ + aw < 0 := by
            have := Int.mul_le_mul_of_nonneg_right (show x ≤ -1 by omega) (show 0 ≤ by_ by omega)
            omega
          have ek : kth_ du (x * by_ + aw) = none := if_pos hk
          rw [ek]
          rfl
      rintro σ' HY ⟨rfl, sY⟩
      refine ⟨.ref hA, rfl, .int x, rfl, .int by_, rfl, _, _, rfl, rfl, .inl ⟨by omega, by omega⟩, .int aw, rfl, _, _, rfl, rfl, hA, ys, du, _, rfl, .inl (.inl (sY _ _ ehA)), plE.ts (TS.of sY), ?_⟩
      obtain ⟨dd, hdd⟩ : ∃ d, ∀ H n, DT H n (oV (kth_ du (x * by_ + aw))) d := by
        cases kth_ du (x * by_ + aw) with
        | none => exact ⟨_, fun _ _ => .non⟩
        | some z => exact ⟨_, fun _ _ => .int z⟩
      refine ⟨_, rfl, _, _, dd, rfl, hdd _ _, hdd _ _, fun HW sW => ⟨true, rfl, ?_⟩⟩
      refine iteF ?_
      exact ⟨_, _, _, rfl, sY.trans sW⟩
    · obtain ⟨y13, y16, y17, rfl, s10⟩ := hP
      have hbig : (zs.length : Int) * by_ ≤ 128 * 10 ^ 37 := by
        have h1 := Int.mul_le_mul_of_nonneg_right (show (zs.length : Int) ≤ 128 by omega) (show 0 ≤ by_ by omega)
        omega
      have ek : kth_ du (10 ^ (40 : Int).toNat) = none := by
        unfold kth_
        rw [if_neg (by decide +kernel)]
        refine kth_far asked.td.ok ?_
        rw [asked.wid]
        have : (10 : Int) ^ (40 : Int).toNat = 10 ^ 40 := rfl
        omega
      have eu : undF du (10 ^ (44 : Int).toNat) = (zs.length : Int) * by_ := by
        rw [← asked.wid]
        refine und_all fun p hp => ⟨asked.td.ok p hp, ?_⟩
        have h1 := asked.top p hp
        have : (10 : Int) ^ (44 : Int).toNat = 10 ^ 44 := rfl
        omega
      refine ⟨.ref hA, rfl, 10, 40, rfl, rfl, p40, hA, ys, du, _, rfl, .inl (.inl (s10 _ _ ehA)), plE.ts (TS.of s10), ?_⟩
      rw [ek]
      refine ⟨.non, .non, .none, rfl, .non, .non, fun HW sW => ⟨true, rfl, ?_⟩⟩
      refine iteF ?_
      have sW9 := s10.trans sW
      refine ⟨.ref hA, rfl, 10, 44, rfl, rfl, p44, hA, ys, du, _, rfl, .inl (.inl (sW9 _ _ ehA)), plE.ts (TS.of sW9), by omega, fun HV sV => ?_⟩
      have sV9 := sW9.trans sV
      refine ⟨.ref zA, rfl, zA, _, rfl, .inl (.inl (.inl (sV9 _ _ ezE))), .int by_, rfl, _, _, rfl, rfl, .inl ⟨?_, ?_⟩, ?_⟩
      · rw [List.length_map]; omega
      · rw [List.length_map]; omega
      refine ⟨_, _, .int ((zs.length : Int) * by_), rfl, (by rw [eu]; exact .int _), (by rw [List.length_map]; exact .int _), fun HX sX => ⟨true, rfl, ?_⟩⟩
      refine iteF ?_
      have sX9 := sV9.trans sX
      refine ⟨.ref hA, rfl, .ref D, rfl, _, _, .lst (.inl (.inl (sX9 _ _ ehA))) (plE.ts (TS.of sX9)).dp, .lst (.inl (.inl (sX9 _ _ eDE))) (plE.ts (TS.of sX9)).dp, shaped_pD _, shaped_pD _, ?_⟩
      rw [eqv_pD]
      exact q HX
end
end Rep
namespace Rep
open PySem L2
theorem all_mk {l : PySem.W.OpenLaw} {w : World} {K : PySem.W.Frag} {h : Heap} {mg : Str → Option Value} {fa f1 f2 f3 f4 f5 f6 f7 f8 f9 f10 f11 f12 : Addr} (X : K.In h) (G : h.Ns mainGlobals mg) (hfa : mg "law" = some (.ref fa))
    {od1 an1 od2 an2 od3 an3 od4 an4 od5 an5 od6 an6 od7 an7 od8 an8 od9 an9 od10 an10 od11 an11 od12 an12 : Option Addr} {sl1 sl2 sl3 sl4 sl5 sl6 sl7 sl8 sl9 sl10 sl11 sl12 : Array (Option Value)} {oc1 kV1 dc1 pm1 cd1 ct1 oc2 kV2 dc2 pm2 cd2 ct2 oc3 kV3 dc3 pm3 cd3 ct3 oc4 kV4 dc4 pm4 cd4 ct4 oc5 kV5 dc5 pm5 cd5 ct5 oc6 kV6 dc6 pm6 cd6 ct6 oc7 kV7 dc7 pm7 cd7 ct7 oc8 kV8 dc8 pm8 cd8 ct8 oc9 kV9 dc9 pm9 cd9 ct9 oc10 kV10 dc10 pm10 cd10 ct10 oc11 kV11 dc11 pm11 cd11 ct11 oc12 kV12 dc12 pm12 cd12 ct12 : Value}
    (a1 : PySem.W.nsIn K mainGlobals "begun" = some (some (.ref f1))) (l1 : K.lookup f1 = some ⟨oc1, od1, .func (PySem.W.fnOf "begun" "begun" (defArgs sBegun) (defBody sBegun) (defScope sBegun) .none kV1 dc1 pm1 an1 cd1 ct1), sl1⟩) (c1 : PySem.W.codeIn K cd1 "begun" = true) (k1 : PySem.W.keepIn K (.ref f1) = true)
    (a2 : PySem.W.nsIn K mainGlobals "has" = some (some (.ref f2))) (l2 : K.lookup f2 = some ⟨oc2, od2, .func (PySem.W.fnOf "has" "has" (defArgs sHas) (defBody sHas) (defScope sHas) .none kV2 dc2 pm2 an2 cd2 ct2), sl2⟩) (c2 : PySem.W.codeIn K cd2 "has" = true) (k2 : PySem.W.keepIn K (.ref f2) = true)
    (a3 : PySem.W.nsIn K mainGlobals "under" = some (some (.ref f3))) (l3 : K.lookup f3 = some ⟨oc3, od3, .func (PySem.W.fnOf "under" "under" (defArgs sUnder) (defBody sUnder) (defScope sUnder) .none kV3 dc3 pm3 an3 cd3 ct3), sl3⟩) (c3 : PySem.W.codeIn K cd3 "under" = true) (k3 : PySem.W.keepIn K (.ref f3) = true)
    (a4 : PySem.W.nsIn K mainGlobals "kth" = some (some (.ref f4))) (l4 : K.lookup f4 = some ⟨oc4, od4, .func (PySem.W.fnOf "kth" "kth" (defArgs sKth) (defBody sKth) (defScope sKth) .none kV4 dc4 pm4 an4 cd4 ct4), sl4⟩) (c4 : PySem.W.codeIn K cd4 "kth" = true) (k4 : PySem.W.keepIn K (.ref f4) = true)
    (a5 : PySem.W.nsIn K mainGlobals "_law_mix" = some (some (.ref f5))) (l5 : K.lookup f5 = some ⟨oc5, od5, .func (PySem.W.fnOf "_law_mix" "_law_mix" (defArgs sMix) (defBody sMix) (defScope sMix) .none kV5 dc5 pm5 an5 cd5 ct5), sl5⟩) (c5 : PySem.W.codeIn K cd5 "_law_mix" = true) (k5 : PySem.W.keepIn K (.ref f5) = true)
    (a6 : PySem.W.nsIn K mainGlobals "_law_raw" = some (some (.ref f6))) (l6 : K.lookup f6 = some ⟨oc6, od6, .func (PySem.W.fnOf "_law_raw" "_law_raw" (defArgs sRaw) (defBody sRaw) (defScope sRaw) .none kV6 dc6 pm6 an6 cd6 ct6), sl6⟩) (c6 : PySem.W.codeIn K cd6 "_law_raw" = true) (k6 : PySem.W.keepIn K (.ref f6) = true)
    (a7 : PySem.W.nsIn K mainGlobals "_law_digits" = some (some (.ref f7))) (l7 : K.lookup f7 = some ⟨oc7, od7, .func (PySem.W.fnOf "_law_digits" "_law_digits" (defArgs sDig) (defBody sDig) (defScope sDig) .none kV7 dc7 pm7 an7 cd7 ct7), sl7⟩) (c7 : PySem.W.codeIn K cd7 "_law_digits" = true) (k7 : PySem.W.keepIn K (.ref f7) = true)
    (a8 : PySem.W.nsIn K mainGlobals "_law_some_rows" = some (some (.ref f8))) (l8 : K.lookup f8 = some ⟨oc8, od8, .func (PySem.W.fnOf "_law_some_rows" "_law_some_rows" (defArgs sSome) (defBody sSome) (defScope sSome) .none kV8 dc8 pm8 an8 cd8 ct8), sl8⟩) (c8 : PySem.W.codeIn K cd8 "_law_some_rows" = true) (k8 : PySem.W.keepIn K (.ref f8) = true)
    (a9 : PySem.W.nsIn K mainGlobals "_law_rows_of" = some (some (.ref f9))) (l9 : K.lookup f9 = some ⟨oc9, od9, .func (PySem.W.fnOf "_law_rows_of" "_law_rows_of" (defArgs sRowsOf) (defBody sRowsOf) (defScope sRowsOf) .none kV9 dc9 pm9 an9 cd9 ct9), sl9⟩) (c9 : PySem.W.codeIn K cd9 "_law_rows_of" = true) (k9 : PySem.W.keepIn K (.ref f9) = true)
    (a10 : PySem.W.nsIn K mainGlobals "_law_places_in" = some (some (.ref f10))) (l10 : K.lookup f10 = some ⟨oc10, od10, .func (PySem.W.fnOf "_law_places_in" "_law_places_in" (defArgs sPlaces) (defBody sPlaces) (defScope sPlaces) .none kV10 dc10 pm10 an10 cd10 ct10), sl10⟩) (c10 : PySem.W.codeIn K cd10 "_law_places_in" = true) (k10 : PySem.W.keepIn K (.ref f10) = true)
    (a11 : PySem.W.nsIn K mainGlobals "_law_same" = some (some (.ref f11))) (l11 : K.lookup f11 = some ⟨oc11, od11, .func (PySem.W.fnOf "_law_same" "_law_same" (defArgs sSame) (defBody sSame) (defScope sSame) .none kV11 dc11 pm11 an11 cd11 ct11), sl11⟩) (c11 : PySem.W.codeIn K cd11 "_law_same" = true) (k11 : PySem.W.keepIn K (.ref f11) = true)
    (a12 : PySem.W.nsIn K mainGlobals "law" = some (some (.ref f12))) (l12 : K.lookup f12 = some ⟨oc12, od12, .func (PySem.W.fnOf "law" "law" (defArgs sLaw) (defBody sLaw) (defScope sLaw) .none kV12 dc12 pm12 an12 cd12 ct12), sl12⟩) (c12 : PySem.W.codeIn K cd12 "law" = true) (k12 : PySem.W.keepIn K (.ref f12) = true)
    (y_sorted : PySem.W.nsIn K mainGlobals "sorted" = some none)
    (y_len : PySem.W.nsIn K mainGlobals "len" = some none)
    (y_range : PySem.W.nsIn K mainGlobals "range" = some none)
    (y_list : PySem.W.nsIn K mainGlobals "list" = some none)
    (y_isinstance : PySem.W.nsIn K mainGlobals "isinstance" = some none)
    (y_bool : PySem.W.nsIn K mainGlobals "bool" = some none)
    (y_int : PySem.W.nsIn K mainGlobals "int" = some none)
    (y_tuple : PySem.W.nsIn K mainGlobals "tuple" = some none)
    (y_str : PySem.W.nsIn K mainGlobals "str" = some none)
    (y_all : PySem.W.nsIn K mainGlobals "all" = some none)
    (y_zip : PySem.W.nsIn K mainGlobals "zip" = some none)
    (y_min : PySem.W.nsIn K mainGlobals "min" = some none)
    (y_sum : PySem.W.nsIn K mainGlobals "sum" = some none)
    : ∃ fd : FuncData, (∀ (s : Shared) (v : Value), BindsTo s fd ⟨[v], []⟩ [("_law_script", v)]) ∧ ∀ base : Heap, K.In base → base.Ns mainGlobals mg → FnOk l.prog w K mg base CX0 5 fa fd ["_law_script"] (spLaw K) := by
  have e := hfa.symm.trans (PySem.W.mg_of X G a12)
  cases e
  have F1 := fun_mk (st := sBegun) l1 c1 k1
  have g1 := PySem.W.mg_of X G a1
  have b1 := F1.binds (ps := ["rows", "place"]) fun _ _ _ _ _ _ us hl => match us, hl with | [_, _], _ => rfl
  have F2 := fun_mk (st := sHas) l2 c2 k2
  have g2 := PySem.W.mg_of X G a2
  have b2 := F2.binds (ps := ["rows", "place"]) fun _ _ _ _ _ _ us hl => match us, hl with | [_, _], _ => rfl
  have F3 := fun_mk (st := sUnder) l3 c3 k3
  have g3 := PySem.W.mg_of X G a3
  have b3 := F3.binds (ps := ["rows", "place"]) fun _ _ _ _ _ _ us hl => match us, hl with | [_, _], _ => rfl
  have F4 := fun_mk (st := sKth) l4 c4 k4
  have g4 := PySem.W.mg_of X G a4
  have b4 := F4.binds (ps := ["rows", "k"]) fun _ _ _ _ _ _ us hl => match us, hl with | [_, _], _ => rfl
  have F5 := fun_mk (st := sMix) l5 c5 k5
  have g5 := PySem.W.mg_of X G a5
  have b5 := F5.binds (ps := ["_law_seed"]) fun _ _ _ _ _ _ us hl => match us, hl with | [_], _ => rfl
  have F6 := fun_mk (st := sRaw) l6 c6 k6
  have g6 := PySem.W.mg_of X G a6
  have b6 := F6.binds (ps := ["_law_script", "_law_k"]) fun _ _ _ _ _ _ us hl => match us, hl with | [_, _], _ => rfl
  have F7 := fun_mk (st := sDig) l7 c7 k7
  have g7 := PySem.W.mg_of X G a7
  have b7 := F7.binds (ps := ["_law_script", "_law_k", "_law_sizes"]) fun _ _ _ _ _ _ us hl => match us, hl with | [_, _, _], _ => rfl
  have F8 := fun_mk (st := sSome) l8 c8 k8
  have g8 := PySem.W.mg_of X G a8
  have b8 := F8.binds (ps := ["_law_script", "_law_k", "_law_many", "_law_wide"]) fun _ _ _ _ _ _ us hl => match us, hl with | [_, _, _, _], _ => rfl
  have F9 := fun_mk (st := sRowsOf) l9 c9 k9
  have g9 := PySem.W.mg_of X G a9
  have b9 := F9.binds (ps := ["_law_places"]) fun _ _ _ _ _ _ us hl => match us, hl with | [_], _ => rfl
  have F10 := fun_mk (st := sPlaces) l10 c10 k10
  have g10 := PySem.W.mg_of X G a10
  have b10 := F10.binds (ps := ["_law_rows"]) fun _ _ _ _ _ _ us hl => match us, hl with | [_], _ => rfl
  have F11 := fun_mk (st := sSame) l11 c11 k11
  have g11 := PySem.W.mg_of X G a11
  have b11 := F11.binds (ps := ["_law_told", "_law_due"]) fun _ _ _ _ _ _ us hl => match us, hl with | [_, _], _ => rfl
  have F12 := fun_mk (st := sLaw) l12 c12 k12
  have g12 := PySem.W.mg_of X G a12
  have z_sorted := PySem.W.mg_none_of X G y_sorted
  have z_len := PySem.W.mg_none_of X G y_len
  have z_range := PySem.W.mg_none_of X G y_range
  have z_list := PySem.W.mg_none_of X G y_list
  have z_isinstance := PySem.W.mg_none_of X G y_isinstance
  have z_bool := PySem.W.mg_none_of X G y_bool
  have z_int := PySem.W.mg_none_of X G y_int
  have z_tuple := PySem.W.mg_none_of X G y_tuple
  have z_str := PySem.W.mg_none_of X G y_str
  have z_all := PySem.W.mg_none_of X G y_all
  have z_zip := PySem.W.mg_none_of X G y_zip
  have z_min := PySem.W.mg_none_of X G y_min
  have z_sum := PySem.W.mg_none_of X G y_sum
  refine ⟨PySem.W.fnOf "law" "law" (defArgs sLaw) (defBody sLaw) (defScope sLaw) .none kV12 dc12 pm12 an12 cd12 ct12, fun s v => .of_eq rfl, fun base _ _ => ?_⟩
  have T : TySame mg := ⟨z_isinstance, z_bool, z_int, z_list, z_tuple, z_str, z_len, z_all, z_zip⟩
  have GR := ok_raw (P := l.prog) (w := w) (base := base) (k := 0) F6 F5 b5 g5 z_len z_range
  have GD := ok_dig F7 GR k6 b6 g6
  have GS := ok_some F8 GD k7 b7 g7 z_range
  have GB := ok_begun (P := l.prog) (w := w) (base := base) (k := 0) F1 z_len
  exact ok_law F12 ⟨GD, b7, k7, g7, GS, b8, k8, g8, ok_rowsOf F9 z_sorted z_list, b9, k9, g9, ok_places F10 z_range, b10, k10, g10, ok_same F11 b11 g11 T 3, b11, k11, g11, ok_has F2 GB k1 b1 g1, b2, k2, g2, ok_under F3 z_sum z_min, b3, k3, g3, ok_kth F4, b4, k4, g4, z_list, z_range, z_len, z_sorted, z_int⟩
end Rep
open PySem PySem.W PyProof.Rows
set_option maxRecDepth 100000 in
set_option maxHeartbeats 0 in
theorem PySem.Challenge.cw_reprise_k02_places_in_stretches_holds : PySem.Challenge.rw_reprise_k02_places_in_stretches.Holds := by
  w_on; o_law; k_head; (case hw => w_witness2)
  k_fill
  refine L2.walk_of (l := PySem.Challenge.rw_reprise_k02_places_in_stretches) (n := 63) (k := 5) (x := "_law_script") (CX := fun _ => L2.CX0) (sp := fun w => Rep.spLaw _) rfl (by decide) rfl ⟨rfl, by decide, by decide⟩ (fun w h Y => PySem.W.kIn_of Y) ?F (fun _ _ a ns hl _ hS => ⟨a, ns, rfl, hS, hl, fun _ => rfl⟩) (fun _ _ _ _ _ h => h)
  case F =>
    intro w mg fa h KX G hmg
    refine' Rep.all_mk KX G hmg ?a1 ?l1 ?c1 ?k1 ?a2 ?l2 ?c2 ?k2 ?a3 ?l3 ?c3 ?k3 ?a4 ?l4 ?c4 ?k4 ?a5 ?l5 ?c5 ?k5 ?a6 ?l6 ?c6 ?k6 ?a7 ?l7 ?c7 ?k7 ?a8 ?l8 ?c8 ?k8 ?a9 ?l9 ?c9 ?k9 ?a10 ?l10 ?c10 ?k10 ?a11 ?l11 ?c11 ?k11 ?a12 ?l12 ?c12 ?k12 ?y_sorted ?y_len ?y_range ?y_list ?y_isinstance ?y_bool ?y_int ?y_tuple ?y_str ?y_all ?y_zip ?y_min ?y_sum
    (case a1 => k_is)
    (case l1 => k_is)
    (case c1 => k_is)
    (case k1 => k_is)
    (case a2 => k_is)
    (case l2 => k_is)
    (case c2 => k_is)
    (case k2 => k_is)
    (case a3 => k_is)
    (case l3 => k_is)
    (case c3 => k_is)
    (case k3 => k_is)
    (case a4 => k_is)
    (case l4 => k_is)
    (case c4 => k_is)
    (case k4 => k_is)
    (case a5 => k_is)
    (case l5 => k_is)
    (case c5 => k_is)
    (case k5 => k_is)
    (case a6 => k_is)
    (case l6 => k_is)
    (case c6 => k_is)
    (case k6 => k_is)
    (case a7 => k_is)
    (case l7 => k_is)
    (case c7 => k_is)
    (case k7 => k_is)
    (case a8 => k_is)
    (case l8 => k_is)
    (case c8 => k_is)
    (case k8 => k_is)
    (case a9 => k_is)
    (case l9 => k_is)
    (case c9 => k_is)
    (case k9 => k_is)
    (case a10 => k_is)
    (case l10 => k_is)
    (case c10 => k_is)
    (case k10 => k_is)
    (case a11 => k_is)
    (case l11 => k_is)
    (case c11 => k_is)
    (case k11 => k_is)
    (case a12 => k_is)
    (case l12 => k_is)
    (case c12 => k_is)
    (case k12 => k_is)
    (case y_sorted => k_is)
    (case y_len => k_is)
    (case y_range => k_is)
    (case y_list => k_is)
    (case y_isinstance => k_is)
    (case y_bool => k_is)
    (case y_int => k_is)
    (case y_tuple => k_is)
    (case y_str => k_is)
    (case y_all => k_is)
    (case y_zip => k_is)
    (case y_min => k_is)
    (case y_sum => k_is)
