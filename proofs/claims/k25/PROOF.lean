import PyProof.Rows.All
import Wide.All
import OpenK.AllK
import Wide.FinOn
import HandS.ForMost
import HandS.Wide
import HandS.SortRule
import HandS.SortInts
import HandS.IsInst
import HandS.Zip
import HandS.TryOnly
import HandS.More
import HandS.Walk
import HandS.Codes
import HandS.Conv
import HandS.Style
import HandS.Flow
import HandS.SortKw
import HandS.Lambda
import HandS.EndTab
import KE.DataMinKey
import KE.DataFind
import KE.SortData
import PySem.Challenge.RW_reprise_k25_steps_judged
set_option Elab.async false
set_option linter.all false
set_option maxRecDepth 100000
set_option maxHeartbeats 4000000
namespace Rep
abbrev Pr := Int × Int
def cov (ps : List Pr) (x : Int) : Prop := ∃ p ∈ ps, p.1 ≤ x ∧ x < p.2
structure Tdy (ps : List Pr) : Prop where
  ok : ∀ p ∈ ps, p.1 < p.2
  gap : ps.Pairwise (fun p q => p.2 < q.1)
theorem cov_cons {p : Pr} {ps : List Pr} {x : Int} : cov (p :: ps) x ↔ (p.1 ≤ x ∧ x < p.2) ∨ cov ps x := by
  unfold cov
  constructor
  · rintro ⟨q, hq, h⟩
    rcases List.mem_cons.mp hq with e | hq
    · subst e; exact .inl h
    · exact .inr ⟨q, hq, h⟩
  · rintro (h | ⟨q, hq, h⟩)
    · exact ⟨p, List.mem_cons_self, h⟩
    · exact ⟨q, List.mem_cons_of_mem _ hq, h⟩
theorem cov_nil {x : Int} : ¬ cov [] x := by
  rintro ⟨q, hq, _⟩; cases hq
theorem Tdy.tail {p : Pr} {ps : List Pr} (h : Tdy (p :: ps)) : Tdy ps :=
  ⟨fun q hq => h.ok q (List.mem_cons_of_mem _ hq), (List.pairwise_cons.mp h.gap).2⟩
theorem Tdy.behind {p : Pr} {ps : List Pr} (h : Tdy (p :: ps)) {x : Int} (c : cov ps x) : p.2 < x := by
  obtain ⟨q, hq, h1, h2⟩ := c
  have := (List.pairwise_cons.mp h.gap).1 q hq
  omega
theorem Tdy.uniq : ∀ {a b : List Pr}, Tdy a → Tdy b → (∀ x, cov a x ↔ cov b x) → a = b
  | [], [], _, _, _ => rfl
  | [], q :: b, _, hb, h => by
    have h1 := hb.ok q List.mem_cons_self
    exact absurd ((h q.1).mpr (cov_cons.mpr (.inl ⟨Int.le_refl _, h1⟩))) cov_nil
  | p :: a, [], ha, _, h => by
    have h1 := ha.ok p List.mem_cons_self
    exact absurd ((h p.1).mp (cov_cons.mpr (.inl ⟨Int.le_refl _, h1⟩))) cov_nil
  | p :: a, q :: b, ha, hb, h => by
    have hp := ha.ok p List.mem_cons_self
    have hq := hb.ok q List.mem_cons_self
    have e1 : p.1 = q.1 := by
      have x1 := (h p.1).mp (cov_cons.mpr (.inl ⟨Int.le_refl _, hp⟩))
      have x2 := (h q.1).mpr (cov_cons.mpr (.inl ⟨Int.le_refl _, hq⟩))
      rcases cov_cons.mp x1 with x1 | x1 <;> rcases cov_cons.mp x2 with x2 | x2
      · omega
      · have := ha.behind x2; omega
      · have := hb.behind x1; omega
      · have := ha.behind x2; have := hb.behind x1; omega
    have e2 : p.2 = q.2 := by
      rcases Int.lt_trichotomy p.2 q.2 with l | l | l
      · have x1 := (h p.2).mpr (cov_cons.mpr (.inl ⟨by omega, l⟩))
        rcases cov_cons.mp x1 with x1 | x1
        · omega
        · have := ha.behind x1; omega
      · exact l
      · have x1 := (h q.2).mp (cov_cons.mpr (.inl ⟨by omega, l⟩))
        rcases cov_cons.mp x1 with x1 | x1
        · omega
        · have := hb.behind x1; omega
    have e : p = q := Prod.ext e1 e2
    subst e
    have et : a = b := by
      refine Tdy.uniq ha.tail hb.tail fun x => ⟨fun c => ?_, fun c => ?_⟩
      · have l := ha.behind c
        rcases cov_cons.mp ((h x).mp (cov_cons.mpr (.inr c))) with z | z
        · omega
        · exact z
      · have l := hb.behind c
        rcases cov_cons.mp ((h x).mpr (cov_cons.mpr (.inr c))) with z | z
        · omega
        · exact z
    rw [et]
/-- one turn of tidy, what is made so far held the wrong way round -/
def tStep (acc : List Pr) (p : Pr) : List Pr :=
  if p.2 ≤ p.1 then acc else match acc with
    | [] => [p]
    | q :: r => if q.2 < p.1 then p :: q :: r else if q.2 < p.2 then (q.1, p.2) :: r else q :: r
structure RT (acc : List Pr) : Prop where
  ok : ∀ p ∈ acc, p.1 < p.2
  gap : acc.Pairwise (fun p q => q.2 < p.1)
theorem RT.tdy {acc : List Pr} (h : RT acc) : Tdy acc.reverse :=
  ⟨fun p hp => h.ok p (List.mem_reverse.mp hp), List.pairwise_reverse.mpr h.gap⟩
theorem cov_rev {acc : List Pr} {x : Int} : cov acc.reverse x ↔ cov acc x := by
  unfold cov
  constructor
  · rintro ⟨q, hq, h⟩; exact ⟨q, List.mem_reverse.mp hq, h⟩
  · rintro ⟨q, hq, h⟩; exact ⟨q, List.mem_reverse.mpr hq, h⟩
theorem RT.step {acc : List Pr} {p : Pr} (h : RT acc) (hh : ∀ q ∈ acc, q.1 ≤ p.1) :
    RT (tStep acc p) ∧ (∀ x, cov (tStep acc p) x ↔ cov acc x ∨ (p.1 ≤ x ∧ x < p.2)) ∧ ∀ q ∈ tStep acc p, q.1 ≤ p.1 := by
  unfold tStep
  by_cases e : p.2 ≤ p.1
  · rw [if_pos e]
    refine ⟨h, fun x => ⟨.inl, fun z => ?_⟩, hh⟩
    rcases z with z | z
    · exact z
    · omega
  · rw [if_neg e]
    cases acc with
    | nil =>
      refine ⟨⟨fun q hq => ?_, List.pairwise_singleton _ _⟩, fun x => ?_, fun q hq => ?_⟩
      · rw [List.mem_singleton.mp hq]; omega
      · show cov [p] x ↔ _
        rw [cov_cons]
        exact ⟨fun z => z.elim .inr .inl, fun z => z.elim .inr .inl⟩
      · rw [List.mem_singleton.mp hq]; exact Int.le_refl _
    | cons q r =>
      have hq1 := h.ok q List.mem_cons_self
      have hr : RT r := ⟨fun z hz => h.ok z (List.mem_cons_of_mem _ hz), (List.pairwise_cons.mp h.gap).2⟩
      have hg := (List.pairwise_cons.mp h.gap).1
      have hl := hh q List.mem_cons_self
      show RT (if q.2 < p.1 then p :: q :: r else if q.2 < p.2 then (q.1, p.2) :: r else q :: r) ∧ (∀ x, cov (if q.2 < p.1 then p :: q :: r else if q.2 < p.2 then (q.1, p.2) :: r else q :: r) x ↔ _) ∧ ∀ z ∈ (if q.2 < p.1 then p :: q :: r else if q.2 < p.2 then (q.1, p.2) :: r else q :: r), _
      by_cases c1 : q.2 < p.1
      · rw [if_pos c1]
        refine ⟨⟨fun z hz => ?_, List.pairwise_cons.mpr ⟨fun z hz => ?_, h.gap⟩⟩, fun x => ?_, fun z hz => ?_⟩
        · rcases List.mem_cons.mp hz with rfl | hz
          · omega
          · exact h.ok z hz
        · rcases List.mem_cons.mp hz with rfl | hz
          · exact c1
          · have := hg z hz; omega
        · rw [cov_cons]; exact Or.comm
        · rcases List.mem_cons.mp hz with rfl | hz
          · exact Int.le_refl _
          · exact hh z hz
      · rw [if_neg c1]
        by_cases c2 : q.2 < p.2
        · rw [if_pos c2]
          refine ⟨⟨fun z hz => ?_, List.pairwise_cons.mpr ⟨fun z hz => hg z hz, hr.gap⟩⟩, fun x => ?_, fun z hz => ?_⟩
          · rcases List.mem_cons.mp hz with rfl | hz
            · show q.1 < p.2; omega
            · exact hr.ok z hz
          · rw [cov_cons, cov_cons]
            show (q.1 ≤ x ∧ x < p.2) ∨ cov r x ↔ _
            constructor
            · rintro (z | z)
              · by_cases x < q.2
                · exact .inl (.inl ⟨z.1, by assumption⟩)
                · exact .inr ⟨by omega, z.2⟩
              · exact .inl (.inr z)
            · rintro ((z | z) | z)
              · exact .inl ⟨z.1, by omega⟩
              · exact .inr z
              · exact .inl ⟨by omega, z.2⟩
          · rcases List.mem_cons.mp hz with rfl | hz
            · exact hl
            · exact hh z (List.mem_cons_of_mem _ hz)
        · rw [if_neg c2]
          refine ⟨h, fun x => ⟨.inl, fun z => ?_⟩, hh⟩
          rcases z with z | z
          · exact z
          · exact cov_cons.mpr (.inl ⟨by omega, by omega⟩)
theorem fold_tidy : ∀ (ys acc : List Pr), RT acc → ys.Pairwise (fun p q => p.1 ≤ q.1) → (∀ q ∈ acc, ∀ p ∈ ys, q.1 ≤ p.1) →
    RT (ys.foldl tStep acc) ∧ ∀ x, cov (ys.foldl tStep acc) x ↔ cov acc x ∨ cov ys x
  | [], acc, h, _, _ => ⟨h, fun x => ⟨.inl, fun z => z.elim id fun z => absurd z cov_nil⟩⟩
  | p :: ys, acc, h, hs, hh => by
    obtain ⟨h1, h2, h3⟩ := h.step (p := p) fun q hq => hh q hq p List.mem_cons_self
    have hs' := List.pairwise_cons.mp hs
    obtain ⟨k1, k2⟩ := fold_tidy ys (tStep acc p) h1 hs'.2 fun q hq z hz => Int.le_trans (h3 q hq) (hs'.1 z hz)
    refine ⟨k1, fun x => ?_⟩
    show cov (ys.foldl tStep (tStep acc p)) x ↔ _
    rw [k2, h2, cov_cons, or_assoc]
/-- what tidy makes of rows in order -/
def tidyF (ys : List Pr) : List Pr := (ys.foldl tStep []).reverse
theorem tidyF_tdy {ys : List Pr} (hs : ys.Pairwise (fun p q => p.1 ≤ q.1)) : Tdy (tidyF ys) ∧ ∀ x, cov (tidyF ys) x ↔ cov ys x := by
  obtain ⟨h1, h2⟩ := fold_tidy ys [] ⟨fun p hp => (by cases hp), List.Pairwise.nil⟩ hs (fun q hq => by cases hq)
  refine ⟨h1.tdy, fun x => ?_⟩
  unfold tidyF
  rw [cov_rev, h2]
  exact ⟨fun z => z.elim (fun z => absurd z cov_nil) id, .inr⟩
/-- how many places -/
def wid (ps : List Pr) : Int := (ps.map fun p => p.2 - p.1).sum
theorem wid_cons {p : Pr} {r : List Pr} : wid (p :: r) = p.2 - p.1 + wid r := by
  unfold wid; rw [List.map_cons, List.sum_cons]
theorem wid_append {a b : List Pr} : wid (a ++ b) = wid a + wid b := by
  unfold wid; rw [List.map_append, List.sum_append]
theorem wid_rev : ∀ (a : List Pr), wid a.reverse = wid a
  | [] => rfl
  | p :: r => by
    rw [List.reverse_cons, wid_append, wid_rev r, wid_cons, wid_cons]
    show wid r + (p.2 - p.1 + 0) = _
    omega
/-- one turn of the law's own rows -/
def rStep (acc : List Pr) (x : Int) : List Pr := match acc with
  | [] => [(x, x + 1)]
  | q :: r => if q.2 = x then (q.1, x + 1) :: r else (x, x + 1) :: q :: r
theorem rStep_wid (acc : List Pr) (x : Int) : wid (rStep acc x) = wid acc + 1 := by
  cases acc with
  | nil => unfold rStep; rw [wid_cons]; show x + 1 - x + 0 = 0 + 1; omega
  | cons q r =>
    show wid (if q.2 = x then (q.1, x + 1) :: r else (x, x + 1) :: q :: r) = _
    by_cases c : q.2 = x
    · rw [if_pos c, wid_cons, wid_cons]; show x + 1 - q.1 + wid r = _; omega
    · rw [if_neg c, wid_cons]; show x + 1 - x + wid (q :: r) = _; omega
theorem rStep_eq {acc : List Pr} {x : Int} (h : ∀ q ∈ acc, q.2 ≤ x) : rStep acc x = tStep acc (x, x + 1) := by
  unfold tStep
  rw [if_neg (show ¬ (x + 1 ≤ x) by omega)]
  cases acc with
  | nil => rfl
  | cons q r =>
    have := h q List.mem_cons_self
    show (if q.2 = x then (q.1, x + 1) :: r else (x, x + 1) :: q :: r) = (if q.2 < x then (x, x + 1) :: q :: r else if q.2 < x + 1 then (q.1, x + 1) :: r else q :: r)
    by_cases c : q.2 = x
    · rw [if_pos c, if_neg (by omega), if_pos (by omega)]
    · rw [if_neg c, if_pos (by omega)]
theorem rStep_le {acc : List Pr} {x : Int} (h : ∀ q ∈ acc, q.2 ≤ x) : ∀ q ∈ rStep acc x, q.2 ≤ x + 1 := by
  intro q hq
  cases acc with
  | nil =>
    have e : q = (x, x + 1) := List.mem_singleton.mp hq
    rw [e]; exact Int.le_refl _
  | cons p r =>
    have hq : q ∈ (if p.2 = x then (p.1, x + 1) :: r else (x, x + 1) :: p :: r) := hq
    by_cases c : p.2 = x
    · rw [if_pos c] at hq
      rcases List.mem_cons.mp hq with e | hq
      · rw [e]; exact Int.le_refl _
      · have := h q (List.mem_cons_of_mem _ hq); omega
    · rw [if_neg c] at hq
      rcases List.mem_cons.mp hq with e | hq
      · rw [e]; exact Int.le_refl _
      · have := h q hq; omega
def ones (xs : List Int) : List Pr := xs.map fun x => (x, x + 1)
theorem fold_rows : ∀ (xs : List Int) (acc : List Pr), xs.Pairwise (· < ·) → (∀ q ∈ acc, ∀ x ∈ xs, q.2 ≤ x) →
    xs.foldl rStep acc = (ones xs).foldl tStep acc ∧ wid (xs.foldl rStep acc) = wid acc + xs.length
  | [], acc, _, _ => ⟨rfl, by show wid acc = wid acc + 0; omega⟩
  | x :: xs, acc, hs, hh => by
    have hs' := List.pairwise_cons.mp hs
    have h1 : ∀ q ∈ acc, q.2 ≤ x := fun q hq => hh q hq x List.mem_cons_self
    obtain ⟨k1, k2⟩ := fold_rows xs (rStep acc x) hs'.2 fun q hq z hz => by
      have a := rStep_le h1 q hq
      have b := hs'.1 z hz
      omega
    constructor
    · show xs.foldl rStep (rStep acc x) = (ones xs).foldl tStep (tStep acc (x, x + 1))
      rw [k1, rStep_eq h1]
    · show wid (xs.foldl rStep (rStep acc x)) = _
      rw [k2, rStep_wid, List.length_cons]
      omega
theorem cov_ones {xs : List Int} {x : Int} : cov (ones xs) x ↔ x ∈ xs := by
  unfold cov ones
  constructor
  · rintro ⟨q, hq, h⟩
    obtain ⟨y, hy, e⟩ := List.mem_map.mp hq
    subst e
    have h1 : y ≤ x := h.1
    have h2 : x < y + 1 := h.2
    have e : x = y := by omega
    rw [e]; exact hy
  · intro h
    exact ⟨(x, x + 1), List.mem_map.mpr ⟨x, h, rfl⟩, Int.le_refl _, by show x < x + 1; omega⟩
/-- the law's own rows of places in order -/
def rowsF (xs : List Int) : List Pr := (xs.foldl rStep []).reverse
theorem rowsF_tdy {xs : List Int} (hs : xs.Pairwise (· < ·)) : Tdy (rowsF xs) ∧ (∀ x, cov (rowsF xs) x ↔ x ∈ xs) ∧ wid (rowsF xs) = xs.length := by
  obtain ⟨k1, k2⟩ := fold_rows xs [] hs fun q hq => by cases hq
  have e : rowsF xs = tidyF (ones xs) := by unfold rowsF tidyF; rw [k1]
  have hp : (ones xs).Pairwise (fun p q => p.1 ≤ q.1) := by
    unfold ones
    rw [List.pairwise_map]
    exact hs.imp fun h => Int.le_of_lt h
  obtain ⟨t1, t2⟩ := tidyF_tdy hp
  refine ⟨e ▸ t1, fun x => ?_, ?_⟩
  · rw [e, t2, cov_ones]
  · unfold rowsF; rw [wid_rev, k2]; show (0 : Int) + _ = _; omega
/-- times by, and moved -/
def sc (by_ high : Int) (p : Pr) : Pr := (p.1 * by_ + high, p.2 * by_ + high)
theorem cov_sc {by_ high : Int} (hb : 0 < by_) {ps : List Pr} {x : Int} : cov (ps.map (sc by_ high)) x ↔ cov ps ((x - high) / by_) := by
  have key : ∀ a : Int, a * by_ + high ≤ x ↔ a ≤ (x - high) / by_ := fun a => by
    rw [Int.le_ediv_iff_mul_le hb]; omega
  unfold cov
  constructor
  · rintro ⟨q, hq, h1, h2⟩
    obtain ⟨p, hp, rfl⟩ := List.mem_map.mp hq
    have k1 := key p.1
    have k2 := key p.2
    have h1 : p.1 * by_ + high ≤ x := h1
    have h2 : x < p.2 * by_ + high := h2
    refine ⟨p, hp, k1.mp h1, ?_⟩
    have : ¬ p.2 ≤ (x - high) / by_ := fun z => by have := k2.mpr z; omega
    omega
  · rintro ⟨p, hp, h1, h2⟩
    have k1 := key p.1
    have k2 := key p.2
    refine ⟨sc by_ high p, List.mem_map.mpr ⟨p, hp, rfl⟩, k1.mpr h1, ?_⟩
    show x < p.2 * by_ + high
    have : ¬ p.2 * by_ + high ≤ x := fun z => by have := k2.mp z; omega
    omega
theorem sc_lt {by_ a b : Int} (high : Int) (hb : 0 < by_) (h : a < b) : a * by_ + high < b * by_ + high := by
  have := Int.mul_lt_mul_of_pos_right h hb
  omega
theorem Tdy.scale {by_ high : Int} (hb : 0 < by_) {ps : List Pr} (h : Tdy ps) : Tdy (ps.map (sc by_ high)) := by
  refine ⟨fun q hq => ?_, ?_⟩
  · obtain ⟨p, hp, rfl⟩ := List.mem_map.mp hq
    exact sc_lt high hb (h.ok p hp)
  · rw [List.pairwise_map]
    exact h.gap.imp fun z => sc_lt high hb z
theorem wid_sc {by_ high : Int} : ∀ ps : List Pr, wid (ps.map (sc by_ high)) = wid ps * by_
  | [] => by show (0 : Int) = 0 * by_; rw [Int.zero_mul]
  | p :: r => by
    rw [List.map_cons, wid_cons, wid_cons, wid_sc r, Int.add_mul, Int.sub_mul]
    show p.2 * by_ + high - (p.1 * by_ + high) + _ = _
    omega
end Rep
namespace Rep
open PySem L2
/-! pairs on the heap -/
def kOf (H : Hp) (v : V) : Pr := match v with
  | .ref t => (match H t with
    | some (.tup [.int a, .int b]) => (a, b)
    | _ => (0, 0))
  | _ => (0, 0)
def IsPr (H : Hp) (v : V) : Prop := ∃ t, v = .ref t ∧ H t = some (.tup [.int (kOf H v).1, .int (kOf H v).2])
theorem kOf_at {H : Hp} {t : Addr} {a b : Int} (h : H t = some (.tup [.int a, .int b])) : kOf H (.ref t) = (a, b) := by
  show (match H t with
    | some (.tup [.int a, .int b]) => (a, b)
    | _ => (0, 0)) = (a, b)
  rw [h]
theorem IsPr.of {H : Hp} {t : Addr} {a b : Int} (h : H t = some (.tup [.int a, .int b])) : IsPr H (.ref t) :=
  ⟨t, rfl, by rw [kOf_at h]; exact h⟩
/-- tuples stay -/
def TS (H H' : Hp) : Prop := ∀ t xs, H t = some (.tup xs) → H' t = some (.tup xs)
theorem TS.of {H H' : Hp} (h : Same H H') : TS H H' := fun t xs e => h t _ e
theorem TS.refl (H : Hp) : TS H H := fun _ _ e => e
theorem TS.trans {H H1 H2 : Hp} (a : TS H H1) (b : TS H1 H2) : TS H H2 := fun t xs e => b t xs (a t xs e)
theorem TS.lst {H : Hp} {o : Addr} {zs : List V} {u : HO} (h : H o = some (.lst zs)) : TS H (upd H o u) := fun t xs e => by
  rw [upd_ne (ne_of e h (by intro z; cases z))]
  exact e
theorem TS.dict {H : Hp} {o : Addr} {zs : List (Key × V)} {u : HO} (h : H o = some (.dK zs)) : TS H (upd H o u) := fun t xs e => by
  rw [upd_ne (ne_of e h (by intro z; cases z))]
  exact e
theorem same_upd {H : Hp} {p : Addr} {o : HO} (h : H p = none) : Same H (upd H p o) := fun b x e => by
  rw [upd_ne (ne_of_none e h)]
  exact e
theorem TS.new {H : Hp} {p : Addr} {o : HO} (h : H p = none) : TS H (upd H p o) := TS.of (same_upd h)
theorem same_over {H H' : Hp} {o : Addr} {u : HO} (h : Same H H') (n : H o = none) : Same H (upd H' o u) := fun b x e => by
  rw [upd_ne (ne_of_none e n)]
  exact h b x e
theorem kOf_ts {H H' : Hp} (s : TS H H') {v : V} (h : IsPr H v) : kOf H' v = kOf H v := by
  obtain ⟨t, e, h⟩ := h
  have h2 := s _ _ h
  subst e
  rw [kOf_at h2]
theorem IsPr.ts {H H' : Hp} (s : TS H H') {v : V} (h : IsPr H v) : IsPr H' v := by
  have e := kOf_ts s h
  obtain ⟨t, rfl, h⟩ := h
  exact ⟨t, rfl, by rw [e]; exact s _ _ h⟩
structure PL (H : Hp) (vs : List V) (ps : List Pr) : Prop where
  all : ∀ v ∈ vs, IsPr H v
  eq : vs.map (kOf H) = ps
theorem PL.nil {H : Hp} : PL H [] [] := ⟨fun v h => (by cases h), rfl⟩
theorem PL.len {H : Hp} {vs : List V} {ps : List Pr} (h : PL H vs ps) : vs.length = ps.length := by rw [← h.eq, List.length_map]
theorem PL.ts {H H' : Hp} (s : TS H H') {vs : List V} {ps : List Pr} (h : PL H vs ps) : PL H' vs ps := by
  refine ⟨fun v hv => (h.all v hv).ts s, ?_⟩
  rw [← h.eq]
  exact List.map_congr_left fun v hv => kOf_ts s (h.all v hv)
theorem PL.snoc {H : Hp} {vs : List V} {ps : List Pr} {t : Addr} {a b : Int} (h : PL H vs ps) (ht : H t = some (.tup [.int a, .int b])) : PL H (vs ++ [.ref t]) (ps ++ [(a, b)]) := by
  refine ⟨fun v hv => ?_, ?_⟩
  · rcases List.mem_append.mp hv with hv | hv
    · exact h.all v hv
    · rw [List.mem_singleton.mp hv]; exact .of ht
  · rw [List.map_append, h.eq]
    show ps ++ [kOf H (.ref t)] = _
    rw [kOf_at ht]
theorem PL.get {H : Hp} {vs : List V} {ps : List Pr} (h : PL H vs ps) {i : Nat} {v : V} (e : vs[i]? = some v) : ∃ t p, v = .ref t ∧ H t = some (.tup [.int p.1, .int p.2]) ∧ ps[i]? = some p := by
  obtain ⟨t, et, ht⟩ := h.all v (List.mem_of_getElem? e)
  refine ⟨t, kOf H v, et, ht, ?_⟩
  rw [← h.eq, List.getElem?_map, e]
  rfl
theorem PL.cut {H : Hp} {vs : List V} {ps : List Pr} {p : Pr} (h : PL H vs (ps ++ [p])) : ∃ ws t, vs = ws ++ [.ref t] ∧ PL H ws ps ∧ H t = some (.tup [.int p.1, .int p.2]) := by
  have hl := h.len
  rw [List.length_append, List.length_singleton] at hl
  have hn : vs ≠ [] := fun e => by rw [e] at hl; simp at hl
  refine ⟨vs.dropLast, ?_⟩
  have e := (List.dropLast_concat_getLast hn).symm
  obtain ⟨t, et, ht⟩ := h.all _ (List.getLast_mem hn)
  have q := h.eq
  rw [e, List.map_append] at q
  have q2 : vs.dropLast.map (kOf H) = ps ∧ [kOf H (vs.getLast hn)] = [p] := List.append_inj' q rfl
  refine ⟨t, by rw [← et]; exact e, ⟨fun v hv => h.all v (List.dropLast_subset _ hv), q2.1⟩, ?_⟩
  have q3 : kOf H (vs.getLast hn) = p := by simpa using q2.2
  rw [← q3]; exact ht
theorem PL.perm {H : Hp} {vs ys : List V} {ps : List Pr} (h : PL H vs ps) (p : ys.Perm vs) : PL H ys (ys.map (kOf H)) ∧ (ys.map (kOf H)).Perm ps :=
  ⟨⟨fun v hv => h.all v (p.mem_iff.mp hv), rfl⟩, by rw [← h.eq]; exact p.map _⟩
theorem cov_perm {a b : List Pr} (h : a.Perm b) {x : Int} : cov a x ↔ cov b x := by
  unfold cov
  constructor
  · rintro ⟨q, hq, z⟩; exact ⟨q, h.mem_iff.mp hq, z⟩
  · rintro ⟨q, hq, z⟩; exact ⟨q, h.mem_iff.mpr hq, z⟩
theorem tYes_ok {σ : L2.St} {H : Hp} {A : Bool → Hp → Prop} (h : A true H) : tYes σ H A := h
/-! data at a depth -/
inductive DT (H : Hp) : Nat → V → PyData → Prop
  | non {n : Nat} : DT H n .non .none
  | bl {n : Nat} (b : Bool) : DT H n (.bl b) (.bool b)
  | int {n : Nat} (i : Int) : DT H n (.int i) (.int i)
  | str {n : Nat} (x : Str) : DT H n (.str x) (.str x)
  | lst {n : Nat} {a : Addr} {xs : List V} {ds : List PyData} : H a = some (.lst xs) → xs.length = ds.length → xs.length ≤ 14000000 → (∀ (i : Nat) (x : V) (d : PyData), xs[i]? = some x → ds[i]? = some d → DT H n x d) → DT H (n + 1) (.ref a) (.list ds)
  | tup {n : Nat} {a : Addr} {xs : List V} {ds : List PyData} : H a = some (.tup xs) → xs.length = ds.length → xs.length ≤ 14000000 → (∀ (i : Nat) (x : V) (d : PyData), xs[i]? = some x → ds[i]? = some d → DT H n x d) → DT H (n + 1) (.ref a) (.tuple ds)
theorem DT.same {H H' : Hp} (s : Same H H') {n : Nat} {v : V} {d : PyData} (h : DT H n v d) : DT H' n v d := by
  induction h with
  | non => exact .non
  | bl b => exact .bl b
  | int i => exact .int i
  | str x => exact .str x
  | lst e l b _ ih => exact .lst (s _ _ e) l b ih
  | tup e l b _ ih => exact .tup (s _ _ e) l b ih
def pD (p : Pr) : PyData := .tuple [.int p.1, .int p.2]
theorem DT.pair {H : Hp} {n : Nat} {t : Addr} {p : Pr} (h : H t = some (.tup [.int p.1, .int p.2])) : DT H (n + 1) (.ref t) (pD p) := by
  refine .tup h rfl (by show 2 ≤ 14000000; decide) fun i x d hx hd => ?_
  match i, hx, hd with
  | 0, hx, hd => cases hx; cases hd; exact .int _
  | 1, hx, hd => cases hx; cases hd; exact .int _
theorem PL.dt {H : Hp} {n : Nat} {a : Addr} {vs : List V} {ps : List Pr} (h : PL H vs ps) (ha : H a = some (.lst vs)) (hl : ps.length ≤ 14000000) : DT H (n + 2) (.ref a) (.list (ps.map pD)) := by
  refine .lst ha (by rw [h.len, List.length_map]) (by rw [h.len]; exact hl) fun i x d hx hd => ?_
  obtain ⟨t, p, rfl, ht, hp⟩ := h.get hx
  rw [List.getElem?_map, hp] at hd
  cases hd
  exact .pair ht
/-- as the layer's deep data -/
theorem PL.dp {K : PySem.W.Frag} {H : Hp} : ∀ {vs : List V} {ps : List Pr}, PL H vs ps → DpAll K H vs (ps.map pD)
  | [], ps, h => by
    have := h.eq
    subst this
    exact .nil
  | v :: vs, ps, h => by
    have e := h.eq
    subst e
    obtain ⟨t, et, ht⟩ := h.all v List.mem_cons_self
    refine .cons ?_ (PL.dp ⟨fun w hw => h.all w (List.mem_cons_of_mem _ hw), rfl⟩)
    rw [et] at ht ⊢
    exact .tup (.inl (.inl ht)) (.cons (.int _) (.cons (.int _) .nil))
theorem canAll : ∀ ps : List Pr, PyData.canLayAll0 (ps.map pD) = true
  | [] => rfl
  | _ :: r => by
    show (true && PyData.canLayAll0 (r.map pD)) = true
    rw [canAll r]; rfl
end Rep
namespace Rep
/-! likeness by steps in either direction -/
inductive Eqv (R : Int → Int → Prop) : Int → Int → Prop
  | refl (x : Int) : Eqv R x x
  | of {x y : Int} : R x y → Eqv R x y
  | symm {x y : Int} : Eqv R x y → Eqv R y x
  | trans {x y z : Int} : Eqv R x y → Eqv R y z → Eqv R x z
theorem Eqv.bind {R S : Int → Int → Prop} (h : ∀ x y, R x y → Eqv S x y) {x y : Int} (e : Eqv R x y) : Eqv S x y := by
  induction e with
  | refl x => exact .refl x
  | of r => exact h _ _ r
  | symm _ ih => exact .symm ih
  | trans _ _ a b => exact .trans a b
theorem Eqv.mono {R S : Int → Int → Prop} (h : ∀ x y, R x y → S x y) {x y : Int} (e : Eqv R x y) : Eqv S x y := e.bind fun x y r => .of (h x y r)
/-- a saying: the lesser start, the greater, how many, turned -/
structure Sy where
  lo : Int
  hi : Int
  n : Int
  t : Bool
  deriving DecidableEq
def Sy.en (s : Sy) : Int := s.hi + s.n
/-- the place that a place of the first stretch is said alike to -/
def mate (lo hi n : Int) (t : Bool) (x : Int) : Int := if t then lo + hi + n - 1 - x else x - lo + hi
def says (lo hi n : Int) (t : Bool) (x y : Int) : Prop := lo ≤ x ∧ x < lo + n ∧ y = mate lo hi n t x
def rel (s : Sy) (x y : Int) : Prop := says s.lo s.hi s.n s.t x y
def relL (K : List Sy) (x y : Int) : Prop := ∃ s ∈ K, rel s x y
/-- a saying of what is left of the song, below e -/
structure Ok (e : Int) (s : Sy) : Prop where
  lo0 : 0 ≤ s.lo
  lt : s.lo < s.hi
  n1 : 1 ≤ s.n
  le : s.hi + s.n ≤ e
  ov : s.t = true → s.lo + s.n ≤ s.hi
theorem Ok.mono {e e' : Int} {s : Sy} (h : Ok e s) (l : s.hi + s.n ≤ e') : Ok e' s := ⟨h.lo0, h.lt, h.n1, l, h.ov⟩
theorem says_t {lo hi n x y : Int} : says lo hi n true x y ↔ lo ≤ x ∧ x < lo + n ∧ y = lo + hi + n - 1 - x := Iff.rfl
theorem says_f {lo hi n x y : Int} : says lo hi n false x y ↔ lo ≤ x ∧ x < lo + n ∧ y = x - lo + hi := Iff.rfl
/-! as it is kept -/
def keptF (a b n : Int) (t : Bool) : Option Sy :=
  let lo := min a b
  let hi := max a b
  if t = true ∧ hi < lo + n then
    let r := hi + n - lo
    if r / 2 < 1 ∨ lo = lo + r - r / 2 then none else some ⟨lo, lo + r - r / 2, r / 2, t⟩
  else if n < 1 ∨ lo = hi then none else some ⟨lo, hi, n, t⟩
/-- what a kept form says, if there is one -/
def relO (o : Option Sy) (x y : Int) : Prop := ∃ s, o = some s ∧ rel s x y
theorem says_swap {a b n : Int} {t : Bool} {x y : Int} (h : says a b n t x y) : says b a n t y x := by
  cases t with
  | true => rw [says_t] at *; omega
  | false => rw [says_f] at *; omega
theorem says_minmax {a b n : Int} {t : Bool} {x y : Int} (h : says a b n t x y) : Eqv (says (min a b) (max a b) n t) x y := by
  rcases Int.le_total a b with l | l
  · rw [Int.min_eq_left l, Int.max_eq_right l]; exact .of h
  · rw [Int.min_eq_right l, Int.max_eq_left l]; exact .symm (.of (says_swap h))
theorem minmax_says {a b n : Int} {t : Bool} {x y : Int} (h : says (min a b) (max a b) n t x y) : Eqv (says a b n t) x y := by
  rcases Int.le_total a b with l | l
  · rw [Int.min_eq_left l, Int.max_eq_right l] at h; exact .of h
  · rw [Int.min_eq_right l, Int.max_eq_left l] at h; exact .symm (.of (says_swap h))
theorem kept_ok {a b n e : Int} {t : Bool} {s : Sy} (ha : 0 ≤ a) (hb : 0 ≤ b) (hae : a + n ≤ e) (hbe : b + n ≤ e) (h : keptF a b n t = some s) : Ok e s ∧ s.hi + s.n = max a b + n := by
  unfold keptF at h
  have h0 : 0 ≤ min a b := by omega
  have h1 : max a b + n ≤ e := by omega
  have h2 : min a b ≤ max a b := by omega
  generalize min a b = lo at *
  generalize max a b = hi at *
  by_cases c : t = true ∧ hi < lo + n
  · rw [if_pos c] at h
    by_cases d : (hi + n - lo) / 2 < 1 ∨ lo = lo + (hi + n - lo) - (hi + n - lo) / 2
    · rw [if_pos d] at h; cases h
    · rw [if_neg d] at h
      cases h
      refine ⟨⟨h0, ?_, ?_, ?_, fun _ => ?_⟩, ?_⟩
      · show lo < lo + (hi + n - lo) - (hi + n - lo) / 2; omega
      · show 1 ≤ (hi + n - lo) / 2; omega
      · show lo + (hi + n - lo) - (hi + n - lo) / 2 + (hi + n - lo) / 2 ≤ e; omega
      · show lo + (hi + n - lo) / 2 ≤ lo + (hi + n - lo) - (hi + n - lo) / 2; omega
      · show lo + (hi + n - lo) - (hi + n - lo) / 2 + (hi + n - lo) / 2 = _; omega
  · rw [if_neg c] at h
    by_cases d : n < 1 ∨ lo = hi
    · rw [if_pos d] at h; cases h
    · rw [if_neg d] at h
      cases h
      refine ⟨⟨h0, by show lo < hi; omega, by show 1 ≤ n; omega, h1, fun ht => ?_⟩, rfl⟩
      show lo + n ≤ hi
      have ht : t = true := ht
      have : ¬ hi < lo + n := fun z => c ⟨ht, z⟩
      omega
/-- nothing is lost and nothing is added -/
theorem kept_eq {a b n : Int} {t : Bool} : (∀ x y, says a b n t x y → Eqv (relO (keptF a b n t)) x y) ∧ ∀ x y, relO (keptF a b n t) x y → Eqv (says a b n t) x y := by
  have key : (∀ x y, says (min a b) (max a b) n t x y → Eqv (relO (keptF a b n t)) x y) ∧ ∀ x y, relO (keptF a b n t) x y → Eqv (says (min a b) (max a b) n t) x y := by
    unfold keptF
    have h2 : min a b ≤ max a b := by omega
    generalize min a b = lo at *
    generalize max a b = hi at *
    by_cases c : t = true ∧ hi < lo + n
    · simp only [if_pos c]
      obtain ⟨rfl, c⟩ := c
      by_cases d : (hi + n - lo) / 2 < 1 ∨ lo = lo + (hi + n - lo) - (hi + n - lo) / 2
      · rw [if_pos d]
        refine ⟨fun x y h => ?_, fun x y h => ?_⟩
        · rw [says_t] at h
          have e : x = y := by omega
          rw [e]; exact .refl y
        · obtain ⟨s, hs, _⟩ := h; cases hs
      · rw [if_neg d]
        refine ⟨fun x y h => ?_, fun x y h => ?_⟩
        · rw [says_t] at h
          by_cases c1 : x < lo + (hi + n - lo) / 2
          · refine .of ⟨_, rfl, ?_⟩
            show says lo (lo + (hi + n - lo) - (hi + n - lo) / 2) ((hi + n - lo) / 2) true x y
            rw [says_t]; omega
          · by_cases c2 : x = y
            · rw [c2]; exact .refl y
            · refine .symm (.of ⟨_, rfl, ?_⟩)
              show says lo (lo + (hi + n - lo) - (hi + n - lo) / 2) ((hi + n - lo) / 2) true y x
              rw [says_t]; omega
        · obtain ⟨s, hs, h⟩ := h
          cases hs
          have h : says lo (lo + (hi + n - lo) - (hi + n - lo) / 2) ((hi + n - lo) / 2) true x y := h
          refine .of ?_
          rw [says_t] at *
          omega
    · simp only [if_neg c]
      by_cases d : n < 1 ∨ lo = hi
      · rw [if_pos d]
        refine ⟨fun x y h => ?_, fun x y h => ?_⟩
        · cases t with
          | true =>
            rw [says_t] at h
            have : ¬ hi < lo + n := fun z => c ⟨rfl, z⟩
            omega
          | false =>
            rw [says_f] at h
            have e : x = y := by omega
            rw [e]; exact .refl y
        · obtain ⟨s, hs, _⟩ := h; cases hs
      · rw [if_neg d]
        refine ⟨fun x y h => .of ⟨_, rfl, h⟩, fun x y h => ?_⟩
        obtain ⟨s, hs, h⟩ := h
        cases hs
        exact .of h
  exact ⟨fun x y h => (says_minmax h).bind key.1, fun x y h => (key.2 x y h).bind fun x y h => minmax_says h⟩
/-! two beats -/
/-- each two places of [a, b) that are t apart are alike -/
def Beat (E : Int → Int → Prop) (a b t : Int) : Prop := ∀ x, a ≤ x → x + t < b → E x (x + t)
theorem beat_sub {R : Int → Int → Prop} {a b t u : Int} (ht : 0 < t) (hu : t < u) (hl : t + u ≤ b - a) (h1 : Beat (Eqv R) a b t) (h2 : Beat (Eqv R) a b u) : Beat (Eqv R) a b (u - t) := by
  intro x hx hb
  by_cases c : x + u < b
  · have e1 := h2 x hx c
    have e2 := h1 (x + (u - t)) (by omega) (by omega)
    rw [show x + (u - t) + t = x + u by omega] at e2
    exact .trans e1 (.symm e2)
  · have e1 := h1 (x - t) (by omega) (by omega)
    rw [show x - t + t = x by omega] at e1
    have e2 := h2 (x - t) (by omega) (by omega)
    rw [show x - t + u = x + (u - t) by omega] at e2
    exact .trans (.symm e1) e2
theorem beat_gcd {R : Int → Int → Prop} {a b : Int} : ∀ (k : Nat) (t u : Nat), t + u ≤ k → 0 < t → 0 < u → (t : Int) + u ≤ b - a → Beat (Eqv R) a b t → Beat (Eqv R) a b u → Beat (Eqv R) a b (Nat.gcd t u : Nat)
  | 0, t, u, hk, ht, hu, _, _, _ => by omega
  | k + 1, t, u, hk, ht, hu, hl, h1, h2 => by
    rcases Nat.lt_trichotomy t u with c | c | c
    · have h3 : Beat (Eqv R) a b ((u - t : Nat) : Int) := by
        have := beat_sub (by omega) (by omega) hl h1 h2
        rw [show ((u - t : Nat) : Int) = (u : Int) - (t : Int) by omega]
        exact this
      have := beat_gcd k t (u - t) (by omega) ht (by omega) (by omega) h1 h3
      rw [Nat.gcd_sub_self_right (Nat.le_of_lt c)] at this
      exact this
    · subst c
      rw [Nat.gcd_self]
      exact h1
    · have h3 : Beat (Eqv R) a b ((t - u : Nat) : Int) := by
        have := beat_sub (R := R) (a := a) (b := b) (t := u) (u := t) (by omega) (by omega) (by omega) h2 h1
        rw [show ((t - u : Nat) : Int) = (t : Int) - (u : Int) by omega]
        exact this
      have := beat_gcd k (t - u) u (by omega) (by omega) hu (by omega) h3 h2
      rw [Nat.gcd_sub_self_left (Nat.le_of_lt c)] at this
      exact this
/-- a beat, many times -/
theorem beat_mul {R : Int → Int → Prop} {a b t : Int} (ht : 0 < t) (h : Beat (Eqv R) a b t) : ∀ (k : Nat) (x : Int), a ≤ x → x + (k : Int) * t < b → Eqv R x (x + (k : Int) * t)
  | 0, x, _, _ => by
    rw [show x + ((0 : Nat) : Int) * t = x by rw [Int.natCast_zero, Int.zero_mul]; omega]
    exact .refl x
  | k + 1, x, hx, hb => by
    have e : ((k + 1 : Nat) : Int) * t = (k : Int) * t + t := by rw [Int.natCast_add, Int.add_mul]; omega
    rw [e] at hb ⊢
    have hk : 0 ≤ (k : Int) * t := Int.mul_nonneg (by omega) (by omega)
    have h1 := beat_mul ht h k x hx (by omega)
    have h2 := h (x + (k : Int) * t) (by omega) (by omega)
    rw [show x + (k : Int) * t + t = x + ((k : Int) * t + t) by omega] at h2
    exact .trans h1 h2
/-- from a part to the whole: a beat t of the whole carries each place into the part -/
theorem into_part {R : Int → Int → Prop} {a b a' b' t : Int} (ht : 0 < t) (h : Beat (Eqv R) a b t) (h1 : a ≤ a') (h2 : b' ≤ b) (h3 : t ≤ b' - a') {x : Int} (hx : a ≤ x) (hb : x < b) :
    ∃ y, Eqv R x y ∧ a' ≤ y ∧ y < a' + t ∧ ∃ k : Int, y = x + k * t := by
  -- the place of [a', a' + t) that is a number of beats away
  have e := Int.emod_add_mul_ediv (x - a') t
  have m0 : 0 ≤ (x - a') % t := Int.emod_nonneg _ (by omega)
  have m1 : (x - a') % t < t := Int.emod_lt_of_pos _ ht
  generalize hr : (x - a') % t = r at *
  generalize hk : (x - a') / t = k at *
  have ey : a' + r = x + (-k) * t := by rw [Int.neg_mul, Int.mul_comm k t]; omega
  refine ⟨a' + r, ?_, by omega, by omega, -k, ey⟩
  rcases Int.le_total 0 k with c | c
  · obtain ⟨j, rfl⟩ : ∃ j : Nat, k = (j : Int) := ⟨k.toNat, by omega⟩
    have hx' : x = a' + r + (j : Int) * t := by rw [Int.mul_comm]; omega
    have := beat_mul ht h j (a' + r) (by omega) (by rw [← hx']; exact hb)
    rw [← hx'] at this
    exact .symm this
  · obtain ⟨j, rfl⟩ : ∃ j : Nat, k = -(j : Int) := ⟨(-k).toNat, by omega⟩
    have hx' : a' + r = x + (j : Int) * t := by rw [ey, Int.neg_neg]
    have := beat_mul ht h j x hx (by rw [← hx']; omega)
    rw [← hx'] at this
    exact this
theorem beat_spread {R : Int → Int → Prop} {a b a' b' t g : Int} (ht : 0 < t) (hg : 0 < g) (h : Beat (Eqv R) a b t) (h1 : a ≤ a') (h2 : b' ≤ b) (h3 : t + g ≤ b' - a') (hp : Beat (Eqv R) a' b' g) : Beat (Eqv R) a b g := by
  intro x hx hb
  obtain ⟨y, e1, l1, l2, k, ek⟩ := into_part ht h h1 h2 (by omega) hx (by omega)
  have e2 := hp y l1 (by omega)
  -- and x + g comes to y + g by as many beats
  have e3 : Eqv R (x + g) (y + g) := by
    have ey : y + g = x + g + k * t := by omega
    rcases Int.le_total 0 k with c | c
    · obtain ⟨j, rfl⟩ : ∃ j : Nat, k = (j : Int) := ⟨k.toNat, by omega⟩
      have := beat_mul ht h j (x + g) (by omega) (by rw [← ey]; omega)
      rw [← ey] at this
      exact this
    · obtain ⟨j, rfl⟩ : ∃ j : Nat, k = -(j : Int) := ⟨(-k).toNat, by omega⟩
      have ey' : x + g = y + g + (j : Int) * t := by rw [ey, Int.neg_mul]; omega
      have := beat_mul ht h j (y + g) (by omega) (by rw [← ey']; exact hb)
      rw [← ey'] at this
      exact .symm this
  exact .trans e1 (.trans e2 (.symm e3))
end Rep
namespace Rep
/-! two lists of sayings that say the same -/
structure EqR (R S : Int → Int → Prop) : Prop where
  to : ∀ x y, R x y → Eqv S x y
  back : ∀ x y, S x y → Eqv R x y
theorem EqR.refl (R : Int → Int → Prop) : EqR R R := ⟨fun _ _ h => .of h, fun _ _ h => .of h⟩
theorem EqR.symm {R S : Int → Int → Prop} (h : EqR R S) : EqR S R := ⟨h.back, h.to⟩
theorem EqR.trans {R S T : Int → Int → Prop} (h : EqR R S) (k : EqR S T) : EqR R T := ⟨fun x y r => (h.to x y r).bind k.to, fun x y r => (k.back x y r).bind h.back⟩
theorem EqR.iff {R S : Int → Int → Prop} (h : EqR R S) {x y : Int} : Eqv R x y ↔ Eqv S x y := ⟨fun e => e.bind h.to, fun e => e.bind h.back⟩
theorem EqR.of_iff {R S : Int → Int → Prop} (h : ∀ x y, R x y ↔ S x y) : EqR R S := ⟨fun x y r => .of ((h x y).mp r), fun x y r => .of ((h x y).mpr r)⟩
def orR (R S : Int → Int → Prop) (x y : Int) : Prop := R x y ∨ S x y
theorem EqR.orl {R S : Int → Int → Prop} (T : Int → Int → Prop) (h : EqR R S) : EqR (orR R T) (orR S T) :=
  ⟨fun x y r => r.elim (fun r => (h.to x y r).mono fun _ _ z => .inl z) fun r => .of (.inr r), fun x y r => r.elim (fun r => (h.back x y r).mono fun _ _ z => .inl z) fun r => .of (.inr r)⟩
theorem EqR.orr {R S : Int → Int → Prop} (T : Int → Int → Prop) (h : EqR R S) : EqR (orR T R) (orR T S) :=
  ⟨fun x y r => r.elim (fun r => .of (.inl r)) fun r => (h.to x y r).mono fun _ _ z => .inr z, fun x y r => r.elim (fun r => .of (.inl r)) fun r => (h.back x y r).mono fun _ _ z => .inr z⟩
/-- what is added follows -/
theorem EqR.more {R S T : Int → Int → Prop} (h : ∀ x y, S x y → Eqv (orR R T) x y) (k : ∀ x y, T x y → Eqv (orR R S) x y) : EqR (orR R S) (orR R T) :=
  ⟨fun x y r => r.elim (fun r => .of (.inl r)) fun r => h x y r, fun x y r => r.elim (fun r => .of (.inl r)) fun r => k x y r⟩
theorem relL_cons {s : Sy} {K : List Sy} {x y : Int} : relL (s :: K) x y ↔ orR (rel s) (relL K) x y := by
  unfold relL orR
  constructor
  · rintro ⟨u, hu, h⟩
    rcases List.mem_cons.mp hu with rfl | hu
    · exact .inl h
    · exact .inr ⟨u, hu, h⟩
  · rintro (h | ⟨u, hu, h⟩)
    · exact ⟨s, List.mem_cons_self, h⟩
    · exact ⟨u, List.mem_cons_of_mem _ hu, h⟩
theorem relL_append {K L : List Sy} {x y : Int} : relL (K ++ L) x y ↔ orR (relL K) (relL L) x y := by
  unfold relL orR
  constructor
  · rintro ⟨u, hu, h⟩
    rcases List.mem_append.mp hu with hu | hu
    · exact .inl ⟨u, hu, h⟩
    · exact .inr ⟨u, hu, h⟩
  · rintro (⟨u, hu, h⟩ | ⟨u, hu, h⟩)
    · exact ⟨u, List.mem_append_left _ hu, h⟩
    · exact ⟨u, List.mem_append_right _ hu, h⟩
theorem relL_mem {K L : List Sy} (h : ∀ s, s ∈ K ↔ s ∈ L) : EqR (relL K) (relL L) :=
  .of_iff fun x y => ⟨fun ⟨s, hs, r⟩ => ⟨s, (h s).mp hs, r⟩, fun ⟨s, hs, r⟩ => ⟨s, (h s).mpr hs, r⟩⟩
theorem relL_nil {x y : Int} : ¬ relL [] x y := fun ⟨_, h, _⟩ => by cases h
/-! joining -/
def lead (s : Sy) : Int := s.hi - s.lo
def gcdI (a b : Int) : Int := (Nat.gcd a.toNat b.toNat : Nat)
def shared (s o : Sy) : Int := min (s.hi + s.n) (o.hi + o.n) - max s.lo o.lo
def joinF (s o : Sy) : Sy := ⟨min s.lo o.lo, min s.lo o.lo + gcdI (lead s) (lead o), max (s.hi + s.n) (o.hi + o.n) - min s.lo o.lo - gcdI (lead s) (lead o), false⟩
theorem gcd_facts {a b : Int} (ha : 0 < a) (hb : 0 < b) : 0 < gcdI a b ∧ gcdI a b ≤ a ∧ gcdI a b ≤ b ∧ (∃ k : Nat, a = (k : Int) * gcdI a b) ∧ ∃ k : Nat, b = (k : Int) * gcdI a b := by
  unfold gcdI
  have h0 : 0 < Nat.gcd a.toNat b.toNat := Nat.gcd_pos_of_pos_left _ (by omega)
  have h1 : Nat.gcd a.toNat b.toNat ≤ a.toNat := Nat.gcd_le_left _ (by omega)
  have h2 : Nat.gcd a.toNat b.toNat ≤ b.toNat := Nat.gcd_le_right _ (by omega)
  obtain ⟨k, hk⟩ := Nat.gcd_dvd_left a.toNat b.toNat
  obtain ⟨j, hj⟩ := Nat.gcd_dvd_right a.toNat b.toNat
  refine ⟨by omega, by omega, by omega, ⟨k, ?_⟩, ⟨j, ?_⟩⟩
  · have e := congrArg (fun n : Nat => (n : Int)) hk
    simp only [Int.natCast_mul] at e
    rw [Int.mul_comm]
    omega
  · have e := congrArg (fun n : Nat => (n : Int)) hj
    simp only [Int.natCast_mul] at e
    rw [Int.mul_comm]
    omega
theorem rel_straight {s : Sy} (h : s.t = false) {x y : Int} : rel s x y ↔ s.lo ≤ x ∧ x < s.lo + s.n ∧ y = x + lead s := by
  unfold rel
  rw [h, says_f]
  unfold lead
  constructor
  · intro z; omega
  · intro z; omega
theorem rel_beat {s : Sy} (h : s.t = false) {R : Int → Int → Prop} (hr : ∀ x y, rel s x y → Eqv R x y) : Beat (Eqv R) s.lo (s.hi + s.n) (lead s) := by
  intro x hx hb
  refine hr _ _ ((rel_straight h).mpr ⟨hx, ?_, rfl⟩)
  unfold lead at hb
  omega
theorem join_ok {e : Int} {s o : Sy} (hs : Ok e s) (ho : Ok e o) (hsh : lead s + lead o ≤ shared s o) : Ok e (joinF s o) := by
  have l1 : 0 < lead s := by have := hs.lt; unfold lead; omega
  have l2 : 0 < lead o := by have := ho.lt; unfold lead; omega
  obtain ⟨g0, g1, g2, _, _⟩ := gcd_facts l1 l2
  have a1 := hs.lo0
  have a2 := ho.lo0
  have a3 := hs.le
  have a4 := ho.le
  unfold shared at hsh
  unfold joinF
  generalize gcdI (lead s) (lead o) = g at *
  refine ⟨?_, ?_, ?_, ?_, fun h => (by cases h)⟩
  · show 0 ≤ min s.lo o.lo; omega
  · show min s.lo o.lo < min s.lo o.lo + g; omega
  · show 1 ≤ max (s.hi + s.n) (o.hi + o.n) - min s.lo o.lo - g; omega
  · show min s.lo o.lo + g + (max (s.hi + s.n) (o.hi + o.n) - min s.lo o.lo - g) ≤ e; omega
theorem join_eq {e : Int} {s o : Sy} (hs : Ok e s) (ho : Ok e o) (ts : s.t = false) (to : o.t = false) (hsh : lead s + lead o ≤ shared s o) : EqR (orR (rel s) (rel o)) (rel (joinF s o)) := by
  have l1 : 0 < lead s := by have := hs.lt; unfold lead; omega
  have l2 : 0 < lead o := by have := ho.lt; unfold lead; omega
  obtain ⟨g0, g1, g2, ⟨k1, e1⟩, ⟨k2, e2⟩⟩ := gcd_facts l1 l2
  have jl : lead (joinF s o) = gcdI (lead s) (lead o) := by unfold lead joinF; show min s.lo o.lo + _ - min s.lo o.lo = _; unfold lead; omega
  have je : (joinF s o).hi + (joinF s o).n = max (s.hi + s.n) (o.hi + o.n) := by
    show min s.lo o.lo + gcdI (lead s) (lead o) + (max (s.hi + s.n) (o.hi + o.n) - min s.lo o.lo - gcdI (lead s) (lead o)) = _
    omega
  have jb := rel_beat (s := joinF s o) rfl (R := rel (joinF s o)) fun x y h => .of h
  rw [jl, je] at jb
  have jb : Beat (Eqv (rel (joinF s o))) (min s.lo o.lo) (max (s.hi + s.n) (o.hi + o.n)) (gcdI (lead s) (lead o)) := jb
  have sb := rel_beat ts (R := orR (rel s) (rel o)) fun x y h => .of (.inl h)
  have ob := rel_beat to (R := orR (rel s) (rel o)) fun x y h => .of (.inr h)
  have d1 := hs.n1
  have d2 := ho.n1
  refine ⟨fun x y h => ?_, fun x y h => ?_⟩
  · rcases h with h | h
    · have h := (rel_straight ts).mp h
      have := beat_mul g0 jb k1 x (by omega) (by rw [← e1]; unfold lead; omega)
      rw [← e1, ← h.2.2] at this
      exact this
    · have h := (rel_straight to).mp h
      have := beat_mul g0 jb k2 x (by omega) (by rw [← e2]; unfold lead; omega)
      rw [← e2, ← h.2.2] at this
      exact this
  · have h := (rel_straight (s := joinF s o) rfl).mp h
    rw [jl] at h
    have hx : min s.lo o.lo ≤ x := h.1
    have hb : x + gcdI (lead s) (lead o) < max (s.hi + s.n) (o.hi + o.n) := by
      have := h.2.1
      have h2 : x < min s.lo o.lo + (max (s.hi + s.n) (o.hi + o.n) - min s.lo o.lo - gcdI (lead s) (lead o)) := this
      omega
    -- the beat within what both have
    have ib : Beat (Eqv (orR (rel s) (rel o))) (max s.lo o.lo) (min (s.hi + s.n) (o.hi + o.n)) (gcdI (lead s) (lead o)) := by
      have b1 : Beat (Eqv (orR (rel s) (rel o))) (max s.lo o.lo) (min (s.hi + s.n) (o.hi + o.n)) ((lead s).toNat : Int) := fun z h1 h2 => by
        rw [show ((lead s).toNat : Int) = lead s by omega] at h2 ⊢
        exact sb z (by omega) (by omega)
      have b2 : Beat (Eqv (orR (rel s) (rel o))) (max s.lo o.lo) (min (s.hi + s.n) (o.hi + o.n)) ((lead o).toNat : Int) := fun z h1 h2 => by
        rw [show ((lead o).toNat : Int) = lead o by omega] at h2 ⊢
        exact ob z (by omega) (by omega)
      unfold shared at hsh
      exact beat_gcd _ (lead s).toNat (lead o).toNat (Nat.le_refl _) (by omega) (by omega) (by omega) b1 b2
    unfold shared at hsh
    rw [h.2.2]
    generalize gcdI (lead s) (lead o) = g at *
    by_cases c : s.lo ≤ x ∧ x + g < s.hi + s.n
    · exact beat_spread l1 g0 sb (by omega) (by omega) (by omega) ib x c.1 c.2
    · exact beat_spread l2 g0 ob (by omega) (by omega) (by omega) ib x (by omega) (by omega)
/-! taking in -/
def fits (s o : Sy) : Bool := !o.t && decide (lead s + lead o ≤ shared s o)
def partnerF (K : List Sy) (s : Sy) : Option Nat := if s.t = true then none else K.findIdx? (fits s)
theorem partner_some {K : List Sy} {s : Sy} {k : Nat} (h : partnerF K s = some k) : s.t = false ∧ ∃ o, K[k]? = some o ∧ o.t = false ∧ lead s + lead o ≤ shared s o := by
  unfold partnerF at h
  by_cases c : s.t = true
  · rw [if_pos c] at h; cases h
  · rw [if_neg c] at h
    obtain ⟨hk, hf, _⟩ := List.findIdx?_eq_some_iff_getElem.mp h
    unfold fits at hf
    rw [Bool.and_eq_true] at hf
    refine ⟨by cases e : s.t with | false => rfl | true => exact absurd e c, K[k], List.getElem?_eq_getElem hk, ?_, of_decide_eq_true hf.2⟩
    have := hf.1
    cases e : K[k].t with
    | false => rfl
    | true => rw [e] at this; cases this
def takenF : Nat → List Sy → List Sy → List Sy
  | 0, out, _ => out
  | _ + 1, out, [] => out
  | f + 1, out, s :: w => match partnerF out s with
    | none => takenF f (out ++ [s]) w
    | some k => match out[k]? with
      | none => out
      | some o => takenF f (out.eraseIdx k) (joinF o s :: w)
theorem shared_comm (s o : Sy) : shared s o = shared o s := by
  unfold shared
  rw [Int.min_comm, Int.max_comm]
theorem mem_erase {α : Type} {l : List α} {k : Nat} {o : α} (h : l[k]? = some o) (x : α) : x ∈ l ↔ x = o ∨ x ∈ l.eraseIdx k := by
  obtain ⟨hk, e⟩ := List.getElem?_eq_some_iff.mp h
  rw [List.eraseIdx_eq_take_drop_succ]
  conv => lhs; rw [← List.take_append_drop k l, List.drop_eq_getElem_cons hk, e]
  rw [List.mem_append, List.mem_append, List.mem_cons]
  constructor
  · rintro (h | h | h)
    · exact .inr (.inl h)
    · exact .inl h
    · exact .inr (.inr h)
  · rintro (h | h | h)
    · exact .inr (.inl h)
    · exact .inl h
    · exact .inr (.inr h)
theorem taken_ok {e : Int} : ∀ (f : Nat) (out w : List Sy), 2 * w.length + out.length ≤ f → (∀ s ∈ out, Ok e s) → (∀ s ∈ w, Ok e s) →
    (∀ s ∈ takenF f out w, Ok e s) ∧ EqR (relL (takenF f out w)) (orR (relL out) (relL w)) ∧ (takenF f out w).length ≤ out.length + w.length
  | 0, out, w, hf, ho, hw => by
    have e0 : w = [] := List.length_eq_zero_iff.mp (by omega)
    subst e0
    refine ⟨ho, .of_iff fun x y => ⟨.inl, fun h => h.elim id fun h => absurd h relL_nil⟩, by show out.length ≤ _; omega⟩
  | f + 1, out, [], hf, ho, hw => ⟨ho, .of_iff fun x y => ⟨.inl, fun h => h.elim id fun h => absurd h relL_nil⟩, by show out.length ≤ _; omega⟩
  | f + 1, out, s :: w, hf, ho, hw => by
    have hs := hw s List.mem_cons_self
    have hw' : ∀ u ∈ w, Ok e u := fun u hu => hw u (List.mem_cons_of_mem _ hu)
    rw [List.length_cons] at hf
    show (∀ u ∈ (match partnerF out s with | none => takenF f (out ++ [s]) w | some k => match out[k]? with | none => out | some o => takenF f (out.eraseIdx k) (joinF o s :: w)), Ok e u) ∧ EqR (relL (match partnerF out s with | none => takenF f (out ++ [s]) w | some k => match out[k]? with | none => out | some o => takenF f (out.eraseIdx k) (joinF o s :: w))) _ ∧ (match partnerF out s with | none => takenF f (out ++ [s]) w | some k => match out[k]? with | none => out | some o => takenF f (out.eraseIdx k) (joinF o s :: w)).length ≤ _
    cases hp : partnerF out s with
    | none =>
      obtain ⟨a, b, c⟩ := taken_ok f (out ++ [s]) w (by rw [List.length_append, List.length_singleton]; omega) (fun u hu => by
        rcases List.mem_append.mp hu with hu | hu
        · exact ho u hu
        · rw [List.mem_singleton.mp hu]; exact hs) hw'
      refine ⟨a, b.trans (.of_iff fun x y => ?_), ?_⟩
      · unfold orR
        rw [relL_append, relL_cons]
        unfold orR
        rw [relL_cons]
        unfold orR
        constructor
        · rintro ((h | h | h) | h)
          · exact .inl h
          · exact .inr (.inl h)
          · exact absurd h relL_nil
          · exact .inr (.inr h)
        · rintro (h | h | h)
          · exact .inl (.inl h)
          · exact .inl (.inr (.inl h))
          · exact .inr h
      · rw [List.length_append, List.length_singleton] at c
        rw [List.length_cons]
        simp only
        omega
    | some k =>
      obtain ⟨ts, o, hk, to, hsh⟩ := partner_some hp
      have hoo := ho o (List.mem_of_getElem? hk)
      have hsh' : lead o + lead s ≤ shared o s := by rw [shared_comm]; omega
      have hkl : k < out.length := (List.getElem?_eq_some_iff.mp hk).1
      have hlen : (out.eraseIdx k).length = out.length - 1 := by rw [List.length_eraseIdx, if_pos hkl]
      simp only [hk]
      obtain ⟨a, b, c⟩ := taken_ok f (out.eraseIdx k) (joinF o s :: w) (by rw [List.length_cons, hlen]; omega) (fun u hu => ho u ((mem_erase hk u).mpr (.inr hu))) (fun u hu => by
        rcases List.mem_cons.mp hu with rfl | hu
        · exact join_ok hoo hs hsh'
        · exact hw' u hu)
      refine ⟨a, b.trans ?_, ?_⟩
      · have j := (join_eq hoo hs to ts hsh').symm
        have e1 : EqR (orR (relL (out.eraseIdx k)) (relL (joinF o s :: w))) (orR (rel (joinF o s)) (orR (relL (out.eraseIdx k)) (relL w))) := .of_iff fun x y => by
          unfold orR; rw [relL_cons]; unfold orR
          constructor
          · rintro (h | h | h)
            · exact .inr (.inl h)
            · exact .inl h
            · exact .inr (.inr h)
          · rintro (h | h | h)
            · exact .inr (.inl h)
            · exact .inl h
            · exact .inr (.inr h)
        refine e1.trans ((j.orl _).trans (.of_iff fun x y => ?_))
        unfold orR
        rw [relL_cons]
        unfold orR
        have em : relL out x y ↔ rel o x y ∨ relL (out.eraseIdx k) x y := by
          unfold relL
          constructor
          · rintro ⟨u, hu, h⟩
            rcases (mem_erase hk u).mp hu with rfl | hu
            · exact .inl h
            · exact .inr ⟨u, hu, h⟩
          · rintro (h | ⟨u, hu, h⟩)
            · exact ⟨o, (mem_erase hk o).mpr (.inl rfl), h⟩
            · exact ⟨u, (mem_erase hk u).mpr (.inr hu), h⟩
        rw [em]
        constructor
        · rintro ((h | h) | h | h)
          · exact .inl (.inl h)
          · exact .inr (.inl h)
          · exact .inl (.inr h)
          · exact .inr (.inr h)
        · rintro ((h | h) | h | h)
          · exact .inl (.inl h)
          · exact .inr (.inl h)
          · exact .inl (.inr h)
          · exact .inr (.inr h)
      · rw [List.length_cons, hlen] at c
        rw [List.length_cons]
        omega
end Rep
namespace Rep
/-! carrying by the leader -/
/-- the places of (st, n) are, by R, those of (st', n), the one way round or the other -/
def Mv (R : Int → Int → Prop) (st st' n : Int) (f : Bool) : Prop := ∀ i, 0 ≤ i → i < n → Eqv R (st + i) (if f = true then st' + n - 1 - i else st' + i)
theorem Mv.id (R : Int → Int → Prop) (st n : Int) : Mv R st st n false := fun i _ _ => by
  rw [if_neg (by decide)]; exact .refl _
theorem carry_eq {R : Int → Int → Prop} {a a' b b' n : Int} {t f g : Bool} (ha : Mv R a a' n f) (hb : Mv R b b' n g) : EqR (orR R (says a b n t)) (orR R (says a' b' n ((t ^^ f) ^^ g))) := by
  refine .more (fun x y h => ?_) (fun x y h => ?_)
  · -- x = a + i
    obtain ⟨i, hi0, hi1, rfl⟩ : ∃ i, 0 ≤ i ∧ i < n ∧ x = a + i := ⟨x - a, by have := h.1; omega, by have := h.2.1; omega, by omega⟩
    have hy : y = b + (if t = true then n - 1 - i else i) := by
      cases t with
      | true => rw [says_t] at h; rw [if_pos rfl]; omega
      | false => rw [says_f] at h; rw [if_neg (by decide)]; omega
    have e1 := (ha i hi0 hi1).mono (S := orR R (says a' b' n ((t ^^ f) ^^ g))) fun _ _ z => .inl z
    have e2 : Eqv (orR R (says a' b' n ((t ^^ f) ^^ g))) y (if g = true then b' + n - 1 - (if t = true then n - 1 - i else i) else b' + (if t = true then n - 1 - i else i)) := by
      rw [hy]
      refine (hb _ ?_ ?_).mono fun _ _ z => .inl z
      · split <;> omega
      · split <;> omega
    refine .trans e1 (.trans (.of (.inr ?_)) (.symm e2))
    cases t <;> cases f <;> cases g <;> simp only [Bool.true_xor, Bool.false_xor, Bool.not_true, Bool.not_false, if_true, if_false, Bool.false_eq_true] <;> first | (rw [says_t]; omega) | (rw [says_f]; omega)
  · obtain ⟨j, hj0, hj1, rfl⟩ : ∃ j, 0 ≤ j ∧ j < n ∧ x = a' + j := ⟨x - a', by have := h.1; omega, by have := h.2.1; omega, by omega⟩
    -- the place of the stretch that was carried there
    have hi : ∃ i, 0 ≤ i ∧ i < n ∧ (if f = true then a' + n - 1 - i else a' + i) = a' + j ∧ (if g = true then b' + n - 1 - (if t = true then n - 1 - i else i) else b' + (if t = true then n - 1 - i else i)) = y := by
      cases f with
      | true =>
        refine ⟨n - 1 - j, by omega, by omega, by rw [if_pos rfl]; omega, ?_⟩
        cases t <;> cases g <;> simp only [Bool.true_xor, Bool.false_xor, Bool.not_true, Bool.not_false, if_true, if_false, Bool.false_eq_true] at h ⊢ <;> first | (rw [says_t] at h; omega) | (rw [says_f] at h; omega)
      | false =>
        refine ⟨j, hj0, hj1, by rw [if_neg (by decide)], ?_⟩
        cases t <;> cases g <;> simp only [Bool.true_xor, Bool.false_xor, Bool.not_true, Bool.not_false, if_true, if_false, Bool.false_eq_true] at h ⊢ <;> first | (rw [says_t] at h; omega) | (rw [says_f] at h; omega)
    obtain ⟨i, h0, h1, ex, ey⟩ := hi
    have e1 := (ha i h0 h1).mono (S := orR R (says a b n t)) fun _ _ z => .inl z
    have e2 : Eqv (orR R (says a b n t)) (b + (if t = true then n - 1 - i else i)) y := by
      rw [← ey]
      refine (hb _ ?_ ?_).mono fun _ _ z => .inl z
      · split <;> omega
      · split <;> omega
    rw [ex] at e1
    refine .trans (.symm e1) (.trans (.of (.inr ?_)) e2)
    cases t with
    | true => rw [says_t, if_pos rfl]; omega
    | false => rw [says_f, if_neg (by decide)]; omega
/-- where a stretch within the leader's high one starts when it is carried -/
def cstart (l : Sy) (st n : Int) : Int := if l.t = true then l.lo + l.hi + l.n - st - n else st - ((st - l.hi) / (l.hi - l.lo) + 1) * (l.hi - l.lo)
theorem mul_le_of {q d x : Int} (hd : 0 < d) : q * d ≤ x ↔ q ≤ x / d := (Int.le_ediv_iff_mul_le hd).symm
theorem div_bounds {x d : Int} (hd : 0 < d) : x / d * d ≤ x ∧ x < (x / d + 1) * d := by
  have h1 := Int.emod_nonneg x (show d ≠ 0 by omega)
  have h2 := Int.emod_lt_of_pos x hd
  have h3 := Int.emod_add_mul_ediv x d
  rw [Int.mul_comm] at h3
  rw [Int.add_mul]
  omega
theorem cstart_mv {e : Int} {l : Sy} (hl : Ok e l) (he : l.hi + l.n = e) {st n : Int} (h1 : l.hi ≤ st) (h2 : st + n ≤ e) (hn : 1 ≤ n) :
    Mv (rel l) st (cstart l st n) n l.t ∧ 0 ≤ cstart l st n ∧ cstart l st n < st := by
  have hlt := hl.lt
  have h0 := hl.lo0
  unfold cstart
  by_cases c : l.t = true
  · rw [if_pos c]
    have hov := hl.ov c
    refine ⟨fun i hi0 hi1 => ?_, by omega, by omega⟩
    rw [if_pos c]
    refine .symm (.of ?_)
    unfold rel
    rw [c, says_t]
    omega
  · rw [if_neg c]
    have c' : l.t = false := by cases e : l.t with | false => rfl | true => exact absurd e c
    have hd : 0 < l.hi - l.lo := by omega
    obtain ⟨b1, b2⟩ := div_bounds (x := st - l.hi) hd
    have hq : 0 ≤ (st - l.hi) / (l.hi - l.lo) := Int.ediv_nonneg (by omega) (by omega)
    have hB := rel_beat c' (R := rel l) fun x y h => .of h
    rw [he] at hB
    have eL : lead l = l.hi - l.lo := rfl
    obtain ⟨k, hk⟩ : ∃ k : Nat, (st - l.hi) / (l.hi - l.lo) + 1 = (k : Int) := ⟨((st - l.hi) / (l.hi - l.lo) + 1).toNat, by omega⟩
    rw [hk] at b2 ⊢
    have b3 : (k : Int) * (l.hi - l.lo) ≤ st - l.hi + (l.hi - l.lo) := by
      rw [← hk, Int.add_mul]
      omega
    have b4 : l.hi - l.lo ≤ (k : Int) * (l.hi - l.lo) := by
      rw [← hk, Int.add_mul]
      have := Int.mul_nonneg hq (show 0 ≤ l.hi - l.lo by omega)
      omega
    refine ⟨fun i hi0 hi1 => ?_, by omega, by omega⟩
    rw [if_neg c]
    have := beat_mul (R := rel l) (t := lead l) hd hB k (st - (k : Int) * (l.hi - l.lo) + i) (by omega) (by rw [eL]; omega)
    rw [eL, show st - (k : Int) * (l.hi - l.lo) + i + (k : Int) * (l.hi - l.lo) = st + i by omega] at this
    exact .symm this
/-- a saying, each of its stretches carried that lies within the leader's high one: not yet as it is kept -/
def carryF (l s : Sy) : Int × Int × Int × Bool :=
  (if l.hi ≤ s.lo then cstart l s.lo s.n else s.lo, if l.hi ≤ s.hi then cstart l s.hi s.n else s.hi, s.n, (s.t ^^ (decide (l.hi ≤ s.lo) && l.t)) ^^ (decide (l.hi ≤ s.hi) && l.t))
def saysQ (q : Int × Int × Int × Bool) (x y : Int) : Prop := says q.1 q.2.1 q.2.2.1 q.2.2.2 x y
theorem carryF_ok {e : Int} {l s : Sy} (hl : Ok e l) (he : l.hi + l.n = e) (hs : Ok e s) (hh : l.hi ≤ s.hi) :
    EqR (orR (rel l) (rel s)) (orR (rel l) (saysQ (carryF l s))) ∧ 0 ≤ (carryF l s).1 ∧ 0 ≤ (carryF l s).2.1 ∧ (carryF l s).1 + s.n < e ∧ (carryF l s).2.1 + s.n < e := by
  have a1 := hs.lo0
  have a2 := hs.lt
  have a3 := hs.n1
  have a4 := hs.le
  obtain ⟨m2, c2, d2⟩ := cstart_mv hl he hh a4 a3
  have eh : (if l.hi ≤ s.hi then cstart l s.hi s.n else s.hi) = cstart l s.hi s.n := if_pos hh
  have fh : (decide (l.hi ≤ s.hi) && l.t) = l.t := by rw [decide_eq_true hh]; rfl
  unfold carryF saysQ
  simp only [eh, fh]
  by_cases c : l.hi ≤ s.lo
  · obtain ⟨m1, c1, d1⟩ := cstart_mv hl he c (show s.lo + s.n ≤ e by omega) a3
    rw [if_pos c, decide_eq_true c]
    simp only [Bool.true_and]
    exact ⟨carry_eq m1 m2, c1, c2, by omega, by omega⟩
  · rw [if_neg c, decide_eq_false c]
    simp only [Bool.false_and]
    exact ⟨carry_eq (Mv.id _ _ _) m2, a1, c2, by omega, by omega⟩
/-! the cut -/
structure Ct where
  lo : Int
  be : Int
  by_ : Int
  t : Bool
def led (c : Ct) (x : Int) : Int := if c.t = true then c.by_ - x else x - ((x - c.lo) / c.by_ + 1) * c.by_
def link (c : Ct) (x y : Int) : Prop := 0 < c.by_ ∧ c.lo ≤ x ∧ x < c.be ∧ y = led c x
def shortF (l : Sy) (e' : Int) : Int × Int × Int × Bool := if l.t = true then (l.lo + (l.hi + l.n - e'), l.hi, l.n - (l.hi + l.n - e'), true) else (l.lo, l.hi, l.n - (l.hi + l.n - e'), false)
def cutF (l : Sy) (e' : Int) : Ct := ⟨e', l.hi + l.n, if l.t = true then l.lo + l.hi + l.n - 1 else l.hi - l.lo, l.t⟩
theorem cut_by_pos {e : Int} {l : Sy} (hl : Ok e l) (e' : Int) : 0 < (cutF l e').by_ := by
  have := hl.lt
  have := hl.lo0
  have := hl.n1
  unfold cutF
  show 0 < if l.t = true then _ else _
  split <;> omega
theorem cut_led {e e' : Int} {l : Sy} (hl : Ok e l) (h1 : l.hi ≤ e') {x : Int} (hx : e' ≤ x) (hb : x < l.hi + l.n) : 0 ≤ led (cutF l e') x ∧ led (cutF l e') x < e' ∧ Eqv (rel l) x (led (cutF l e') x) := by
  have hlt := hl.lt
  have h0 := hl.lo0
  unfold led cutF
  by_cases c : l.t = true
  · simp only [if_pos c]
    have hov := hl.ov c
    refine ⟨by omega, by omega, .symm (.of ?_)⟩
    unfold rel
    rw [c, says_t]
    omega
  · simp only [if_neg c]
    have c' : l.t = false := by cases e : l.t with | false => rfl | true => exact absurd e c
    have hd : 0 < l.hi - l.lo := by omega
    obtain ⟨b1, b2⟩ := div_bounds (x := x - e') hd
    have hq : 0 ≤ (x - e') / (l.hi - l.lo) := Int.ediv_nonneg (by omega) (by omega)
    have hB := rel_beat c' (R := rel l) fun x y h => .of h
    have eL : lead l = l.hi - l.lo := rfl
    obtain ⟨k, hk⟩ : ∃ k : Nat, (x - e') / (l.hi - l.lo) + 1 = (k : Int) := ⟨((x - e') / (l.hi - l.lo) + 1).toNat, by omega⟩
    rw [hk] at b2 ⊢
    have b3 : (k : Int) * (l.hi - l.lo) ≤ x - e' + (l.hi - l.lo) := by
      rw [← hk, Int.add_mul]
      omega
    refine ⟨by omega, by omega, ?_⟩
    have := beat_mul (R := rel l) (t := lead l) hd hB k (x - (k : Int) * (l.hi - l.lo)) (by omega) (by rw [eL]; omega)
    rw [eL, show x - (k : Int) * (l.hi - l.lo) + (k : Int) * (l.hi - l.lo) = x by omega] at this
    exact .symm this
theorem cut_eq {e e' : Int} {l : Sy} (hl : Ok e l) (h1 : l.hi ≤ e') (h2 : e' ≤ l.hi + l.n) : EqR (rel l) (orR (saysQ (shortF l e')) (link (cutF l e'))) := by
  have hlt := hl.lt
  have h0 := hl.lo0
  refine ⟨fun x y h => ?_, fun x y h => ?_⟩
  · by_cases c : l.t = true
    · have hs : saysQ (shortF l e') = says (l.lo + (l.hi + l.n - e')) l.hi (l.n - (l.hi + l.n - e')) true := by unfold saysQ shortF; rw [if_pos c]
      have hov := hl.ov c
      unfold rel at h
      rw [c, says_t] at h
      by_cases d : y < e'
      · refine .of (.inl ?_)
        rw [hs, says_t]
        omega
      · refine .symm (.of (.inr ⟨cut_by_pos hl e', ?_, ?_, ?_⟩))
        · show e' ≤ y; omega
        · show y < l.hi + l.n; omega
        · unfold led cutF
          simp only [if_pos c]
          omega
    · have c' : l.t = false := by cases e : l.t with | false => rfl | true => exact absurd e c
      have hs : saysQ (shortF l e') = says l.lo l.hi (l.n - (l.hi + l.n - e')) false := by unfold saysQ shortF; rw [if_neg c]
      have h := (rel_straight c').mp h
      have eL : lead l = l.hi - l.lo := rfl
      rw [eL] at h
      have hd : 0 < l.hi - l.lo := by omega
      by_cases d : y < e'
      · refine .of (.inl ?_)
        rw [hs, says_f]
        omega
      · have hy : Eqv (orR (saysQ (shortF l e')) (link (cutF l e'))) y (led (cutF l e') y) := .of (.inr ⟨cut_by_pos hl e', by show e' ≤ y; omega, by show y < l.hi + l.n; omega, rfl⟩)
        have ly : led (cutF l e') y = y - ((y - e') / (l.hi - l.lo) + 1) * (l.hi - l.lo) := by
          unfold led cutF; simp only [if_neg c]
        by_cases g : x < e'
        · have e0 : (y - e') / (l.hi - l.lo) = 0 := Int.ediv_eq_zero_of_lt (by omega) (by omega)
          rw [ly, e0] at hy
          rw [show y - (0 + 1) * (l.hi - l.lo) = x by omega] at hy
          exact .symm hy
        · have hx : Eqv (orR (saysQ (shortF l e')) (link (cutF l e'))) x (led (cutF l e') x) := .of (.inr ⟨cut_by_pos hl e', by show e' ≤ x; omega, by show x < l.hi + l.n; omega, rfl⟩)
          have lx : led (cutF l e') x = x - ((x - e') / (l.hi - l.lo) + 1) * (l.hi - l.lo) := by
            unfold led cutF; simp only [if_neg c]
          have e0 : (y - e') / (l.hi - l.lo) = (x - e') / (l.hi - l.lo) + 1 := by
            have : y - e' = (x - e') + (l.hi - l.lo) := by omega
            rw [this, Int.add_ediv_of_dvd_right (Int.dvd_refl _), Int.ediv_self (by omega)]
          have ee : led (cutF l e') y = led (cutF l e') x := by
            rw [ly, lx, e0, Int.add_mul, Int.add_mul]
            omega
          rw [ee] at hy
          exact .trans hx (.symm hy)
  · rcases h with h | h
    · by_cases c : l.t = true
      · have hs : saysQ (shortF l e') = says (l.lo + (l.hi + l.n - e')) l.hi (l.n - (l.hi + l.n - e')) true := by unfold saysQ shortF; rw [if_pos c]
        rw [hs, says_t] at h
        refine .of ?_
        unfold rel
        rw [c, says_t]
        omega
      · have c' : l.t = false := by cases e : l.t with | false => rfl | true => exact absurd e c
        have hs : saysQ (shortF l e') = says l.lo l.hi (l.n - (l.hi + l.n - e')) false := by unfold saysQ shortF; rw [if_neg c]
        rw [hs, says_f] at h
        refine .of ?_
        unfold rel
        rw [c', says_f]
        omega
    · obtain ⟨_, hx, hb, rfl⟩ := h
      exact (cut_led hl h1 hx hb).2.2
/-! following -/
def fOf : List Ct → Int → Int
  | [], x => x
  | c :: r, x => if c.lo ≤ x then (if 0 < c.by_ then fOf r (led c x) else x) else fOf r x
/-- what the cuts of a song below e are to the sayings that are left: told from the song's end -/
inductive Stg : Int → List Sy → List Ct → Prop
  | nil {K : List Sy} : (∀ s ∈ K, Ok 0 s) → Stg 0 K []
  | free {e e' : Int} {K : List Sy} {C : List Ct} : 0 ≤ e' → e' < e → (∀ s ∈ K, Ok e' s) → Stg e' K C → Stg e K (⟨e', e, 0, false⟩ :: C)
  | led {e e' : Int} {K K' : List Sy} {c : Ct} {C : List Ct} : 0 ≤ e' → e' < e → (∀ s ∈ K, Ok e s) → (∀ s ∈ K', Ok e' s) → c.lo = e' → c.be = e → 0 < c.by_ → (∀ x, e' ≤ x → x < e → 0 ≤ led c x ∧ led c x < e') →
      EqR (relL K) (orR (relL K') (link c)) → Stg e' K' C → Stg e K (c :: C)
theorem Ok.both {e : Int} {s : Sy} (h : Ok e s) {x y : Int} (r : rel s x y) : (0 ≤ x ∧ x < e) ∧ 0 ≤ y ∧ y < e := by
  have a1 := h.lo0
  have a2 := h.lt
  have a4 := h.le
  unfold rel at r
  cases c : s.t with
  | true => rw [c, says_t] at r; omega
  | false => rw [c, says_f] at r; omega
theorem fOf_ok {e : Int} {K : List Sy} {C : List Ct} (h : Stg e K C) :
    (∀ x, 0 ≤ x → x < e → 0 ≤ fOf C x ∧ fOf C x ≤ x ∧ Eqv (relL K) x (fOf C x)) ∧ ∀ x y, Eqv (relL K) x y → (x = y ∨ (0 ≤ x ∧ x < e ∧ 0 ≤ y ∧ y < e ∧ fOf C x = fOf C y)) := by
  -- a relation within [0, e) that f keeps is kept along any number of steps
  have along : ∀ {R : Int → Int → Prop} {e : Int} {F : Int → Int}, (∀ x y, R x y → 0 ≤ x ∧ x < e ∧ 0 ≤ y ∧ y < e ∧ F x = F y) → ∀ x y, Eqv R x y → (x = y ∨ (0 ≤ x ∧ x < e ∧ 0 ≤ y ∧ y < e ∧ F x = F y)) := by
    intro R e F hR x y h
    induction h with
    | refl x => exact .inl rfl
    | of r => exact .inr (hR _ _ r)
    | symm _ ih =>
      rcases ih with e | ⟨a, b, c, d, e⟩
      · exact .inl e.symm
      · exact .inr ⟨c, d, a, b, e.symm⟩
    | trans _ _ i1 i2 =>
      rcases i1 with e1 | ⟨a, b, c, d, e1⟩
      · rw [e1]; exact i2
      · rcases i2 with e2 | ⟨_, _, c', d', e2⟩
        · rw [← e2]; exact .inr ⟨a, b, c, d, e1⟩
        · exact .inr ⟨a, b, c', d', e1.trans e2⟩
  induction h with
  | nil hK =>
    refine ⟨fun x h0 h1 => by omega, along fun x y ⟨s, hs, r⟩ => ?_⟩
    have := (hK s hs).both r
    omega
  | @free e e' K C h0 h1 hK _ ih =>
    obtain ⟨i1, i2⟩ := ih
    have f1 : ∀ x, e' ≤ x → fOf (⟨e', e, 0, false⟩ :: C) x = x := fun x hx => by
      show (if e' ≤ x then (if (0 : Int) < 0 then _ else x) else _) = x
      rw [if_pos hx, if_neg (by decide)]
    have f2 : ∀ x, x < e' → fOf (⟨e', e, 0, false⟩ :: C) x = fOf C x := fun x hx => by
      show (if e' ≤ x then _ else fOf C x) = _
      rw [if_neg (by omega)]
    refine ⟨fun x hx hb => ?_, along fun x y ⟨s, hs, r⟩ => ?_⟩
    · by_cases c : e' ≤ x
      · rw [f1 x c]; exact ⟨hx, Int.le_refl _, .refl x⟩
      · rw [f2 x (by omega)]; exact i1 x hx (by omega)
    · have hb := (hK s hs).both r
      refine ⟨hb.1.1, by omega, hb.2.1, by omega, ?_⟩
      rw [f2 x (by omega), f2 y (by omega)]
      rcases i2 x y (.of ⟨s, hs, r⟩) with e | e
      · rw [e]
      · exact e.2.2.2.2
  | @led e e' K K' c C h0 h1 hK hK' hlo hbe hby hled heq _ ih =>
    obtain ⟨i1, i2⟩ := ih
    have f1 : ∀ x, e' ≤ x → fOf (c :: C) x = fOf C (led c x) := fun x hx => by
      show (if c.lo ≤ x then (if 0 < c.by_ then _ else x) else _) = _
      rw [hlo, if_pos hx, if_pos hby]
    have f2 : ∀ x, x < e' → fOf (c :: C) x = fOf C x := fun x hx => by
      show (if c.lo ≤ x then _ else fOf C x) = _
      rw [hlo, if_neg (by omega)]
    have up : ∀ {x y}, Eqv (relL K') x y → Eqv (relL K) x y := fun {x y} h => heq.iff.mpr (h.mono fun _ _ z => .inl z)
    refine ⟨fun x hx hb => ?_, fun x y h => ?_⟩
    · by_cases d : e' ≤ x
      · obtain ⟨l0, l1⟩ := hled x d hb
        obtain ⟨a, b, g⟩ := i1 _ l0 l1
        rw [f1 x d]
        refine ⟨a, by omega, .trans (heq.iff.mpr (.of (.inr ⟨hby, by rw [hlo]; exact d, by rw [hbe]; exact hb, rfl⟩))) (up g)⟩
      · rw [f2 x (by omega)]
        obtain ⟨a, b, g⟩ := i1 x hx (by omega)
        exact ⟨a, b, up g⟩
    · refine along (R := orR (relL K') (link c)) (fun x y r => ?_) x y (heq.iff.mp h)
      rcases r with ⟨s, hs, r⟩ | ⟨_, hx, hb, rfl⟩
      · have hb := (hK' s hs).both r
        refine ⟨hb.1.1, by omega, hb.2.1, by omega, ?_⟩
        rw [f2 x (by omega), f2 y (by omega)]
        rcases i2 x y (.of ⟨s, hs, r⟩) with e | e
        · rw [e]
        · exact e.2.2.2.2
      · rw [hlo] at hx
        rw [hbe] at hb
        obtain ⟨l0, l1⟩ := hled x hx hb
        refine ⟨by omega, hb, l0, by omega, ?_⟩
        rw [f1 x hx, f2 _ l1]
/-- so what is come to is the least place alike -/
theorem fOf_least {e : Int} {K : List Sy} {C : List Ct} (h : Stg e K C) {x y : Int} (hx : 0 ≤ x) (hb : x < e) (hy : Eqv (relL K) x y) : fOf C x ≤ y := by
  obtain ⟨a, b⟩ := fOf_ok h
  rcases b x y hy with e | ⟨_, _, c, d, e⟩
  · rw [← e]; exact (a x hx hb).2.1
  · rw [e]; exact (a y c d).2.1
end Rep
namespace Rep
/-! the whole reckoning -/
def keptL (qs : List (Int × Int × Int × Bool)) : List Sy := qs.filterMap fun q => keptF q.1 q.2.1 q.2.2.1 q.2.2.2
def relQ (qs : List (Int × Int × Int × Bool)) (x y : Int) : Prop := ∃ q ∈ qs, saysQ q x y
theorem keptL_eq (qs : List (Int × Int × Int × Bool)) : EqR (relQ qs) (relL (keptL qs)) := by
  refine ⟨fun x y ⟨q, hq, h⟩ => ?_, fun x y ⟨s, hs, h⟩ => ?_⟩
  · refine ((kept_eq (a := q.1) (b := q.2.1) (n := q.2.2.1) (t := q.2.2.2)).1 x y h).mono fun x y ⟨s, e, r⟩ => ⟨s, ?_, r⟩
    exact List.mem_filterMap.mpr ⟨q, hq, e⟩
  · obtain ⟨q, hq, e⟩ := List.mem_filterMap.mp hs
    exact ((kept_eq (a := q.1) (b := q.2.1) (n := q.2.2.1) (t := q.2.2.2)).2 x y ⟨s, e, h⟩).mono fun x y r => ⟨q, hq, r⟩
def gE (K : List Sy) : Int := K.foldl (fun a s => max a (s.hi + s.n)) 0
theorem gE_fold : ∀ (K : List Sy) (a : Int), a ≤ K.foldl (fun a s => max a (s.hi + s.n)) a ∧ (∀ s ∈ K, s.hi + s.n ≤ K.foldl (fun a s => max a (s.hi + s.n)) a) ∧ ∀ e, a < e → (∀ s ∈ K, s.hi + s.n < e) → K.foldl (fun a s => max a (s.hi + s.n)) a < e
  | [], a => ⟨Int.le_refl _, fun s h => (by cases h), fun e h _ => h⟩
  | s :: K, a => by
    obtain ⟨h1, h2, h3⟩ := gE_fold K (max a (s.hi + s.n))
    refine ⟨?_, fun u hu => ?_, fun e ha hK => ?_⟩
    · show a ≤ K.foldl _ (max a (s.hi + s.n)); omega
    · show u.hi + u.n ≤ K.foldl _ (max a (s.hi + s.n))
      rcases List.mem_cons.mp hu with rfl | hu
      · omega
      · exact h2 u hu
    · refine h3 e ?_ fun u hu => hK u (List.mem_cons_of_mem _ hu)
      have := hK s List.mem_cons_self
      omega
theorem gE_nonneg (K : List Sy) : 0 ≤ gE K := (gE_fold K 0).1
theorem gE_ge {K : List Sy} {s : Sy} (h : s ∈ K) : s.hi + s.n ≤ gE K := (gE_fold K 0).2.1 s h
theorem gE_lt {K : List Sy} {e : Int} (h0 : 0 < e) (h : ∀ s ∈ K, s.hi + s.n < e) : gE K < e := (gE_fold K 0).2.2 e h0 h
/-- ends later, or as late with longer stretches -/
def better (a b : Sy) : Bool := decide (b.hi + b.n < a.hi + a.n ∨ (b.hi + b.n = a.hi + a.n ∧ b.n < a.n))
def bestF (s : Sy) (K : List Sy) : Sy := K.foldl (fun b s => if better s b = true then s else b) s
theorem best_ok : ∀ (K : List Sy) (s : Sy), bestF s K ∈ s :: K ∧ ∀ u ∈ s :: K, better u (bestF s K) = false
  | [], s => ⟨List.mem_cons_self, fun u hu => by
    have e : u = s := List.mem_singleton.mp hu
    rw [e]
    show better s s = false
    unfold better
    exact decide_eq_false (by omega)⟩
  | v :: K, s => by
    show (K.foldl _ (if better v s = true then v else s)) ∈ _ ∧ ∀ u ∈ _, better u (K.foldl _ (if better v s = true then v else s)) = false
    have hv : ∀ u, u = s ∨ u = v → better u (if better v s = true then v else s) = false := by
      intro u hu
      unfold better
      by_cases c : v.hi + v.n > s.hi + s.n ∨ (s.hi + s.n = v.hi + v.n ∧ s.n < v.n)
      · rw [if_pos (decide_eq_true (by omega))]
        rcases hu with rfl | rfl
        · exact decide_eq_false (by omega)
        · exact decide_eq_false (by omega)
      · rw [if_neg (fun z => c (by have := of_decide_eq_true z; omega))]
        rcases hu with rfl | rfl
        · exact decide_eq_false (by omega)
        · exact decide_eq_false (by omega)
    obtain ⟨a, b⟩ := best_ok K (if better v s = true then v else s)
    unfold bestF at a b
    refine ⟨?_, fun u hu => ?_⟩
    · rcases List.mem_cons.mp a with a | a
      · rw [a]
        by_cases c : better v s = true
        · rw [if_pos c]; exact List.mem_cons_of_mem _ List.mem_cons_self
        · rw [if_neg c]; exact List.mem_cons_self
      · exact List.mem_cons_of_mem _ (List.mem_cons_of_mem _ a)
    · rcases List.mem_cons.mp hu with h | hu
      · have h1 := hv u (.inl h)
        have h2 := b _ List.mem_cons_self
        unfold better at *
        have h1 := of_decide_eq_false h1
        have h2 := of_decide_eq_false h2
        exact decide_eq_false (by omega)
      · rcases List.mem_cons.mp hu with h | hu
        · have h1 := hv u (.inr h)
          have h2 := b _ List.mem_cons_self
          unfold better at *
          have h1 := of_decide_eq_false h1
          have h2 := of_decide_eq_false h2
          exact decide_eq_false (by omega)
        · exact b u (List.mem_cons_of_mem _ hu)
def leadF : List Sy → Option Sy
  | [] => none
  | s :: K => some (bestF s K)
/-- what is left behind the leader's cut, and where the song ends then -/
def stillF (l : Sy) (O : List Sy) : List Sy := O.filter fun s => decide (s.hi < l.hi)
def freshF (l : Sy) (O : List Sy) : List Sy := keptL ((O.filter fun s => decide (l.hi ≤ s.hi)).map (carryF l))
def endF (l : Sy) (O : List Sy) : Int := max (max l.hi (gE (stillF l O))) (gE (freshF l O))
def nextF (l : Sy) (O : List Sy) : List Sy :=
  let fr := freshF l O ++ keptL [shortF l (endF l O)]
  takenF (2 * fr.length + (stillF l O).length) (stillF l O) fr.reverse
structure Leads (e : Int) (l : Sy) (O : List Sy) : Prop where
  ok : Ok e l
  en : l.hi + l.n = e
  oth : ∀ s ∈ O, Ok e s
  best : ∀ s ∈ O, better s l = false
theorem Leads.still {e : Int} {l : Sy} {O : List Sy} (h : Leads e l O) : ∀ s ∈ stillF l O, Ok e s ∧ s.hi + s.n < e := by
  intro s hs
  obtain ⟨h1, h2⟩ := List.mem_filter.mp hs
  have h2 := of_decide_eq_true h2
  have h3 := h.oth s h1
  have h4 := of_decide_eq_false (h.best s h1)
  have h5 := h3.le
  have h6 := h.en
  exact ⟨h3, by omega⟩
theorem Leads.fresh {e : Int} {l : Sy} {O : List Sy} (h : Leads e l O) : ∀ s ∈ freshF l O, Ok e s ∧ s.hi + s.n < e := by
  intro s hs
  obtain ⟨q, hq, e1⟩ := List.mem_filterMap.mp hs
  obtain ⟨u, hu, rfl⟩ := List.mem_map.mp hq
  obtain ⟨h1, h2⟩ := List.mem_filter.mp hu
  have h2 := of_decide_eq_true h2
  obtain ⟨_, c1, c2, c3, c4⟩ := carryF_ok h.ok h.en (h.oth u h1) h2
  have en : (carryF l u).2.2.1 = u.n := rfl
  rw [en] at e1
  obtain ⟨k1, k2⟩ := kept_ok c1 c2 (show (carryF l u).1 + u.n ≤ e by omega) (show (carryF l u).2.1 + u.n ≤ e by omega) e1
  exact ⟨k1, by omega⟩
theorem Leads.end_ {e : Int} {l : Sy} {O : List Sy} (h : Leads e l O) : l.hi ≤ endF l O ∧ endF l O < e := by
  have h1 := h.ok.lo0
  have h2 := h.ok.lt
  have h3 := h.ok.n1
  have h4 := h.en
  have g1 := gE_lt (K := stillF l O) (e := e) (by omega) fun s hs => (h.still s hs).2
  have g2 := gE_lt (K := freshF l O) (e := e) (by omega) fun s hs => (h.fresh s hs).2
  unfold endF
  omega
theorem Leads.stage {e : Int} {l : Sy} {O : List Sy} (h : Leads e l O) :
    (∀ s ∈ nextF l O, Ok (endF l O) s) ∧ EqR (orR (rel l) (relL O)) (orR (relL (nextF l O)) (link (cutF l (endF l O)))) ∧ (nextF l O).length ≤ O.length + 1 := by
  obtain ⟨e1, e2⟩ := h.end_
  have en := h.en
  have l0 := h.ok.lo0
  have l1 := h.ok.lt
  have l2 := h.ok.n1
  -- the shortened leader
  have hsh : ∀ s ∈ keptL [shortF l (endF l O)], Ok (endF l O) s := fun s hs => by
    obtain ⟨q, hq, k⟩ := List.mem_filterMap.mp hs
    have eq_ : q = shortF l (endF l O) := List.mem_singleton.mp hq
    subst eq_
    by_cases c : l.t = true
    · have es : shortF l (endF l O) = (l.lo + (l.hi + l.n - endF l O), l.hi, l.n - (l.hi + l.n - endF l O), true) := if_pos c
      rw [es] at k
      have hov := h.ok.ov c
      exact (kept_ok (by show 0 ≤ l.lo + (l.hi + l.n - endF l O); omega) (by show 0 ≤ l.hi; omega) (by show l.lo + (l.hi + l.n - endF l O) + (l.n - (l.hi + l.n - endF l O)) ≤ endF l O; omega) (by show l.hi + (l.n - (l.hi + l.n - endF l O)) ≤ endF l O; omega) k).1
    · have es : shortF l (endF l O) = (l.lo, l.hi, l.n - (l.hi + l.n - endF l O), false) := if_neg c
      rw [es] at k
      exact (kept_ok (by show 0 ≤ l.lo; omega) (by show 0 ≤ l.hi; omega) (by show l.lo + (l.n - (l.hi + l.n - endF l O)) ≤ endF l O; omega) (by show l.hi + (l.n - (l.hi + l.n - endF l O)) ≤ endF l O; omega) k).1
  have hst : ∀ s ∈ stillF l O, Ok (endF l O) s := fun s hs => (h.still s hs).1.mono (by have := gE_ge hs; unfold endF; omega)
  have hfr : ∀ s ∈ freshF l O, Ok (endF l O) s := fun s hs => (h.fresh s hs).1.mono (by have := gE_ge hs; unfold endF; omega)
  have hw : ∀ s ∈ (freshF l O ++ keptL [shortF l (endF l O)]).reverse, Ok (endF l O) s := fun s hs => by
    rcases List.mem_append.mp (List.mem_reverse.mp hs) with hs | hs
    · exact hfr s hs
    · exact hsh s hs
  obtain ⟨t1, t2, t3⟩ := taken_ok (e := endF l O) (2 * (freshF l O ++ keptL [shortF l (endF l O)]).length + (stillF l O).length) (stillF l O) (freshF l O ++ keptL [shortF l (endF l O)]).reverse (by rw [List.length_reverse]; omega) hst hw
  refine ⟨t1, ?_, ?_⟩
  · -- the others, carried
    have c1 : EqR (orR (rel l) (relL O)) (orR (rel l) (orR (relL (stillF l O)) (relQ ((O.filter fun s => decide (l.hi ≤ s.hi)).map (carryF l))))) := by
      refine .more (fun x y ⟨s, hs, r⟩ => ?_) (fun x y r => ?_)
      · by_cases c : l.hi ≤ s.hi
        · refine ((carryF_ok h.ok en (h.oth s hs) c).1.to x y (.inr r)).mono fun x y z => ?_
          rcases z with z | z
          · exact .inl z
          · exact .inr (.inr ⟨_, List.mem_map.mpr ⟨s, List.mem_filter.mpr ⟨hs, decide_eq_true c⟩, rfl⟩, z⟩)
        · exact .of (.inr (.inl ⟨s, List.mem_filter.mpr ⟨hs, decide_eq_true (by omega)⟩, r⟩))
      · rcases r with ⟨s, hs, r⟩ | ⟨q, hq, r⟩
        · exact .of (.inr ⟨s, (List.mem_filter.mp hs).1, r⟩)
        · obtain ⟨s, hs, rfl⟩ := List.mem_map.mp hq
          obtain ⟨h1, h2⟩ := List.mem_filter.mp hs
          refine ((carryF_ok h.ok en (h.oth s h1) (of_decide_eq_true h2)).1.back x y (.inr r)).mono fun x y z => ?_
          rcases z with z | z
          · exact .inl z
          · exact .inr ⟨s, h1, z⟩
    have c2 : EqR (relQ ((O.filter fun s => decide (l.hi ≤ s.hi)).map (carryF l))) (relL (freshF l O)) := keptL_eq _
    have c3 : EqR (rel l) (orR (relL (keptL [shortF l (endF l O)])) (link (cutF l (endF l O)))) := by
      refine (cut_eq h.ok e1 (by omega)).trans (EqR.orl _ ?_)
      refine EqR.trans (.of_iff fun x y => ?_) (keptL_eq [shortF l (endF l O)])
      constructor
      · intro r; exact ⟨_, List.mem_singleton.mpr rfl, r⟩
      · rintro ⟨q, hq, r⟩
        rw [List.mem_singleton.mp hq] at r
        exact r
    refine (c1.trans (((c2.orr _).orr _).trans (c3.orl _))).trans ?_
    refine EqR.trans (.of_iff fun x y => ?_) (EqR.orl _ (t2.symm))
    unfold orR
    have em : relL (freshF l O ++ keptL [shortF l (endF l O)]).reverse x y ↔ relL (freshF l O) x y ∨ relL (keptL [shortF l (endF l O)]) x y := by
      have e0 : relL (freshF l O ++ keptL [shortF l (endF l O)]).reverse x y ↔ relL (freshF l O ++ keptL [shortF l (endF l O)]) x y :=
        ⟨fun ⟨s, hs, r⟩ => ⟨s, List.mem_reverse.mp hs, r⟩, fun ⟨s, hs, r⟩ => ⟨s, List.mem_reverse.mpr hs, r⟩⟩
      rw [e0, relL_append]
      rfl
    rw [em]
    constructor
    · rintro ((h | h) | h | h)
      · exact .inl (.inr (.inr h))
      · exact .inr h
      · exact .inl (.inl h)
      · exact .inl (.inr (.inl h))
    · rintro ((h | h | h) | h)
      · exact .inr (.inl h)
      · exact .inr (.inr h)
      · exact .inl (.inl h)
      · exact .inl (.inr h)
  · refine Nat.le_trans t3 ?_
    rw [List.length_reverse, List.length_append]
    have f1 : (freshF l O).length ≤ (O.filter fun s => decide (l.hi ≤ s.hi)).length := by
      unfold freshF keptL
      refine Nat.le_trans (List.length_filterMap_le _ _) ?_
      rw [List.length_map]
      exact Nat.le_refl _
    have f2 : (keptL [shortF l (endF l O)]).length ≤ 1 := List.length_filterMap_le _ _
    have f3 : (stillF l O).length + (O.filter fun s => decide (l.hi ≤ s.hi)).length = O.length := by
      unfold stillF
      clear t1 t2 t3 hw hfr hst hsh f1 f2 h en e1 e2
      induction O with
      | nil => rfl
      | cons s O ih =>
        by_cases c : s.hi < l.hi
        · have e1 : (s :: O).filter (fun s => decide (s.hi < l.hi)) = s :: O.filter (fun s => decide (s.hi < l.hi)) := by simp [c]
          have e2 : (s :: O).filter (fun s => decide (l.hi ≤ s.hi)) = O.filter (fun s => decide (l.hi ≤ s.hi)) := by
            have c' : ¬ l.hi ≤ s.hi := by omega
            simp [c']
          rw [e1, e2, List.length_cons, List.length_cons]
          omega
        · have e1 : (s :: O).filter (fun s => decide (s.hi < l.hi)) = O.filter (fun s => decide (s.hi < l.hi)) := by simp [c]
          have e2 : (s :: O).filter (fun s => decide (l.hi ≤ s.hi)) = s :: O.filter (fun s => decide (l.hi ≤ s.hi)) := by
            have c' : l.hi ≤ s.hi := by omega
            simp [c']
          rw [e1, e2, List.length_cons, List.length_cons]
          omega
    omega
/-- one cut of what is left -/
def cutBy (K : List Sy) : Option (Ct × List Sy) := match leadF K with
  | none => none
  | some l => some (cutF l (endF l (K.erase l)), nextF l (K.erase l))
theorem lead_leads {e : Int} {K : List Sy} {l : Sy} (hK : ∀ s ∈ K, Ok e s) (he : e ≤ gE K) (h0 : 0 < e) (hl : leadF K = some l) : Leads e l (K.erase l) ∧ l ∈ K := by
  cases K with
  | nil => cases hl
  | cons s K =>
    cases hl
    obtain ⟨a, b⟩ := best_ok K s
    refine ⟨⟨hK _ a, ?_, fun u hu => hK u (List.mem_of_mem_erase hu), fun u hu => b u (List.mem_of_mem_erase hu)⟩, a⟩
    -- it ends last
    have h1 := (hK _ a).le
    by_cases c : (bestF s K).hi + (bestF s K).n < e
    · have : gE (s :: K) < e := gE_lt h0 fun u hu => by
        have := of_decide_eq_false (b u hu)
        omega
      omega
    · omega
theorem lead_some {K : List Sy} (h : 0 < gE K) : ∃ l, leadF K = some l := by
  cases K with
  | nil => exact absurd h (by decide)
  | cons s K => exact ⟨_, rfl⟩
theorem relL_erase {K : List Sy} {l : Sy} (h : l ∈ K) : EqR (relL K) (orR (rel l) (relL (K.erase l))) := .of_iff fun x y => by
  constructor
  · rintro ⟨s, hs, r⟩
    by_cases c : s = l
    · subst c; exact .inl r
    · exact .inr ⟨s, (List.mem_erase_of_ne c).mpr hs, r⟩
  · rintro (r | ⟨s, hs, r⟩)
    · exact ⟨l, h, r⟩
    · exact ⟨s, List.mem_of_mem_erase hs, r⟩
/-- all cuts, from the song's end -/
def cutsF : Nat → Int → List Sy → List Ct
  | 0, _, _ => []
  | f + 1, e, K => if e ≤ 0 then [] else if gE K < e then ⟨gE K, e, 0, false⟩ :: cutsF f (gE K) K else match cutBy K with
    | none => []
    | some (c, K') => c :: cutsF f c.lo K'
theorem cuts_stg : ∀ (f : Nat) (e : Int) (K : List Sy), e ≤ (f : Int) → 0 ≤ e → (∀ s ∈ K, Ok e s) → Stg e K (cutsF f e K)
  | 0, e, K, hf, h0, hK => by
    have e0 : e = 0 := by omega
    subst e0
    exact .nil hK
  | f + 1, e, K, hf, h0, hK => by
    show Stg e K (if e ≤ 0 then [] else if gE K < e then ⟨gE K, e, 0, false⟩ :: cutsF f (gE K) K else match cutBy K with | none => [] | some (c, K') => c :: cutsF f c.lo K')
    by_cases c : e ≤ 0
    · have e0 : e = 0 := by omega
      subst e0
      rw [if_pos c]
      exact .nil hK
    · rw [if_neg c]
      by_cases d : gE K < e
      · rw [if_pos d]
        have hK' : ∀ s ∈ K, Ok (gE K) s := fun s hs => (hK s hs).mono (gE_ge hs)
        exact .free (gE_nonneg K) d hK' (cuts_stg f (gE K) K (by omega) (gE_nonneg K) hK')
      · rw [if_neg d]
        obtain ⟨l, hl⟩ := lead_some (K := K) (by omega)
        obtain ⟨L, hm⟩ := lead_leads hK (by omega) (by omega) hl
        obtain ⟨s1, s2, s3⟩ := L.stage
        obtain ⟨e1, e2⟩ := L.end_
        have en := L.en
        have b0 := L.ok.lo0
        have b1 := L.ok.lt
        have ec : cutBy K = some (cutF l (endF l (K.erase l)), nextF l (K.erase l)) := by unfold cutBy; rw [hl]
        rw [ec]
        refine .led (e' := endF l (K.erase l)) (by omega) e2 hK s1 rfl (by show l.hi + l.n = e; exact en) (cut_by_pos L.ok _) (fun x hx hb => ?_) ((relL_erase hm).trans s2) (cuts_stg f (endF l (K.erase l)) _ (by omega) (by omega) s1)
        have := cut_led L.ok e1 hx (by rw [en]; exact hb)
        exact ⟨this.1, this.2.1⟩
end Rep
namespace Rep
open PySem PySem.Spec PyProof.Rows L2
/-! rules that the layer lacks: max(ints, default=d), xs.remove(tuple) -/
theorem dp_ints {K : PySem.W.Frag} {H : Hp} : ∀ ns : List Int, DpAll K H (ns.map V.int) (ns.map PyData.int)
  | [] => .nil
  | n :: r => .cons (.int n) (dp_ints r)
theorem depth_ints : ∀ ns : List Int, PyData.depthAll (ns.map PyData.int) = 0
  | [] => rfl
  | n :: r => by
    show max 0 (PyData.depthAll (r.map PyData.int)) = 0
    rw [depth_ints r]; rfl
def maxI : List Int → Int → Int
  | [], d => d
  | n :: r, _ => r.foldl max n
theorem cr_maxD {X : Cx} (hc : X.calm = true) (hu : X.A.units + 64 < cLine) : CallRK X (.builtin "max") [Str.ofString "default"] (fun vs zs H Q => ∃ (a : Addr) (ns : List Int) (d : Int), vs = [.ref a] ∧ zs = [.int d] ∧ SqL X.K H a (ns.map V.int) ∧ Q (.int (maxI ns d)) H) := by
  intro pins s σ H vs zs us ws Q I r rz h
  obtain ⟨a, ns, d, rfl, rfl, hs, q⟩ := h
  obtain rfl := Vals.ref1 r
  obtain ⟨w1, rfl, e1⟩ := vals1 rz
  obtain ⟨t1, rfl⟩ := e1
  obtain ⟨its, rv, hl, hz⟩ := I.list hs
  obtain ⟨as, hr⟩ := Dp.readsAll I _ _ its (dp_ints ns) rv
  refine PySem.W.max_list_default (xs := ns.map PyData.int) (I.ok.hd hc) hl.isList (by simpa using hr) ⟨fun x hx y hy => ?_, fun x hx => ?_⟩ (by rw [depth_ints]; omega) (fun e h' tk k => ?_) (fun y ys i v h' tk bs e hv rd k => ?_)
  · obtain ⟨i, _, rfl⟩ := List.mem_map.mp hx
    obtain ⟨j, _, rfl⟩ := List.mem_map.mp hy
    rfl
  · obtain ⟨i, _, rfl⟩ := List.mem_map.mp hx
    intro z; cases z
  · have e0 : ns = [] := List.map_eq_nil_iff.mp e
    subst e0
    exact ⟨.int d, H, I.kept k, ⟨t1, rfl⟩, q⟩
  · cases ns with
    | nil => cases e
    | cons n rr =>
      cases e
      rw [PySem.W.maxD_ints] at rd
      cases rd
      exact ⟨.int _, H, I.kept k, ⟨_, rfl⟩, q⟩
/-- xs.remove(v), the items and v data: the first that is == v goes -/
theorem mt_removeD {X : Cx} (hu : X.A.units + 200 < cLine) : MtM X "list.remove" (fun x xs H Q => ∃ (l : Addr) (ys : List V) (y : V) (ds : List PyData) (d : PyData) (j : Nat), x = .ref l ∧ xs = [y] ∧ H l = some (.lst ys) ∧ DpAll X.K H ys ds ∧ Dp X.K H y d ∧ PyData.plainAll ds = true ∧ d.plain = true ∧ d.depth ≤ 64 ∧
    SeqAt.dataPlace ds d = some j ∧ Q .non (upd H l (.lst (ys.eraseIdx j)))) := by
  intro pins s σ H x xs v us Q I rx rxs h
  obtain ⟨l, ys, y, ds, d, j, rfl, rfl, hH, hds, hd, p1, p2, p3, hj, q⟩ := h
  cases rx
  obtain ⟨u, rfl, ru⟩ := vals1 rxs
  obtain ⟨z, its, n, r, hl, e⟩ := I.lstM hH
  obtain ⟨as, hr⟩ := Dp.readsAll I _ _ its hds r
  obtain ⟨bs, hr2⟩ := Dp.reads I d y u hd ru
  refine SeqAt.remove_list_data (vs := its.toArray) ⟨_, e, rfl, n, rfl⟩ (by simpa using hr) hr2 p1 p2 (by have := Nat.min_le_right (PyData.depthAll ds) d.depth; omega) hj (by rw [List.size_toArray]; omega) ?_
  refine ⟨.non, _, I.lset (its' := its.eraseIdx j) hH e ?_ (r.eraseIdx j) ?_, rfl, q⟩
  · show its.toArray.eraseIdxIfInBounds j = (its.eraseIdx j).toArray
    rw [List.eraseIdxIfInBounds_toArray]
  · have := len_erase ys j
    omega
end Rep
namespace Rep
open PySem PySem.Spec PyProof.Rows L2
/-! a lambda of one parameter that captures nothing, called -/
theorem lam1_run {P : Program} {w : World} {K : PySem.W.Frag} {mg : Str → Option Value} {base : Heap} {A : Around} {outer : List Env} {s : Shared} {H : Hp} {f c' : Addr} {q x : Str} {params : Arguments} {body : Expr} {scope : Scope} {pm ctv u : Value} {v : V} {N : List Str} {k : Nat} {Q : VK} {t : TE}
    (S : FnScope N [x] scope) (hf : s.heap.get? f = some (PySem.W.kla_obj "<lambda>" q params body scope [] pm c' ctv)) (hco : H c' = some (LamX.CodeO c' q)) (hr : Room (k + 1) A) (e0 : Env0 P w K mg base A outer s H)
    (hb : bindArgs (PySem.W.kla_fn "<lambda>" q params body scope [] pm (.ref c') ctv) ⟨[u], []⟩ = pure [(x, u)]) (rv : RelV v u)
    (hbody : Room k (A.deeper (envOfC q scope s.heap.objs.size f (.ref c'))) → PE (cxOf CX0 P w K mg base N q scope f (.ref c') A outer s H E0).nox body t) (hq : t (L2.start N [v]) H Q) :
    codeAny (model P w) A (.call (.ref f) ⟨[u], []⟩) (CR CX0 outer P w H s Q E0) s := by
  have lim : s.heap.NoLimit := e0.mod.nolimit.keeps fun b o e => (e0.bs b o e).1
  obtain ⟨⟨oc, vs, tq, hoc, hdc, hvc⟩, _, _⟩ := e0.hok c' _ hco
  refine PySem.W.kla_callFunE hr.depth hf rfl S.co S.gen rfl ⟨c', oc, vs, tq, rfl, hoc, hdc, hvc⟩ ?_
  rw [hb]
  have hkind : ∀ y ∈ [(x, u)], scope.names.lookup y.1 = some .local ∨ (scope.names.lookup y.1 = some .cell ∧ ((cellsFrom (s.heap.objs.size + 1) scope.names []).lookup y.1).isSome = true) := fun y hy => by
    rw [List.mem_singleton.mp hy]
    rcases S.par x List.mem_cons_self with h | h
    · exact .inl h
    · exact .inr ⟨h, PySem.W.cellsFrom_some _ _ _ (.inl h)⟩
  refine wpAny_pure (wpAny_newFunctionEnv_cells S.kind hkind fun env he s1 xc => ?_)
  subst he
  refine ⟨lim.keeps xc.toInCall.keep, ?_⟩
  have I : Inv (cxOf CX0 P w K mg base N q scope f (.ref c') A outer s H E0) [] (L2.start N [v]) H s1 := inv_start (us := [u]) S hr.hd e0 rfl (.cons rv .nil) xc
  refine PySem.W.kla_codeExpr (wpAny_mono (((hbody (hr.deeper _)).nox).run [] s1 (L2.start N [v]) H Q I hq) (fun v' s' hs => ?_) fun e s' hs => hs)
  obtain ⟨w', H', J, rv', q'⟩ := hs
  exact ⟨w', H', J.os, J.bare, J.base, J.hok, rv', q'⟩
end Rep
namespace Rep
open PySem PySem.W PySem.Spec PyProof.Rows L2
section
variable {X : Cx} {pins : List (Addr × Obj)} {σ : L2.St} {H H2 : Hp} {s s0 : Shared}
theorem no_frame (I : Inv X pins σ H s) {f : Addr} (hf : s.heap.objs.size ≤ f) : f ∉ frs X.stack := fun z => by
  rcases List.mem_cons.mp (I.stkSub _ z) with e | e
  · have h1 := I.lt
    rw [← e] at h1
    exact Nat.lt_irrefl _ (Nat.lt_of_lt_of_le h1 hf)
  · exact I.nofs hf e
theorem relV_int {a : V} {i : Int} {t : Tok} (h : RelV a (.int i t)) : a = .int i := by
  cases a with
  | int j => obtain ⟨t', e⟩ := h; cases e; rfl
  | non => cases h
  | bl b => cases h
  | str x => obtain ⟨_, e⟩ := h; cases e
  | byt x => obtain ⟨_, e⟩ := h; cases e
  | flt x => obtain ⟨_, e⟩ := h; cases e
  | ref x => cases h
  | ty x => cases h
/-- H' is H2 and, besides, tuples -/
structure Grown (H2 H' : Hp) : Prop where
  all : ∀ b o, H2 b = some o → H' b = some o
  new : ∀ b o, H2 b = none → H' b = some o → ∃ xs, o = .tup xs
theorem Grown.refl (H : Hp) : Grown H H := ⟨fun _ _ h => h, fun b o h h' => by rw [h] at h'; cases h'⟩
theorem Grown.tup {H2 H' : Hp} (g : Grown H2 H') {p : Addr} {xs : List V} (n : H' p = none) : Grown H2 (upd H' p (.tup xs)) := by
  refine ⟨fun b o h => ?_, fun b o h h' => ?_⟩
  · have h1 := g.all b o h
    rw [upd_ne (ne_of_none h1 n)]
    exact h1
  · by_cases e : b = p
    · subst e
      rw [upd_same] at h'
      exact ⟨xs, (Option.some.inj h').symm⟩
    · rw [upd_ne e] at h'
      exact g.new b o h h'
/-- what stays while max asks for its keys -/
structure Asks (X : Cx) (pins : List (Addr × Obj)) (σ : L2.St) (H2 : Hp) (f I S : Addr) (fo : Obj) (s : Shared) : Prop where
  ex : ∃ H', Inv X pins σ H' s ∧ Grown H2 H' ∧ H' I = none ∧ H' S = none ∧ H' f = none
  fn : s.heap.get? f = some fo
/-- the key of an item, as it lies on the heap -/
def KeyAt (H2 : Hp) (S I : Addr) (k : Int × Int) (v : Value) (s : Shared) : Prop := ∃ (t : Addr) (o : Obj) (n : Nat) (t1 t2 : Tok), v = .ref t ∧ H2 t = none ∧ t ∉ [S, I] ∧ s.heap.get? t = some o ∧ o.cls = .type "tuple" ∧ o.data = .seq #[.int k.1 t1, .int k.2 t2] n
theorem KeyAt.reads {S I : Addr} {k : Int × Int} {v : Value} (h : KeyAt H2 S I k v s) : Reads s.heap v (.tuple [.int k.1, .int k.2]) [] := by
  obtain ⟨t, o, n, t1, t2, rfl, _, _, e, c, d⟩ := h
  exact .tuple (as := []) e c d (.cons (.int _ _) (.cons (.int _ _) .nil))
end
/-- max(xs, key=lambda x: body), xs locked: the keys are pairs of ints -/
theorem key_run {X : Cx} {pins : List (Addr × Obj)} {σ : L2.St} {H2 : Hp} {s0 : Shared} {l f c' : Addr} {lo : Obj} {ys : List V} {vs : Array Value} {q x : Str} {params : Arguments} {body : Expr} {scope : Scope} {pm ctv : Value} {N : List Str} {k : Nat} {t : TE} {kk : V → Int × Int}
    (I0 : Inv X pins σ H2 s0) (hl : H2 l = some (.frz lo (.lst ys))) (hv : Vals ys vs.toList) (Sc : FnScope N [x] scope) (hf : s0.heap.get? f = some (PySem.W.kla_obj "<lambda>" q params body scope [] pm c' ctv)) (hfn : H2 f = none) (hfr : f ∉ frs X.stack) (hco : H2 c' = some (LamX.CodeO c' q)) (hr : Room (k + 2) X.A)
    (hb : ∀ u : Value, bindArgs (PySem.W.kla_fn "<lambda>" q params body scope [] pm (.ref c') ctv) ⟨[u], []⟩ = pure [(x, u)])
    (hbody : ∀ (A : Around) (outer : List Env) (s : Shared) (H : Hp) (g : Addr) (cd : Value), Room k (A.deeper (envOfC q scope s.heap.objs.size g cd)) → PE (cxOf CX0 X.prog X.w X.K X.mg X.base N q scope g cd A outer s H E0).nox body t)
    (hq : ∀ y ∈ ys, ∀ (H' : Hp) (Q : VK), Grown H2 H' → (∀ p, H' p = none → Q (.ref p) (upd H' p (.tup [.int (kk y).1, .int (kk y).2]))) → t (L2.start N [y]) H' Q)
    (hS : s0.heap.objs.size + 1 = S) :
    KeyRun X.prog X.w X.A.in1 (.ref f) .Gt S [s0.heap.objs.size] (fun a b => b = a) vs.size (fun i v => vs[i]? = some v) (fun i s' => s'.heap.IsListIter s0.heap.objs.size l i ∧ s'.heap.IsList l vs)
      (Asks X pins σ H2 f s0.heap.objs.size S (PySem.W.kla_obj "<lambda>" q params body scope [] pm c' ctv)) (fun i v s' => KeyAt H2 S s0.heap.objs.size (kk (ys.getD i .non)) v s')
      (fun i j => dataLt (.tuple [.int (kk (ys.getD j .non)).1, .int (kk (ys.getD j .non)).2]) (.tuple [.int (kk (ys.getD i .non)).1, .int (kk (ys.getD i .non)).2])) := by
  have fI : f ≠ s0.heap.objs.size := Nat.ne_of_lt (Heap.lt_size hf)
  have fS : f ≠ S := Nat.ne_of_lt (by rw [← hS]; exact Nat.lt_succ_of_lt (Heap.lt_size hf))
  have iS : s0.heap.objs.size ≠ S := by rw [← hS]; exact Nat.ne_of_lt (Nat.lt_succ_self _)
  have hSge : s0.heap.objs.size ≤ S := by rw [← hS]; exact Nat.le_succ _
  refine ⟨fun s s' J m => ?_, fun i v s s' V m => ?_, fun i v s o Q E hi hP J st hSo hQ => ?_, fun i j ki kj s Q E J Vi Vj h => ?_⟩
  · obtain ⟨⟨H', I, g, n1, n2, n3⟩, fn⟩ := J
    have fn' := m.heap f _ (by simp [fI, fS]) fn
    refine ⟨⟨H', ?_, g, n1, n2, n3⟩, fn'⟩
    have I' := I.turnedL (t' := s'.toks) (h' := s'.heap) (ch := [S, s0.heap.objs.size]) (fun b o hb e => m.heap b o hb e) (fun b hb => by
      rcases List.mem_cons.mp hb with rfl | hb
      · exact I0.fpOk hSge n2
      · rw [List.mem_singleton.mp hb]; exact I0.fpOk (Nat.le_refl _) n1)
    have es : s' = { s with heap := s'.heap, toks := s'.toks } := by
      obtain ⟨a1, a2, a3, a4, a5⟩ := s'
      have g1 : a2 = s.gens := m.gens
      have g2 : a3 = s.drawn := m.drawn
      have g3 := m.os
      simp only at g3
      subst g1 g2 g3
      rfl
    rw [es]
    exact I'
  · obtain ⟨t', o, n, t1, t2, e, a1, a2, a3, a4, a5⟩ := V
    exact ⟨t', o, n, t1, t2, e, a1, a2, m.heap t' o (by simpa using a2) a3, a4, a5⟩
  · obtain ⟨⟨H', I, g, n1, n2, n3⟩, fn⟩ := J
    -- the item
    have hvi : vs.toList[i]? = some v := by rw [Array.getElem?_toList]; exact hP
    have hyl : i < ys.length := by
      rw [hv.length]
      exact (List.getElem?_eq_some_iff.mp hvi).1
    obtain ⟨u, hu, ru⟩ := hv.get (List.getElem?_eq_getElem hyl)
    rw [hvi] at hu
    cases hu
    have eg : ys.getD i .non = ys[i] := by rw [List.getD_eq_getElem?_getD, List.getElem?_eq_getElem hyl]; rfl
    have r1 : Room (k + 1) X.A.in1 := hr.in1
    have rc := lam1_run (P := X.prog) (w := X.w) (K := X.K) (mg := X.mg) (base := X.base) (A := X.A.in1) (outer := X.stack) (s := s) (H := H') (k := k) (Q := fun w' H'' => ∃ p, w' = .ref p ∧ H' p = none ∧ H'' = upd H' p (.tup [.int (kk ys[i]).1, .int (kk ys[i]).2])) Sc fn (g.all _ _ hco) r1 I.env0.in1 (hb v) ru (fun hr' => hbody _ _ _ _ _ _ hr') (hq _ (List.getElem_mem hyl) H' _ g fun p np => ⟨p, rfl, np, rfl⟩)
    refine wpAny_call (codeAny_mono rc fun r s' hr' => ?_)
    cases r with
    | error e => exact (show False from hr').elim
    | ok fl =>
      cases fl with
      | next => exact (show False from hr').elim
      | brk => exact (show False from hr').elim
      | cont => exact (show False from hr').elim
      | ret w' =>
        obtain ⟨y', H'', os, bare, un, hok, rw', p, rfl, np, rfl⟩ := hr'
        obtain rfl : w' = Value.ref p := rw'
        have I' : Inv X pins σ (upd H' p (.tup [.int (kk ys[i]).1, .int (kk ys[i]).2])) s' := by
          obtain ⟨hh, gg, d, tt, os'⟩ := s'
          obtain rfl : os' = s.os := os
          exact I.call (h' := hh) (g' := gg) (d' := d) (t' := tt) (ch := []) un hok bare (fun b z => absurd z (by simp))
        have kS := un.keep S o hSo n2 (no_frame I0 hSge) (by simp)
        have kf := un.keep f _ fn n3 hfr (by simp)
        have pS : p ≠ S := fun e => by
          have := un.free S o hSo n2 (by simp)
          rw [← e, upd_same] at this
          cases this
        obtain ⟨⟨oi, ei, ci, di⟩, hls⟩ := st
        have kI := un.keep _ oi ei n1 (no_frame I0 (Nat.le_refl _)) (by simp)
        have pI : p ≠ s0.heap.objs.size := fun e => by
          have := un.free _ oi ei n1 (by simp)
          rw [← e, upd_same] at this
          cases this
        have pf : p ≠ f := fun e => by
          have := un.free f _ fn n3 (by simp)
          rw [← e, upd_same] at this
          cases this
        have p2 : H2 p = none := by
          cases h2 : H2 p with
          | none => rfl
          | some o2 => rw [g.all _ _ h2] at np; cases np
        have nu : ∀ b, b ≠ p → H' b = none → upd H' p (.tup [.int (kk ys[i]).1, .int (kk ys[i]).2]) b = none := fun b hb hn => by rw [upd_ne hb]; exact hn
        -- the list is the very object that it was
        have l1 : s.heap.get? l = some lo := (I.hok l _ (g.all _ _ hl)).1
        have l2' : upd H' p (.tup [.int (kk ys[i]).1, .int (kk ys[i]).2]) l = some (.frz lo (.lst ys)) := by rw [upd_ne (ne_of_none (g.all _ _ hl) np)]; exact g.all _ _ hl
        have l2 : s'.heap.get? l = some lo := (hok l _ l2').1
        have hls' : s'.heap.IsList l vs := by
          obtain ⟨ol, el, cl, nl, dl⟩ := hls
          rw [l1] at el
          cases el
          exact ⟨lo, l2, cl, nl, dl⟩
        refine hQ (.ref p) s' ⟨⟨_, I', g.tup np, nu _ pI.symm n1, nu _ pS.symm n2, nu _ pf.symm n3⟩, kf⟩ ⟨⟨oi, kI, ci, di⟩, hls'⟩ kS ?_ (fun j k' V => ?_)
        · -- the new key
          obtain ⟨_, its, rits, ot, eo, co, nt, dt⟩ := hok p _ upd_same
          obtain ⟨u1, u2, rfl, q1, q2⟩ := vals2 rits
          obtain ⟨t1, rfl⟩ := q1
          obtain ⟨t2, rfl⟩ := q2
          rw [eg]
          exact ⟨p, ot, nt, t1, t2, rfl, p2, by simp [pS, pI], eo, co, dt⟩
        · obtain ⟨t', o', n', t1, t2, e1, a1, a2, a3, a4, a5⟩ := V
          cases ht : H' t' with
          | none =>
            obtain ⟨sl, e2⟩ := un.any a3 ht (by simp)
            exact ⟨t', _, n', t1, t2, e1, a1, a2, e2, a4, a5⟩
          | some ob =>
            obtain ⟨xs, rfl⟩ := g.new _ _ a1 ht
            obtain ⟨_, its, rits, ot, eo, co, nt, dt⟩ := I.hok t' _ ht
            rw [a3] at eo
            cases eo
            rw [a5] at dt
            have ed : its.toArray = #[.int (kk (ys.getD j .non)).1 t1, .int (kk (ys.getD j .non)).2 t2] := by
              injection dt with d1 d2
              exact d1.symm
            have ei' : its = [.int (kk (ys.getD j .non)).1 t1, .int (kk (ys.getD j .non)).2 t2] := by
              have := congrArg Array.toList ed
              simpa using this
            subst ei'
            have t3 := un.tups _ _ ht
            obtain ⟨_, its2, rits2, ot2, eo2, co2, nt2, dt2⟩ := hok t' _ t3
            cases rits with
            | cons b1 rr =>
              cases rr with
              | cons b2' rr2 =>
                cases rr2
                have x1 := relV_int b1
                have x2 := relV_int b2'
                subst x1 x2
                obtain ⟨u1, u2, rfl, q1, q2⟩ := vals2 rits2
                obtain ⟨t5, rfl⟩ := q1
                obtain ⟨t6, rfl⟩ := q2
                exact ⟨t', ot2, nt2, t5, t6, e1, a1, a2, eo2, co2, dt2⟩
  · have r1 := Vi.reads
    have r2 := Vj.reads
    obtain ⟨⟨H', I, _⟩, _⟩ := J
    exact rcGt_alike _ _ X.A.in1 s ki kj _ _ r1 r2 rfl (by intro z; cases z) (by
      have := hr.un
      show X.A.units + 1 + min 1 1 < cLine
      omega) X.prog X.w E Q h
end Rep
namespace Rep
open PySem PySem.W PySem.Spec PyProof.Rows L2
def kD (k : Int × Int) : PyData := .tuple [.int k.1, .int k.2]
/-- the place of the first item whose key is the greatest -/
def topAt (kk : V → Int × Int) (ys : List V) : Nat := argBest (fun i j => dataLt (.tuple [.int (kk (ys.getD j .non)).1, .int (kk (ys.getD j .non)).2]) (.tuple [.int (kk (ys.getD i .non)).1, .int (kk (ys.getD i .non)).2])) (ys.length - 1)
def rMaxLam (T : List (Addr × Str)) (N : List Str) (t : TE) (Q : VK) (vs : List V) (H1 : Hp) : Prop := ∃ (l : Addr) (ys : List V) (kk : V → Int × Int), vs = [.ref l] ∧ H1 l = some (.lst ys) ∧ ys ≠ [] ∧ LamX.Tabs T H1 ∧
  (∀ y ∈ ys, ∀ (H' : Hp) (Q' : VK), (∀ b xs, H1 b = some (.tup xs) → H' b = some (.tup xs)) → (∀ p, H' p = none → Q' (.ref p) (upd H' p (.tup [.int (kk y).1, .int (kk y).2]))) → t (L2.start N [y]) H' Q') ∧
  ∀ H3 y, LamX.ExtN H1 H3 → LamX.Tabs T H3 → ys[topAt kk ys]? = some y → Q y H3
def tMaxLam (T : List (Addr × Str)) (N : List Str) (t : TE) (ta : TA) : TE := fun σ H Q => ta σ H (rMaxLam T N t Q)
theorem pe_maxLam {X : Cx} {T : List (Addr × Str)} {c P : Addr} {k : Nat} {x : Str} {params : Arguments} {body : Expr} {scope : Scope} {lpos p pos kpos : Pos} {e : Expr} {t : TE} {ta : TA} {N : List Str}
    (hg : Gl X "max") (hm : X.mg "max" = none) (ha : PA X [e] ta) (TB : LamX.TabB X.base X.mg c P) (hcode : X.env.code = .ref c) (hmT : (P, X.env.qual ++ "<lambda>") ∈ T) (hu : ∀ p ∈ T, p.1 = P → p.2 = X.env.qual ++ "<lambda>")
    (hdef : defaultsOf params X.env = ([], [])) (hnf : ∀ y ∈ scope.names, y.2 ≠ .free) (hclo : cloFrom X.env.cells scope.names [] = []) (hr : Room (k + 2) X.A) (Sc : FnScope N [x] scope)
    (hb : ∀ (q : Str) (pm cv ctv u : Value), bindArgs (kla_fn "<lambda>" q params body scope [] pm cv ctv) ⟨[u], []⟩ = pure [(x, u)])
    (hbody : ∀ (A : Around) (outer : List Env) (s : Shared) (H : Hp) (g : Addr) (cd : Value), Room k (A.deeper (envOfC (X.env.qual ++ "<lambda>") scope s.heap.objs.size g cd)) → PE (cxOf CX0 X.prog X.w X.K X.mg X.base N (X.env.qual ++ "<lambda>") scope g cd A outer s H E0).nox body t)
    (hs : backTo pos (starEach [e] X.env) = (false, eval e X.env) :: backTo pos (starEach [] X.env) := by rfl) (hpl : (backTo pos (starEach [e] X.env)).any (·.1) = false := by rfl) :
    PE X (.Call (.Name "max" p) [e] [⟨some "key", .Lambda params body scope lpos, kpos⟩] pos) (tMaxLam T N t ta) := by
  refine ⟨fun pins s σ H Q I h => ?_⟩
  refine wpAny_Call_Name_kw (ld_blt I hg hm (show bootBuiltins "max" = some (.builtin "max") by decide +kernel) ?_)
  refine PyProof.Rows.callWith_kw (thn (ha.run pos pins s σ H (rMaxLam T N t Q) I h) fun us s1 ⟨vs, H1, I1, r1, q1⟩ => ?_) hs hpl
  obtain ⟨l, ys, kk, rfl, hl, hne, hT, hk, hfin⟩ := q1
  obtain rfl := Vals.ref1 r1
  show wpAny _ _ (evalAll ((do let v ← eval (.Lambda params body scope lpos) X.env; standAt pos; pure v) :: [])) _ _ s1
  refine wpAny_evalAll_cons (wpAny_bind (LamX.lam_make2 I1 TB hcode hmT hu hT hdef (fun y hy e => absurd e (hnf y hy)) fun f c' pm ctv H2 s2 I2 eN T2 hf hfn hfr hco => wpAny_bind (wpAny_standAt (wpAny_pure ?_))))
  refine wpAny_evalAll_nil ?_
  rw [hclo] at hf
  have hl2 : H2 l = some (.lst ys) := eN l _ hl (fun ps z => by cases z)
  obtain ⟨od, I3⟩ := I2.lock hl2 trivial
  have nfl : f ≠ l := fun z => by rw [z, hl2] at hfn; cases hfn
  have ncl : c' ≠ l := fun z => by rw [z, hl2] at hco; unfold LamX.CodeO at hco; cases hco
  have hl3 : upd H2 l (.frz od (.lst ys)) l = some (.frz od (.lst ys)) := upd_same
  obtain ⟨_, _, its, n, rv, el⟩ := I3.hok l _ hl3
  have hlt : its.length = ys.length := rv.length.symm
  have hn0 : 0 < ys.length := List.length_pos_iff.mpr hne
  have hf3 : upd H2 l (.frz od (.lst ys)) f = none := by rw [upd_ne nfl]; exact hfn
  have hco3 : upd H2 l (.frz od (.lst ys)) c' = some (LamX.CodeO c' (X.env.qual ++ "<lambda>")) := by rw [upd_ne ncl]; exact hco
  have hh : X.A.in1.handled = none := hr.hd
  have tups : ∀ b xs, H1 b = some (.tup xs) → upd H2 l (.frz od (.lst ys)) b = some (.tup xs) := fun b xs hx => by
    have hb2 : H2 b = some (.tup xs) := eN b _ hx (fun ps z => by cases z)
    rw [upd_ne (ne_of hb2 hl2 (by intro z; cases z))]
    exact hb2
  refine call_max_walkK (PySem.W.iter_listW (A := X.A.in1) (vs := its.toArray) hh ⟨_, el, rfl, n, rfl⟩ fun s₃ e3 W st hfp hw hkp => ?_)
  have hsz : s₃.heap.objs.size = s2.heap.objs.size + 1 := by rw [e3]; exact Heap.size_push _ _
  have KR := key_run (S := s₃.heap.objs.size) (vs := its.toArray) (kk := kk) I3 hl3 (by simpa using rv) Sc hf hf3 hfr hco3 hr (fun u => hb _ _ _ _ u) hbody (fun y hy H' Q' g hq => hk y hy H' Q' (fun b xs hx => g.all _ _ (tups b xs hx)) hq) hsz.symm
  · have I4 : Inv X pins σ (upd H2 l (.frz od (.lst ys))) s₃ := by
      rw [e3]
      exact I3.kept (t' := s2.toks) (h' := s2.heap.push _) fun b o q => Heap.get?_push_of_some _ q
    refine ⟨_, _, _, _, _, _, _, _, _, _, rfl, W, st, hfp, by rw [List.size_toArray, hlt]; exact hn0, KR, ⟨⟨_, I4, Grown.refl _, I3.hok.fresh (Nat.le_refl _), I3.hok.fresh (by rw [hsz]; exact Nat.le_succ _), hf3⟩, hkp f _ hf⟩, fun v s4 hP hJ => ?_⟩
    obtain ⟨⟨H4, I5, g, _, _, _⟩, _⟩ := hJ
    have hl4 := g.all _ _ hl3
    have I6 := I5.unlock hl4 (I2.nofrz hl2 trivial)
    have same : ∀ b o, H2 b = some o → upd H4 l (.lst ys) b = some o := fun b o q => by
      by_cases c1 : b = l
      · subst c1; rw [upd_same, ← hl2]; exact q
      · rw [upd_ne c1]
        exact g.all _ _ (by rw [upd_ne c1]; exact q)
    have hP' : its[topAt kk ys]? = some v := by
      have e5 : its.toArray.size - 1 = ys.length - 1 := by rw [List.size_toArray, hlt]
      rw [e5, List.getElem?_toArray] at hP
      exact hP
    have hti : topAt kk ys < ys.length := by
      rw [← hlt]
      exact (List.getElem?_eq_some_iff.mp hP').1
    obtain ⟨u, hu', ru⟩ := rv.get (List.getElem?_eq_getElem hti)
    rw [hP'] at hu'
    cases hu'
    refine ⟨ys[topAt kk ys], _, I6, ru, hfin _ _ (fun b o q n => same b o (eN b o q n)) (T2.ext same) (List.getElem?_eq_getElem hti)⟩
end Rep
namespace Rep
open PySem L2
def topS (i : Nat) : Stmt := PySem.Challenge.pw_reprise_k25_steps_judged.main.body.getD i (.Pass ⟨0, 0, 0, 0⟩)
abbrev sCheck_length : Stmt := topS 7
abbrev sCheck_place : Stmt := topS 8
abbrev sCheck_stretch : Stmt := topS 9
abbrev sCheck_sayings : Stmt := topS 10
abbrev sMet : Stmt := topS 12
abbrev sBeside : Stmt := topS 13
abbrev sLeads : Stmt := topS 15
abbrev sMix : Stmt := topS 17
abbrev sRaw : Stmt := topS 18
abbrev sDig : Stmt := topS 19
abbrev s_law_saying : Stmt := topS 20
abbrev s_law_sayings : Stmt := topS 21
abbrev s_law_crowded_song : Stmt := topS 22
abbrev s_law_lays : Stmt := topS 23
abbrev sSame : Stmt := topS 24
abbrev s_law_options : Stmt := topS 25
abbrev s_law_steps : Stmt := topS 26
abbrev sLaw : Stmt := topS 27
end Rep
namespace Rep
open PySem L2
/-! lists of things that lie as tuples -/
structure LL {α : Type} (D : Hp → V → α → Prop) (H : Hp) (vs : List V) (as : List α) : Prop where
  len : vs.length = as.length
  at_ : ∀ (i : Nat) (v : V) (a : α), vs[i]? = some v → as[i]? = some a → D H v a
section
variable {α : Type} {D : Hp → V → α → Prop} {H H' : Hp} {vs ws : List V} {as bs : List α}
theorem LL.nil : LL D H [] ([] : List α) := ⟨rfl, fun i v a h => by simp at h⟩
theorem LL.get (h : LL D H vs as) {i : Nat} {v : V} (e : vs[i]? = some v) : ∃ a, as[i]? = some a ∧ D H v a := by
  have hi : i < as.length := by rw [← h.len]; exact (List.getElem?_eq_some_iff.mp e).1
  exact ⟨as[i], List.getElem?_eq_getElem hi, h.at_ i v _ e (List.getElem?_eq_getElem hi)⟩
theorem LL.get' (h : LL D H vs as) {i : Nat} {a : α} (e : as[i]? = some a) : ∃ v, vs[i]? = some v ∧ D H v a := by
  have hi : i < vs.length := by rw [h.len]; exact (List.getElem?_eq_some_iff.mp e).1
  exact ⟨vs[i], List.getElem?_eq_getElem hi, h.at_ i _ a (List.getElem?_eq_getElem hi) e⟩
theorem LL.mem (h : LL D H vs as) {v : V} (e : v ∈ vs) : ∃ a ∈ as, D H v a := by
  obtain ⟨i, hi⟩ := List.mem_iff_getElem?.mp e
  obtain ⟨a, ha, d⟩ := h.get hi
  exact ⟨a, List.mem_of_getElem? ha, d⟩
theorem LL.imp (h : LL D H vs as) (s : ∀ v a, D H v a → D H' v a) : LL D H' vs as := ⟨h.len, fun i v a h1 h2 => s v a (h.at_ i v a h1 h2)⟩
theorem LL.app (h : LL D H vs as) (k : LL D H ws bs) : LL D H (vs ++ ws) (as ++ bs) := by
  refine ⟨by rw [List.length_append, List.length_append, h.len, k.len], fun i v a h1 h2 => ?_⟩
  by_cases c : i < vs.length
  · rw [List.getElem?_append_left c] at h1
    rw [List.getElem?_append_left (by rw [← h.len]; exact c)] at h2
    exact h.at_ i v a h1 h2
  · rw [List.getElem?_append_right (by omega)] at h1
    rw [List.getElem?_append_right (by rw [← h.len]; omega), ← h.len] at h2
    exact k.at_ _ v a h1 h2
theorem LL.one {v : V} {a : α} (h : D H v a) : LL D H [v] [a] := ⟨rfl, fun i w b h1 h2 => by
  match i, h1, h2 with
  | 0, h1, h2 => cases h1; cases h2; exact h
  | i + 1, h1, _ => simp at h1⟩
theorem LL.snoc (h : LL D H vs as) {v : V} {a : α} (k : D H v a) : LL D H (vs ++ [v]) (as ++ [a]) := h.app (.one k)
theorem LL.take (h : LL D H vs as) (n : Nat) : LL D H (vs.take n) (as.take n) := by
  refine ⟨by rw [List.length_take, List.length_take, h.len], fun i v a h1 h2 => ?_⟩
  rw [List.getElem?_take] at h1 h2
  by_cases c : i < n
  · rw [if_pos c] at h1 h2; exact h.at_ i v a h1 h2
  · rw [if_neg c] at h1; cases h1
theorem LL.erase (h : LL D H vs as) (k : Nat) : LL D H (vs.eraseIdx k) (as.eraseIdx k) := by
  refine ⟨by rw [List.length_eraseIdx, List.length_eraseIdx, h.len], fun i v a h1 h2 => ?_⟩
  rw [List.getElem?_eraseIdx] at h1 h2
  by_cases c : i < k
  · rw [if_pos c] at h1 h2; exact h.at_ i v a h1 h2
  · rw [if_neg c] at h1 h2; exact h.at_ _ v a h1 h2
theorem LL.init (h : LL D H vs as) : LL D H vs.dropLast as.dropLast := by
  rw [List.dropLast_eq_take, List.dropLast_eq_take, ← h.len]
  exact h.take _
theorem LL.rev (h : LL D H vs as) : LL D H vs.reverse as.reverse := by
  refine ⟨by rw [List.length_reverse, List.length_reverse, h.len], fun i v a h1 h2 => ?_⟩
  have hi : i < vs.length := by
    have := (List.getElem?_eq_some_iff.mp h1).1
    rw [List.length_reverse] at this
    exact this
  rw [List.getElem?_reverse hi] at h1
  rw [List.getElem?_reverse (by rw [← h.len]; exact hi), ← h.len] at h2
  exact h.at_ _ v a h1 h2
end
def IsSy (H : Hp) (v : V) (s : Sy) : Prop := ∃ t, v = .ref t ∧ H t = some (.tup [.int s.lo, .int s.hi, .int s.n, .bl s.t])
theorem IsSy.ts {H H' : Hp} (h : TS H H') {v : V} {s : Sy} (k : IsSy H v s) : IsSy H' v s := by
  obtain ⟨t, e, ht⟩ := k
  exact ⟨t, e, h _ _ ht⟩
abbrev SL (H : Hp) (vs : List V) (ss : List Sy) : Prop := LL IsSy H vs ss
theorem SL.ts {H H' : Hp} (h : TS H H') {vs : List V} {ss : List Sy} (k : SL H vs ss) : SL H' vs ss := k.imp fun _ _ z => z.ts h
theorem IsSy.of {H : Hp} {t : Addr} {s : Sy} (h : H t = some (.tup [.int s.lo, .int s.hi, .int s.n, .bl s.t])) : IsSy H (.ref t) s := ⟨t, rfl, h⟩
def q4 (s : Sy) : Int × Int × Int × Bool := (s.lo, s.hi, s.n, s.t)
def ofQ (q : Int × Int × Int × Bool) : Sy := ⟨q.1, q.2.1, q.2.2.1, q.2.2.2⟩
/-- all but tables stay -/
abbrev EX (H H' : Hp) : Prop := LamX.ExtN H H'
theorem EX.of {H H' : Hp} (h : Same H H') : EX H H' := fun b o e _ => h b o e
theorem EX.ts {H H' : Hp} (h : EX H H') : TS H H' := fun t xs e => h t _ e (fun ps z => by cases z)
theorem EX.lst {H H' : Hp} (h : EX H H') {a : Addr} {xs : List V} (e : H a = some (.lst xs)) : H' a = some (.lst xs) := h a _ e (fun ps z => by cases z)
/-! kept_form, kept_forms -/
def oS (H : Hp) (o : Option Sy) (v : V) : Prop := match o with
  | none => v = .non
  | some s => IsSy H v s
theorem oS.ts {H H' : Hp} (h : TS H H') {o : Option Sy} {v : V} (k : oS H o v) : oS H' o v := by
  cases o with
  | none => exact k
  | some s => exact IsSy.ts h k
def Good (e : Int) (s : Sy) : Prop := 0 ≤ s.lo ∧ 0 ≤ s.hi ∧ 1 ≤ s.n ∧ s.lo + s.n ≤ e ∧ s.hi + s.n ≤ e
end Rep
namespace Rep
open PySem L2
def spChkl : Sp := fun vs H Q _ => ∃ e : Int, vs = [.int e] ∧ 0 ≤ e ∧ e < 10 ^ 40 ∧ Q .non H
theorem scChkl : FnScope ["length"] ["length"] (defScope sCheck_length) := ⟨rfl, rfl, rfl, by decide +kernel, rfl, by decide +kernel, by decide +kernel⟩
def spChkp : Sp := fun vs H Q _ => ∃ e x : Int, vs = [.int e, .int x] ∧ 0 ≤ x ∧ x < e ∧ Q .non H
theorem scChkp : FnScope ["length", "place"] ["length", "place"] (defScope sCheck_place) := ⟨rfl, rfl, rfl, by decide +kernel, rfl, by decide +kernel, by decide +kernel⟩
def spChks : Sp := fun vs H Q _ => ∃ e x n : Int, vs = [.int e, .int x, .int n] ∧ 1 ≤ n ∧ 0 ≤ x ∧ x + n ≤ e ∧ Q .non H
theorem scChks : FnScope ["length", "at", "many"] ["length", "at", "many"] (defScope sCheck_stretch) := ⟨rfl, rfl, rfl, by decide +kernel, rfl, by decide +kernel, by decide +kernel⟩
def spChkss (K : PySem.W.Frag) : Sp := fun vs H Q _ => ∃ (e : Int) (a : Addr) (xs : List V) (ss : List Sy), vs = [.int e, .ref a] ∧ SqL K H a xs ∧ SL H xs ss ∧ (∀ s ∈ ss, Good e s) ∧ Q .non H
theorem scChkss : FnScope ["length", "sayings", "one", "other", "many", "turned"] ["length", "sayings"] (defScope sCheck_sayings) := ⟨rfl, rfl, rfl, by decide +kernel, rfl, by decide +kernel, by decide +kernel⟩
section
variable {P : Program} {w : World} {K : PySem.W.Frag} {mg : Str → Option Value} {base : Heap}
theorem ok_chkl {f : Addr} {fd : FuncData} {k : Nat} (F : Fun K "check_length" "check_length" sCheck_length f fd) (mT : ∃ u, mg "TOO_LONG" = some u ∧ RelV (.int (10 ^ 40)) u) : FnOk P w K mg base CX0 (k + 1) f fd ["length"] spChkl := by
  refine F.ok scChkl (fun vs H Q E h => ?_) (fun cdv A outer s H vs Q E hr h => ?_)
  · obtain ⟨e, rfl, _⟩ := h; rfl
  obtain ⟨e, rfl, h0, h1, q⟩ := h
  refine ⟨_, (pss_one (ps_if (PW.pt (pw_or (pt_cmpR op_lt (pv 0) pe_int (nomark _)) (pw_or1 (pt_cmpR op_ge (pv 0) (C8.pe_gc (by rfl) mT) (nomark _))))) (pss_one ps_never) pss_nil)), ?_⟩
  refine ⟨.int e, rfl, _, 0, rfl, rfl, _, rfl, ite2 (fun c => absurd (of_decide_eq_true c) (by omega)) (fun c => ?_)⟩
  refine ⟨.int e, rfl, _, _, rfl, rfl, _, rfl, ite2 (fun c => absurd (of_decide_eq_true c) (by omega)) (fun c => ?_)⟩
  exact q
theorem ok_chkp {f : Addr} {fd : FuncData} {k : Nat} (F : Fun K "check_place" "check_place" sCheck_place f fd) : FnOk P w K mg base CX0 (k + 1) f fd ["length", "place"] spChkp := by
  refine F.ok scChkp (fun vs H Q E h => ?_) (fun cdv A outer s H vs Q E hr h => ?_)
  · obtain ⟨e, x, rfl, _⟩ := h; rfl
  obtain ⟨e, x, rfl, h0, h1, q⟩ := h
  refine ⟨_, (pss_one (ps_if (PW.pt (pw_or (pt_cmpR op_lt (pv 1) pe_int (nomark _)) (pw_or1 (pt_cmpR op_ge (pv 1) (pv 0) (nomark _))))) (pss_one ps_never) pss_nil)), ?_⟩
  refine ⟨.int x, rfl, _, 0, rfl, rfl, _, rfl, ite2 (fun c => absurd (of_decide_eq_true c) (by omega)) (fun c => ?_)⟩
  refine ⟨.int x, rfl, .int e, rfl, _, _, rfl, rfl, _, rfl, ite2 (fun c => absurd (of_decide_eq_true c) (by omega)) (fun c => ?_)⟩
  exact q
theorem ok_chks {f : Addr} {fd : FuncData} {k : Nat} (F : Fun K "check_stretch" "check_stretch" sCheck_stretch f fd) : FnOk P w K mg base CX0 (k + 1) f fd ["length", "at", "many"] spChks := by
  refine F.ok scChks (fun vs H Q E h => ?_) (fun cdv A outer s H vs Q E hr h => ?_)
  · obtain ⟨e, x, n, rfl, _⟩ := h; rfl
  obtain ⟨e, x, n, rfl, h0, h1, h2, q⟩ := h
  refine ⟨_, (pss_one (ps_if (PW.pt (pw_or (pt_cmpR op_lt (pv 2) pe_int (nomark _)) (pw_or (pt_cmpR op_lt (pv 1) pe_int (nomark _)) (pw_or1 (pt_cmpR op_gt (pe_op op_add (pv 1) (pv 2)) (pv 0) (nomark _)))))) (pss_one ps_never) pss_nil)), ?_⟩
  refine ⟨.int n, rfl, _, 1, rfl, rfl, _, rfl, ite2 (fun c => absurd (of_decide_eq_true c) (by omega)) (fun c => ?_)⟩
  refine ⟨.int x, rfl, _, 0, rfl, rfl, _, rfl, ite2 (fun c => absurd (of_decide_eq_true c) (by omega)) (fun c => ?_)⟩
  refine ⟨.int x, rfl, .int n, rfl, _, _, rfl, rfl, .int e, rfl, _, _, rfl, rfl, _, rfl, ite2 (fun c => absurd (of_decide_eq_true c) (by omega)) (fun c => ?_)⟩
  exact q
theorem ok_chkss {f fS : Addr} {fd fdS : FuncData} {k : Nat} (F : Fun K "check_sayings" "check_sayings" sCheck_sayings f fd) (GS : FnOk P w K mg base CX0 k fS fdS ["length", "at", "many"] spChks) (kS : PySem.W.keepIn K (.ref fS) = true) (bS : Binds K fdS ["length", "at", "many"] []) (mS_ : mg "check_stretch" = some (.ref fS)) : FnOk P w K mg base CX0 (k + 1) f fd ["length", "sayings"] (spChkss K) := by
  refine F.ok scChkss (fun vs H Q E h => ?_) (fun cdv A outer s H vs Q E hr h => ?_)
  · obtain ⟨e, a, xs, ss, rfl, _⟩ := h; rfl
  obtain ⟨e, a, xs, ss, rfl, hX, sl, gd, q⟩ := h
  refine ⟨_, (pss_one (ps_for PassesOwn.never rfl (pi_list (pv 1)) (pg_tup rfl (pgs_cons (pg_name (i := 2) scChkss.nd rfl (.inl rfl)) (pgs_cons (pg_name (i := 3) scChkss.nd rfl (.inl rfl)) (pgs_cons (pg_name (i := 4) scChkss.nd rfl (.inl rfl)) (pgs_cons (pg_name (i := 5) scChkss.nd rfl (.inl rfl)) pgs_nil)))))
      (pss_cons (ps_expr (pe_call GS hr (by rfl) mS_ kS bS .nil pass0 (pa_cons (pv 0) (pa_cons (pv 2) (pa_cons (pv 4) pa_nil)))))
    (pss_one (ps_expr (pe_call GS hr (by rfl) mS_ kS bS .nil pass0 (pa_cons (pv 0) (pa_cons (pv 3) (pa_cons (pv 4) pa_nil))))))))), ?_⟩
  refine ⟨.ref a, rfl, a, rfl, ⟨_, hX⟩, for_list (xs := xs) (fun i σ H2 => H2 = H ∧ ∃ y2 y3 y4 y5, σ = [some (.int e), some (.ref a), y2, y3, y4, y5]) ⟨rfl, _, _, _, _, rfl⟩ (fun i σ H2 _ h => by rw [h.1]; exact hX) ?_ ?_⟩
  · rintro i y σ H2 hi ⟨rfl, y2, y3, y4, y5, rfl⟩
    obtain ⟨u, hu, t, rfl, ht⟩ := sl.get hi
    obtain ⟨g1, g2, g3, g4, g5⟩ := gd u (List.mem_of_getElem? hu)
    refine ⟨t, _, rfl, .inl (.inl ht), rfl, _, _, rfl, _, _, rfl, _, _, rfl, _, _, rfl, rfl, ?_⟩
    refine ⟨.int e, rfl, .int u.lo, rfl, .int u.n, rfl, e, u.lo, u.n, rfl, g3, g1, g4, ?_⟩
    refine ⟨.int e, rfl, .int u.hi, rfl, .int u.n, rfl, e, u.hi, u.n, rfl, g3, g2, g5, ?_⟩
    exact ⟨rfl, _, _, _, _, rfl⟩
  · rintro σ H2 ⟨rfl, y2, y3, y4, y5, rfl⟩
    exact q
end
end Rep
namespace Rep
open PySem L2
def metF (s : Sy) (i : Int) : Int := if s.t = true then s.hi + s.n - 1 - i else s.hi + i
def turnS (s : Sy) : Sy := ⟨s.hi, s.lo, s.n, s.t⟩
def besF (s : Sy) (p : Int) : List Int := (if s.lo ≤ p ∧ p < s.lo + s.n then [metF s (p - s.lo)] else []) ++ (if s.hi ≤ p ∧ p < s.hi + s.n then [metF (turnS s) (p - s.hi)] else [])
def leadsF (ss : List Sy) : Int → List Pr → Option Int
  | p, [] => some p
  | p, st :: r => if 0 ≤ st.1 ∧ ∃ s, ss[st.1.toNat]? = some s ∧ st.2 ∈ besF s p then leadsF ss st.2 r else none
def spMet : Sp := fun vs H Q _ => ∃ (v : V) (s : Sy) (i : Int), vs = [v, .int i] ∧ IsSy H v s ∧ Q (.int (metF s i)) H
theorem scMet : FnScope ["saying", "i", "one", "other", "many", "turned"] ["saying", "i"] (defScope sMet) := ⟨rfl, rfl, rfl, by decide +kernel, rfl, by decide +kernel, by decide +kernel⟩
def spBes : Sp := fun vs H Q _ => ∃ (v : V) (s : Sy) (p : Int), vs = [v, .int p] ∧ IsSy H v s ∧ ∀ H' l, Same H H' → H l = none → H' l = some (.lst ((besF s p).map V.int)) → Q (.ref l) H'
theorem scBes : FnScope ["saying", "place", "one", "other", "many", "turned", "out"] ["saying", "place"] (defScope sBeside) := ⟨rfl, rfl, rfl, by decide +kernel, rfl, by decide +kernel, by decide +kernel⟩
structure TBes (Pg : Program) (w : World) (K : PySem.W.Frag) (mg : Str → Option Value) (base : Heap) (k : Nat) (fM : Addr) (fdM : FuncData) : Prop where
  gM : FnOk Pg w K mg base CX0 k fM fdM ["saying", "i"] spMet
  bM : Binds K fdM ["saying", "i"] []
  kM : PySem.W.keepIn K (.ref fM) = true
  mM : mg "met" = some (.ref fM)
section
variable {Pg : Program} {w : World} {K : PySem.W.Frag} {mg : Str → Option Value} {base : Heap}
theorem ok_met {f : Addr} {fd : FuncData} {k : Nat} (F : Fun K "met" "met" sMet f fd) : FnOk Pg w K mg base CX0 (k + 1) f fd ["saying", "i"] spMet := by
  refine F.ok scMet (fun vs H Q E h => ?_) (fun cdv A outer s H vs Q E hr h => ?_)
  · obtain ⟨v, s, i, rfl, _⟩ := h; rfl
  obtain ⟨v, s, i, rfl, ⟨t, rfl, ht⟩, q⟩ := h
  refine ⟨_, (pss_cons (ps_asg (pv 0) (pg_tup rfl (pgs_cons (pg_name (i := 2) scMet.nd rfl (.inl rfl)) (pgs_cons (pg_name (i := 3) scMet.nd rfl (.inl rfl)) (pgs_cons (pg_name (i := 4) scMet.nd rfl (.inl rfl)) (pgs_cons (pg_name (i := 5) scMet.nd rfl (.inl rfl)) pgs_nil))))))
    (pss_one (ps_ret (pe_ifExp (pt_val (pv 5)) (pe_op op_sub (pe_op op_sub (pe_op op_add (pv 3) (pv 4)) pe_int) (pv 1)) (pe_op op_add (pv 3) (pv 1)))))), ?_⟩
  refine ⟨.ref t, rfl, t, _, rfl, .inl (.inl ht), rfl, _, _, rfl, _, _, rfl, _, _, rfl, _, _, rfl, rfl, ?_⟩
  unfold metF at q
  refine ⟨.bl s.t, rfl, s.t, rfl, ?_⟩
  cases c : s.t with
  | true =>
    rw [if_pos c] at q
    refine iteT ?_
    exact ⟨.int s.hi, rfl, .int s.n, rfl, _, _, rfl, rfl, _, 1, rfl, rfl, .int i, rfl, _, _, rfl, rfl, q⟩
  | false =>
    rw [if_neg (by rw [c]; decide)] at q
    refine iteF ?_
    exact ⟨.int s.hi, rfl, .int i, rfl, _, _, rfl, rfl, q⟩
theorem ok_bes {f fM : Addr} {fd fdM : FuncData} {k : Nat} (F : Fun K "beside" "beside" sBeside f fd) (T : TBes Pg w K mg base k fM fdM) : FnOk Pg w K mg base CX0 (k + 1) f fd ["saying", "place"] spBes := by
  refine F.ok scBes (fun vs H Q E h => ?_) (fun cdv A outer s H vs Q E hr h => ?_)
  · obtain ⟨v, s, p, rfl, _⟩ := h; rfl
  obtain ⟨v, s, p, rfl, ⟨t, rfl, ht⟩, q⟩ := h
  refine ⟨_, (pss_cons (ps_asg (pv 0) (pg_tup rfl (pgs_cons (pg_name (i := 2) scBes.nd rfl (.inl rfl)) (pgs_cons (pg_name (i := 3) scBes.nd rfl (.inl rfl)) (pgs_cons (pg_name (i := 4) scBes.nd rfl (.inl rfl)) (pgs_cons (pg_name (i := 5) scBes.nd rfl (.inl rfl)) pgs_nil))))))
    (pss_cons (ps_set (i := 6) scBes.nd rfl (.inl rfl) (pe_lst pa_nil))
    (C8.pss_cut (ps_if (pt_chain op_le op_lt (pv 2) (pv 1) (pe_op op_add (pv 2) (pv 4))) (pss_one (ps_expr (pe_bm PySem.F.plainAttrs_list PySem.F.slot_list_append PySem.F.type_list_append mt_append (pv 6) (pa_cons (pe_call T.gM hr (by rfl) T.mM T.kM T.bM .nil pass0 (pa_cons (pv 0) (pa_cons (pe_op op_sub (pv 1) (pv 2)) pa_nil))) pa_nil)))) pss_nil)
    (pss_cons (ps_if (pt_chain op_le op_lt (pv 3) (pv 1) (pe_op op_add (pv 3) (pv 4))) (pss_one (ps_expr (pe_bm PySem.F.plainAttrs_list PySem.F.slot_list_append PySem.F.type_list_append mt_append (pv 6) (pa_cons (pe_call T.gM hr (by rfl) T.mM T.kM T.bM .nil pass0 (pa_cons (pe_tup (pa_cons (pv 3) (pa_cons (pv 2) (pa_cons (pv 4) (pa_cons (pv 5) pa_nil))))) (pa_cons (pe_op op_sub (pv 1) (pv 3)) pa_nil))) pa_nil)))) pss_nil)
    (pss_one (ps_ret (pv 6))))))), ?_⟩
  refine ⟨.ref t, rfl, t, _, rfl, .inl (.inl ht), rfl, _, _, rfl, _, _, rfl, _, _, rfl, _, _, rfl, rfl, ?_⟩
  refine ⟨(by show 0 ≤ sizeLine; decide), fun o no => ?_⟩
  have s1 := same_upd (o := .lst []) no
  refine ⟨fun σ' H' => σ' = [some (.ref t), some (.int p), some (.int s.lo), some (.int s.hi), some (.int s.n), some (.bl s.t), some (.ref o)] ∧ Same H H' ∧ H' o = some (.lst ((if s.lo ≤ p ∧ p < s.lo + s.n then [metF s (p - s.lo)] else []).map V.int)), ?_, ?_⟩
  · have eo : upd H o (.lst []) o = some (.lst []) := upd_same
    generalize upd H o (.lst []) = H1 at s1 eo ⊢
    refine ⟨.int s.lo, rfl, .int p, rfl, _, _, rfl, rfl, _, rfl, ite2 (fun c => ?_) (fun c => ?_)⟩
    · have c := of_decide_eq_true c
      refine ⟨.int s.lo, rfl, .int s.n, rfl, _, _, rfl, rfl, _, _, rfl, rfl, _, rfl, ite2 (fun d => ?_) (fun d => ?_)⟩
      · have d := of_decide_eq_true d
        refine ⟨.ref o, rfl, .inl ⟨rfl, _, .inl (.inl eo)⟩, .ref t, rfl, .int p, rfl, .int s.lo, rfl, _, _, rfl, rfl, .ref t, s, p - s.lo, rfl, ⟨t, rfl, s1 _ _ ht⟩, ?_⟩
        refine ⟨o, _, _, rfl, rfl, eo, (by show 0 < sizeLine; decide), ?_⟩
        rw [if_pos ⟨c, d⟩]
        exact ⟨rfl, same_over s1 no, upd_same⟩
      · have d : ¬ p < s.lo + s.n := fun z => d (decide_eq_true z)
        rw [if_neg fun z => d z.2]
        exact ⟨rfl, s1, eo⟩
    · have c : ¬ s.lo ≤ p := fun z => c (decide_eq_true z)
      refine ⟨false, rfl, ?_⟩
      refine iteF ?_
      rw [if_neg fun z => c z.1]
      exact ⟨rfl, s1, eo⟩
  rintro σ' H2 ⟨rfl, s2, eo⟩
  have ht2 := s2 _ _ ht
  have eb : (besF s p) = (if s.lo ≤ p ∧ p < s.lo + s.n then [metF s (p - s.lo)] else []) ++ (if s.hi ≤ p ∧ p < s.hi + s.n then [metF (turnS s) (p - s.hi)] else []) := rfl
  have hl : (if s.lo ≤ p ∧ p < s.lo + s.n then [metF s (p - s.lo)] else ([] : List Int)).length ≤ 1 := by split <;> simp
  generalize (if s.lo ≤ p ∧ p < s.lo + s.n then [metF s (p - s.lo)] else ([] : List Int)) = l1 at eo eb hl
  refine ⟨.int s.hi, rfl, .int p, rfl, _, _, rfl, rfl, _, rfl, ite2 (fun c => ?_) (fun c => ?_)⟩
  · have c := of_decide_eq_true c
    refine ⟨.int s.hi, rfl, .int s.n, rfl, _, _, rfl, rfl, _, _, rfl, rfl, _, rfl, ite2 (fun d => ?_) (fun d => ?_)⟩
    · have d := of_decide_eq_true d
      refine ⟨.ref o, rfl, .inl ⟨rfl, _, .inl (.inl eo)⟩, .int s.hi, rfl, .int s.lo, rfl, .int s.n, rfl, .bl s.t, rfl, (by show 4 ≤ sizeLine; decide), fun t2 nt2 => ?_⟩
      have s3 := same_upd (o := .tup [.int s.hi, .int s.lo, .int s.n, .bl s.t]) nt2
      refine ⟨.int p, rfl, .int s.hi, rfl, _, _, rfl, rfl, .ref t2, turnS s, p - s.hi, rfl, IsSy.of upd_same, ?_⟩
      refine ⟨o, _, _, rfl, rfl, s3 _ _ eo, by rw [List.length_map]; exact Nat.lt_of_le_of_lt hl (by decide), ?_⟩
      refine ⟨.ref o, rfl, q _ o (same_over (s2.trans s3) no) no ?_⟩
      rw [eb, if_pos ⟨c, d⟩, upd_same, List.map_append]; rfl
    · have d : ¬ p < s.hi + s.n := fun z => d (decide_eq_true z)
      refine ⟨.ref o, rfl, q _ o s2 no ?_⟩
      rw [eb, if_neg fun z => d z.2, List.append_nil]; exact eo
  · have c : ¬ s.hi ≤ p := fun z => c (decide_eq_true z)
    refine ⟨false, rfl, ?_⟩
    refine iteF ?_
    refine ⟨.ref o, rfl, q _ o s2 no ?_⟩
    rw [eb, if_neg fun z => c z.1, List.append_nil]; exact eo
end
theorem in_ints (x : Int) : ∀ l : List Int, inV (.int x) (l.map V.int) = decide (x ∈ l)
  | [] => rfl
  | y :: r => by
    show (eqV (.int y) (.int x) || inV (.int x) (r.map V.int)) = _
    rw [in_ints x r]
    show ((y == x) || decide (x ∈ r)) = decide (x ∈ y :: r)
    by_cases c : x = y
    · subst c
      simp
    · have c' : (y == x) = false := by simp; exact fun z => c z.symm
      rw [c', Bool.false_or, decide_eq_decide, List.mem_cons]
      exact ⟨.inr, fun h => h.resolve_left c⟩
theorem flat_ints : ∀ l : List Int, (l.map V.int).all flatV = true
  | [] => rfl
  | _ :: r => by
    show (true && (r.map V.int).all flatV) = true
    rw [flat_ints r]; rfl
def oV : Option Int → V
  | none => .non
  | some z => .int z
def spLds (K : PySem.W.Frag) : Sp := fun vs H Q _ => ∃ (e x : Int) (a c : Addr) (xs ys : List V) (ss : List Sy) (sts : List Pr), vs = [.int e, .ref a, .int x, .ref c] ∧ SqL K H a xs ∧ SL H xs ss ∧ (∀ s ∈ ss, Good e s) ∧ 0 ≤ x ∧ x < e ∧ e < 10 ^ 40 ∧ SqL K H c ys ∧ PL H ys sts ∧
  ∀ H', Same H H' → Q (oV (leadsF ss x sts)) H'
theorem scLds : FnScope ["length", "sayings", "one", "steps", "place", "k", "to"] ["length", "sayings", "one", "steps"] (defScope sLeads) := ⟨rfl, rfl, rfl, by decide +kernel, rfl, by decide +kernel, by decide +kernel⟩
structure TLds (Pg : Program) (w : World) (K : PySem.W.Frag) (mg : Str → Option Value) (base : Heap) (k : Nat) (fL fS fP fB : Addr) (fdL fdS fdP fdB : FuncData) : Prop where
  gL : FnOk Pg w K mg base CX0 k fL fdL ["length"] spChkl
  bL : Binds K fdL ["length"] []
  kL : PySem.W.keepIn K (.ref fL) = true
  mL : mg "check_length" = some (.ref fL)
  gS : FnOk Pg w K mg base CX0 k fS fdS ["length", "sayings"] (spChkss K)
  bS : Binds K fdS ["length", "sayings"] []
  kS : PySem.W.keepIn K (.ref fS) = true
  mS : mg "check_sayings" = some (.ref fS)
  gP : FnOk Pg w K mg base CX0 k fP fdP ["length", "place"] spChkp
  bP : Binds K fdP ["length", "place"] []
  kP : PySem.W.keepIn K (.ref fP) = true
  mP : mg "check_place" = some (.ref fP)
  gB : FnOk Pg w K mg base CX0 k fB fdB ["saying", "place"] spBes
  bB : Binds K fdB ["saying", "place"] []
  kB : PySem.W.keepIn K (.ref fB) = true
  mB : mg "beside" = some (.ref fB)
  ml : mg "len" = none
section
variable {Pg : Program} {w : World} {K : PySem.W.Frag} {mg : Str → Option Value} {base : Heap}
theorem ok_lds {f fL fS fP fB : Addr} {fd fdL fdS fdP fdB : FuncData} {k : Nat} (F : Fun K "leads" "leads" sLeads f fd) (T : TLds Pg w K mg base k fL fS fP fB fdL fdS fdP fdB) : FnOk Pg w K mg base CX0 (k + 1) f fd ["length", "sayings", "one", "steps"] (spLds K) := by
  refine F.ok scLds (fun vs H Q E h => ?_) (fun cdv A outer s H vs Q E hr h => ?_)
  · obtain ⟨e, x, a, c, xs, ys, ss, sts, rfl, _⟩ := h; rfl
  obtain ⟨e, x, a, c, xs, ys, ss, sts, rfl, hX, sl, gd, hx0, hx1, he, hY, pl, q⟩ := h
  refine ⟨_, (pss_cons (ps_expr (pe_call T.gL hr (by rfl) T.mL T.kL T.bL .nil pass0 (pa_cons (pv 0) pa_nil)))
    (pss_cons (ps_expr (pe_call T.gS hr (by rfl) T.mS T.kS T.bS .nil pass0 (pa_cons (pv 0) (pa_cons (pv 1) pa_nil))))
    (pss_cons (ps_expr (pe_call T.gP hr (by rfl) T.mP T.kP T.bP .nil pass0 (pa_cons (pv 0) (pa_cons (pv 2) pa_nil))))
    (pss_cons (ps_set (i := 4) scLds.nd rfl (.inl rfl) (pv 2))
    (pss_cons (ps_for PassesOwn.never rfl (pi_list (pv 3)) (pg_tup rfl (pgs_cons (pg_name (i := 5) scLds.nd rfl (.inl rfl)) (pgs_cons (pg_name (i := 6) scLds.nd rfl (.inl rfl)) pgs_nil)))
      (pss_cons (ps_if (PW.pt (pw_or (pt_cmpR op_lt (pv 5) pe_int (nomark _)) (pw_or (pt_cmpR op_ge (pv 5) (pe_callB call_len_seq (by rfl) T.ml PySem.boot_len (pa_cons (pv 1) pa_nil)) (nomark _)) (pw_or1 (pt_cmpR op_notIn_seq (pv 6) (pe_call T.gB hr (by rfl) T.mB T.kB T.bB .nil pass0 (pa_cons (pe_ix ix_list (pv 1) (pv 5) (fun _ _ => rfl)) (pa_cons (pv 4) pa_nil))) (by rfl)))))) (pss_one (ps_ret pe_non)) pss_nil)
    (pss_one (ps_set (i := 4) scLds.nd rfl (.inl rfl) (pv 6)))))
    (pss_one (ps_ret (pv 4)))))))), ?_⟩
  refine ⟨.int e, rfl, e, rfl, by omega, he, ?_⟩
  refine ⟨.int e, rfl, .ref a, rfl, e, a, xs, ss, rfl, hX, sl, gd, ?_⟩
  refine ⟨.int e, rfl, .int x, rfl, e, x, rfl, hx0, hx1, ?_⟩
  refine ⟨.int x, rfl, ?_⟩
  refine ⟨.ref c, rfl, c, rfl, ⟨_, hY⟩, for_list (xs := ys) (fun i σ H3 => ∃ p y5 y6, σ = [some (.int e), some (.ref a), some (.int x), some (.ref c), some (.int p), y5, y6] ∧ Same H H3 ∧ leadsF ss x sts = leadsF ss p (sts.drop i)) ⟨x, none, none, rfl, Same.refl _, rfl⟩ (fun i σ H3 _ hP => ?_) (fun i v σ H3 hv hP => ?_) (fun σ H3 hP => ?_)⟩
  · obtain ⟨_, _, _, _, sm, _⟩ := hP
    exact sm.seq hY
  · obtain ⟨p, y5, y6, rfl, sm, el⟩ := hP
    obtain ⟨tp, st, rfl, htp, hst⟩ := pl.get hv
    obtain ⟨hi, est⟩ := List.getElem?_eq_some_iff.mp hst
    have ed : sts.drop i = st :: sts.drop (i + 1) := by rw [List.drop_eq_getElem_cons hi, est]
    rw [ed] at el
    have es : leadsF ss p (st :: sts.drop (i + 1)) = if 0 ≤ st.1 ∧ ∃ s, ss[st.1.toNat]? = some s ∧ st.2 ∈ besF s p then leadsF ss st.2 (sts.drop (i + 1)) else none := rfl
    refine ⟨tp, [.int st.1, .int st.2], rfl, .inl (.inl (sm _ _ htp)), rfl, _, _, rfl, _, _, rfl, rfl, ?_⟩
    refine ⟨.int st.1, rfl, _, 0, rfl, rfl, _, rfl, ite2 (fun c1 => ?_) (fun c1 => ?_)⟩
    · have c1 := of_decide_eq_true c1
      refine iteT ?_
      rw [el, es, if_neg (fun z => by have := z.1; omega)] at q
      exact q H3 sm
    have c1 : ¬ st.1 < 0 := fun z => c1 (decide_eq_true z)
    refine ⟨.int st.1, rfl, .ref a, rfl, a, xs, rfl, .inl (sm.seq hX), _, _, rfl, rfl, _, rfl, ite2 (fun c2 => ?_) (fun c2 => ?_)⟩
    · have c2 : st.1 ≥ (xs.length : Int) := of_decide_eq_true c2
      refine iteT ?_
      rw [el, es, if_neg (fun ⟨_, s, z, _⟩ => by
        have := (List.getElem?_eq_some_iff.mp z).1
        rw [sl.len] at c2
        omega)] at q
      exact q H3 sm
    have c2 : ¬ st.1 ≥ (xs.length : Int) := fun z => c2 (decide_eq_true z)
    obtain ⟨j, hj⟩ : ∃ j : Nat, st.1 = (j : Int) := ⟨st.1.toNat, by omega⟩
    have hjx : j < xs.length := by omega
    have gx : xs[j]? = some xs[j] := List.getElem?_eq_getElem hjx
    generalize xs[j] = sv at gx
    obtain ⟨s, hs, is_⟩ := sl.get gx
    refine ⟨.int st.2, rfl, .ref a, rfl, .int st.1, rfl, a, xs, st.1, sv, rfl, rfl, sm.seq hX, by rw [hj]; exact atI_nat gx, .int p, rfl, sv, s, p, rfl, is_.ts (TS.of sm), fun H4 l s4 nl el4 => ?_⟩
    refine ⟨l, _, rfl, .inl (.inl (.inl el4)), rfl, flat_ints _, _, rfl, ?_⟩
    show if (!inV (.int st.2) ((besF s p).map V.int)) = true then _ else _
    rw [in_ints]
    by_cases c3 : st.2 ∈ besF s p
    · rw [decide_eq_true c3]
      refine iteF ?_
      refine ⟨.int st.2, rfl, st.2, _, _, rfl, sm.trans s4, ?_⟩
      rw [el, es, if_pos ⟨by omega, s, by rw [hj, Int.toNat_natCast]; exact hs, c3⟩]
    · rw [decide_eq_false c3]
      refine iteT ?_
      rw [el, es, if_neg (fun ⟨_, s', z, w⟩ => by
        rw [hj, Int.toNat_natCast, hs] at z
        cases z
        exact c3 w)] at q
      exact q H4 (sm.trans s4)
  · obtain ⟨p, y5, y6, rfl, sm, el⟩ := hP
    rw [pl.len, List.drop_length] at el
    rw [el] at q
    exact ⟨.int p, rfl, q H3 sm⟩
end
end Rep
namespace Rep
open PySem L2
def hitP (s : Sy) (h to : Int) (p : Pr) : Prop := 0 ≤ h - p.1 ∧ h - p.1 < s.n ∧ to = p.2 + (if s.t = true then s.n - 1 - (h - p.1) else h - p.1)
theorem mem_bes {s : Sy} {h to : Int} : to ∈ besF s h ↔ hitP s h to (s.lo, s.hi) ∨ hitP s h to (s.hi, s.lo) := by
  unfold besF hitP metF turnS
  rw [List.mem_append]
  cases s.t with
  | true =>
    simp only [if_true]
    refine or_congr ?_ ?_
    · split
      · rw [List.mem_singleton]; constructor
        · intro z; exact ⟨by omega, by omega, by omega⟩
        · intro z; omega
      · constructor
        · intro z; cases z
        · intro z; omega
    · split
      · rw [List.mem_singleton]; constructor
        · intro z; exact ⟨by omega, by omega, by omega⟩
        · intro z; omega
      · constructor
        · intro z; cases z
        · intro z; omega
  | false =>
    simp only [Bool.false_eq_true, if_false]
    refine or_congr ?_ ?_
    · split
      · rw [List.mem_singleton]; constructor
        · intro z; exact ⟨by omega, by omega, by omega⟩
        · intro z; omega
      · constructor
        · intro z; cases z
        · intro z; omega
    · split
      · rw [List.mem_singleton]; constructor
        · intro z; exact ⟨by omega, by omega, by omega⟩
        · intro z; omega
      · constructor
        · intro z; cases z
        · intro z; omega
def spLay : Sp := fun vs H Q _ => ∃ (v : V) (s : Sy) (h to : Int), vs = [v, .int h, .int to] ∧ IsSy H v s ∧ ∀ H', Same H H' → Q (.bl (decide (to ∈ besF s h))) H'
theorem scLay : FnScope ["_law_saying_here", "_law_here", "_law_to", "_law_one", "_law_other", "_law_many", "_law_turned", "_law_start", "_law_goal", "_law_i"] ["_law_saying_here", "_law_here", "_law_to"] (defScope s_law_lays) := ⟨rfl, rfl, rfl, by decide +kernel, rfl, by decide +kernel, by decide +kernel⟩
section
variable {Pg : Program} {w : World} {K : PySem.W.Frag} {mg : Str → Option Value} {base : Heap}
theorem ok_lay {f : Addr} {fd : FuncData} {k : Nat} (F : Fun K "_law_lays" "_law_lays" s_law_lays f fd) : FnOk Pg w K mg base CX0 (k + 1) f fd ["_law_saying_here", "_law_here", "_law_to"] spLay := by
  refine F.ok scLay (fun vs H Q E h => ?_) (fun cdv A outer s H vs Q E hr h => ?_)
  · obtain ⟨v, s, h, to, rfl, _⟩ := h; rfl
  obtain ⟨v, s, h, to, rfl, ⟨t, rfl, ht⟩, q⟩ := h
  refine ⟨_, (pss_cons (ps_asg (pv 0) (pg_tup rfl (pgs_cons (pg_name (i := 3) scLay.nd rfl (.inl rfl)) (pgs_cons (pg_name (i := 4) scLay.nd rfl (.inl rfl)) (pgs_cons (pg_name (i := 5) scLay.nd rfl (.inl rfl)) (pgs_cons (pg_name (i := 6) scLay.nd rfl (.inl rfl)) pgs_nil))))))
    (pss_cons (ps_for PassesOwn.never rfl (pi_tup (pe_tup (pa_cons (pe_tup (pa_cons (pv 3) (pa_cons (pv 4) pa_nil))) (pa_cons (pe_tup (pa_cons (pv 4) (pa_cons (pv 3) pa_nil))) pa_nil)))) (pg_tup rfl (pgs_cons (pg_name (i := 7) scLay.nd rfl (.inl rfl)) (pgs_cons (pg_name (i := 8) scLay.nd rfl (.inl rfl)) pgs_nil)))
      (pss_cons (ps_set (i := 9) scLay.nd rfl (.inl rfl) (pe_op op_sub (pv 1) (pv 7)))
    (pss_one (ps_if (PW.pt (pw_and (pt_chain op_le op_lt pe_int (pv 9) (pv 5)) (pw_and1 (pt_cmpR op_eq (pv 2) (pe_op op_add (pv 8) (pe_ifExp (pt_val (pv 6)) (pe_op op_sub (pe_op op_sub (pv 5) pe_int) (pv 9)) (pv 9))) (nomark _))))) (pss_one (ps_ret pe_bl)) pss_nil))))
    (pss_one (ps_ret pe_bl)))), ?_⟩
  refine ⟨.ref t, rfl, t, _, rfl, .inl (.inl ht), rfl, _, _, rfl, _, _, rfl, _, _, rfl, _, _, rfl, rfl, ?_⟩
  refine ⟨.int s.lo, rfl, .int s.hi, rfl, (by show 2 ≤ sizeLine; decide), fun u0 nu0 => ?_⟩
  have q0 := same_upd (o := .tup [.int s.lo, .int s.hi]) nu0
  have P0 := (PL.nil (H := upd H u0 (.tup [.int s.lo, .int s.hi]))).snoc (a := s.lo) (b := s.hi) upd_same
  refine ⟨.int s.hi, rfl, .int s.lo, rfl, (by show 2 ≤ sizeLine; decide), fun u1 nu1 => ?_⟩
  have q1 := same_upd (o := .tup [.int s.hi, .int s.lo]) nu1
  have P1 := (PL.ts (TS.of q1) P0).snoc (a := s.hi) (b := s.lo) upd_same
  refine ⟨(by show 2 ≤ sizeLine; decide), fun u2 nu2 => ?_⟩
  have q2 := same_upd (o := .tup [.ref u0, .ref u1]) nu2
  have sU := q0.trans (q1.trans q2)
  have P2 := PL.ts (TS.of q2) P1
  generalize eU : upd (upd (upd H u0 _) u1 _) u2 _ = HU at P2 sU
  have zU : HU u2 = some (.tup [.ref u0, .ref u1]) := by rw [← eU]; exact upd_same
  have P2 : PL HU [.ref u0, .ref u1] [(s.lo, s.hi), (s.hi, s.lo)] := P2
  refine ⟨u2, rfl, ⟨_, .inl (.inl zU)⟩, for_tup (xs := [.ref u0, .ref u1]) (fun j σ H3 => ∃ y7 y8 y9, σ = [some (.ref t), some (.int h), some (.int to), some (.int s.lo), some (.int s.hi), some (.int s.n), some (.bl s.t), y7, y8, y9] ∧ H3 = HU ∧ ∀ k < j, ∀ p, ([(s.lo, s.hi), (s.hi, s.lo)] : List Pr)[k]? = some p → ¬ hitP s h to p) ⟨none, none, none, rfl, rfl, fun k hk => absurd hk (Nat.not_lt_zero _)⟩ (fun j σ H3 _ hP => ?_) (fun j v σ H3 hv hP => ?_) (fun σ H3 hP => ?_)⟩
  · obtain ⟨_, _, _, _, rfl, _⟩ := hP
    exact .inl (.inl zU)
  · obtain ⟨y7, y8, y9, rfl, rfl, no⟩ := hP
    obtain ⟨tp, p, rfl, htp, hp⟩ := P2.get hv
    have goOn : ¬ hitP s h to p → ∀ k < j + 1, ∀ p', ([(s.lo, s.hi), (s.hi, s.lo)] : List Pr)[k]? = some p' → ¬ hitP s h to p' := fun hn k hk p' hp' => by
      by_cases ek : k = j
      · subst ek; rw [hp] at hp'; cases hp'; exact hn
      · exact no k (by omega) p' hp'
    refine ⟨tp, [.int p.1, .int p.2], rfl, .inl (.inl htp), rfl, _, _, rfl, _, _, rfl, rfl, ?_⟩
    refine ⟨.int h, rfl, .int p.1, rfl, _, _, rfl, rfl, ?_⟩
    refine ⟨.int (h - p.1), rfl, _, _, rfl, rfl, _, rfl, ite2 (fun c => ?_) (fun c => ?_)⟩
    · have c : 0 ≤ h - p.1 := of_decide_eq_true c
      refine ⟨.int s.n, rfl, _, _, rfl, rfl, _, rfl, ite2 (fun d => ?_) (fun d => ?_)⟩
      · have d : h - p.1 < s.n := of_decide_eq_true d
        refine ⟨.int to, rfl, .int p.2, rfl, .bl s.t, rfl, s.t, rfl, ?_⟩
        have fin : ∀ g : Int, g = (if s.t = true then s.n - 1 - (h - p.1) else h - p.1) → (decide (V.int to = V.int (p.2 + g)) = true ↔ hitP s h to p) := fun g eg => by
          rw [decide_eq_true_iff]
          unfold hitP
          rw [← eg]
          exact ⟨fun z => ⟨c, d, V.int.inj z⟩, fun z => by rw [z.2.2]⟩
        have hit : hitP s h to p → to ∈ besF s h := fun z => by
          rw [mem_bes]
          have hm : p ∈ ([(s.lo, s.hi), (s.hi, s.lo)] : List Pr) := List.mem_of_getElem? hp
          rcases List.mem_cons.mp hm with e | e
          · rw [e] at z; exact .inl z
          · rw [List.mem_singleton.mp e] at z; exact .inr z
        cases ct : s.t with
        | true =>
          refine iteT ?_
          refine ⟨.int s.n, rfl, _, 1, rfl, rfl, .int (h - p.1), rfl, _, _, rfl, rfl, _, _, rfl, rfl, rfl, _, rfl, ite2 (fun g => ?_) (fun g => ?_)⟩
          · have := hit ((fin _ (by rw [ct]; rfl)).mp g)
            rw [decide_eq_true this] at q
            exact q _ sU
          · exact ⟨_, _, _, rfl, rfl, goOn fun z => g ((fin _ (by rw [ct]; rfl)).mpr z)⟩
        | false =>
          refine iteF ?_
          refine ⟨.int (h - p.1), rfl, _, _, rfl, rfl, rfl, _, rfl, ite2 (fun g => ?_) (fun g => ?_)⟩
          · have := hit ((fin _ (by rw [ct]; rfl)).mp g)
            rw [decide_eq_true this] at q
            exact q _ sU
          · exact ⟨_, _, _, rfl, rfl, goOn fun z => g ((fin _ (by rw [ct]; rfl)).mpr z)⟩
      · have d : ¬ h - p.1 < s.n := fun z => d (decide_eq_true z)
        refine iteF ?_
        exact ⟨_, _, _, rfl, rfl, goOn fun z => d z.2.1⟩
    · have c : ¬ 0 ≤ h - p.1 := fun z => c (decide_eq_true z)
      refine ⟨false, rfl, ?_⟩
      refine iteF ?_
      refine iteF ?_
      exact ⟨_, _, _, rfl, rfl, goOn fun z => c z.1⟩
  · obtain ⟨y7, y8, y9, rfl, rfl, no⟩ := hP
    have : ¬ to ∈ besF s h := fun z => by
      rw [mem_bes] at z
      rcases z with z | z
      · exact no 0 (by show 0 < 2; decide) _ rfl z
      · exact no 1 (by show 1 < 2; decide) _ rfl z
    rw [decide_eq_false this] at q
    exact q _ sU
end
def spOpt (K : PySem.W.Frag) : Sp := fun vs H Q _ => ∃ (a : Addr) (xs : List V) (ss : List Sy) (h : Int), vs = [.ref a, .int h] ∧ SqL K H a xs ∧ SL H xs ss ∧ ss.length ≤ 1000 ∧ ∀ H' o zs ps, Same H H' → H o = none → H' o = some (.lst zs) → PL H' zs ps → ps.length ≤ 2 * ss.length → Q (.ref o) H'
theorem scOpt : FnScope ["_law_sayings_here", "_law_here", "_law_found", "_law_k", "_law_one", "_law_other", "_law_many", "_law_turned", "_law_start", "_law_goal", "_law_i"] ["_law_sayings_here", "_law_here"] (defScope s_law_options) := ⟨rfl, rfl, rfl, by decide +kernel, rfl, by decide +kernel, by decide +kernel⟩
section
variable {Pg : Program} {w : World} {K : PySem.W.Frag} {mg : Str → Option Value} {base : Heap}
theorem ok_opt {f : Addr} {fd : FuncData} {k : Nat} (F : Fun K "_law_options" "_law_options" s_law_options f fd) (me : mg "enumerate" = none) : FnOk Pg w K mg base CX0 (k + 1) f fd ["_law_sayings_here", "_law_here"] (spOpt K) := by
  refine F.ok scOpt (fun vs H Q E h => ?_) (fun cdv A outer s H vs Q E hr h => ?_)
  · obtain ⟨a, xs, ss, h, rfl, _⟩ := h; rfl
  obtain ⟨a, xs, ss, h, rfl, hX, sl, hl, q⟩ := h
  refine ⟨_, (pss_cons (ps_set (i := 2) scOpt.nd rfl (.inl rfl) (pe_lst pa_nil))
    (pss_cons (ps_for PassesOwn.never rfl (pi_enum (by rfl) me (pa_cons (pv 0) pa_nil)) (pg_tup rfl (pgs_cons (pg_name (i := 3) scOpt.nd rfl (.inl rfl)) (pgs_cons (pg_tup rfl (pgs_cons (pg_name (i := 4) scOpt.nd rfl (.inl rfl)) (pgs_cons (pg_name (i := 5) scOpt.nd rfl (.inl rfl)) (pgs_cons (pg_name (i := 6) scOpt.nd rfl (.inl rfl)) (pgs_cons (pg_name (i := 7) scOpt.nd rfl (.inl rfl)) pgs_nil))))) pgs_nil)))
      (pss_one (ps_for PassesOwn.never rfl (pi_tup (pe_tup (pa_cons (pe_tup (pa_cons (pv 4) (pa_cons (pv 5) pa_nil))) (pa_cons (pe_tup (pa_cons (pv 5) (pa_cons (pv 4) pa_nil))) pa_nil)))) (pg_tup rfl (pgs_cons (pg_name (i := 8) scOpt.nd rfl (.inl rfl)) (pgs_cons (pg_name (i := 9) scOpt.nd rfl (.inl rfl)) pgs_nil)))
      (pss_cons (ps_set (i := 10) scOpt.nd rfl (.inl rfl) (pe_op op_sub (pv 1) (pv 8)))
    (pss_one (ps_if (pt_chain op_le op_lt pe_int (pv 10) (pv 6)) (pss_one (ps_expr (pe_bm PySem.F.plainAttrs_list PySem.F.slot_list_append PySem.F.type_list_append mt_append (pv 2) (pa_cons (pe_tup (pa_cons (pv 3) (pa_cons (pe_op op_add (pv 9) (pe_ifExp (pt_val (pv 7)) (pe_op op_sub (pe_op op_sub (pv 6) pe_int) (pv 10)) (pv 10))) pa_nil))) pa_nil)))) pss_nil))))))
    (pss_one (ps_ret (pv 2))))), ?_⟩
  refine ⟨(by show 0 ≤ sizeLine; decide), fun o no => ?_⟩
  have s1 := same_upd (o := .lst []) no
  have z1 : upd H o (.lst []) o = some (.lst []) := upd_same
  generalize upd H o (.lst []) = H1 at s1 z1 ⊢
  refine ⟨.ref a, rfl, a, xs, rfl, s1.seq hX, ?_⟩
  refine for_it (walk_enum (K := K) (a := a) (xs := xs)) (fun i σ H3 => ∃ y3 y4 y5 y6 y7 y8 y9 y10, ∃ (zs : List V) (ps : List Pr), σ = [some (.ref a), some (.int h), some (.ref o), y3, y4, y5, y6, y7, y8, y9, y10] ∧ Same H H3 ∧ H3 o = some (.lst zs) ∧ PL H3 zs ps ∧ ps.length ≤ 2 * i)
    ⟨none, none, none, none, none, none, none, none, [], [], rfl, s1, z1, PL.nil, Nat.le_refl _⟩ (fun i σ H3 _ hP => ?_) (fun i v σ H3 H4 hi hP hy => ?_) (fun σ H3 hP => ?_)
  · obtain ⟨_, _, _, _, _, _, _, _, _, _, _, sm, _⟩ := hP
    exact sm.seq hX
  · obtain ⟨y3, y4, y5, y6, y7, y8, y9, y10, zs, ps, rfl, sm, eo, pz, lp⟩ := hP
    obtain ⟨T', v1, v2, rfl, nT, rfl, g1, g2⟩ := hy
    cases g1
    obtain ⟨s, hs, to, rfl, hto⟩ := sl.get g2
    have hi' : i < ss.length := (List.getElem?_eq_some_iff.mp hs).1
    have sT := same_upd (o := .tup [.int ((i : Nat) : Int), .ref to]) nT
    have zT : upd H3 T' (.tup [.int ((i : Nat) : Int), .ref to]) T' = some (.tup [.int ((i : Nat) : Int), .ref to]) := upd_same
    have smT := sm.trans sT
    have eoT := sT _ _ eo
    have pzT := PL.ts (TS.of sT) pz
    generalize upd H3 T' (.tup [.int ((i : Nat) : Int), .ref to]) = H4 at sT zT smT eoT pzT ⊢
    refine ⟨T', [.int ((i : Nat) : Int), .ref to], rfl, .inl (.inl zT), rfl, _, _, rfl, _, _, rfl, ?_⟩
    refine ⟨to, _, rfl, .inl (.inl (smT _ _ hto)), rfl, _, _, rfl, _, _, rfl, _, _, rfl, _, _, rfl, rfl, rfl, ?_⟩
    refine ⟨.int s.lo, rfl, .int s.hi, rfl, (by show 2 ≤ sizeLine; decide), fun u0 nu0 => ?_⟩
    have q0 := same_upd (o := .tup [.int s.lo, .int s.hi]) nu0
    have P0 := (PL.nil (H := upd H4 u0 (.tup [.int s.lo, .int s.hi]))).snoc (a := s.lo) (b := s.hi) upd_same
    refine ⟨.int s.hi, rfl, .int s.lo, rfl, (by show 2 ≤ sizeLine; decide), fun u1 nu1 => ?_⟩
    have q1 := same_upd (o := .tup [.int s.hi, .int s.lo]) nu1
    have P1 := (PL.ts (TS.of q1) P0).snoc (a := s.hi) (b := s.lo) upd_same
    refine ⟨(by show 2 ≤ sizeLine; decide), fun u2 nu2 => ?_⟩
    have q2 := same_upd (o := .tup [.ref u0, .ref u1]) nu2
    have sU := q0.trans (q1.trans q2)
    have P2 := PL.ts (TS.of q2) P1
    generalize eU : upd (upd (upd H4 u0 _) u1 _) u2 _ = HU at P2 sU
    have zU : HU u2 = some (.tup [.ref u0, .ref u1]) := by rw [← eU]; exact upd_same
    have P2 : PL HU [.ref u0, .ref u1] [(s.lo, s.hi), (s.hi, s.lo)] := P2
    refine ⟨u2, rfl, ⟨_, .inl (.inl zU)⟩, for_tup (xs := [.ref u0, .ref u1]) (fun j σ H5 => ∃ y8 y9 y10, ∃ (zs : List V) (ps : List Pr), σ = [some (.ref a), some (.int h), some (.ref o), some (.int ((i : Nat) : Int)), some (.int s.lo), some (.int s.hi), some (.int s.n), some (.bl s.t), y8, y9, y10] ∧ (∀ b x, HU b = some x → b ≠ o → H5 b = some x) ∧ Same H H5 ∧ H5 o = some (.lst zs) ∧ PL H5 zs ps ∧ ps.length ≤ 2 * i + j ∧ j ≤ 2) ⟨y8, y9, y10, zs, ps, rfl, fun b x hb _ => hb, smT.trans sU, sU _ _ eoT, PL.ts (TS.of sU) pzT, by omega, by decide⟩ (fun j σ H5 _ hP => ?_) (fun j v σ H5 hv hP => ?_) (fun σ H5 hP => ?_)⟩
    · obtain ⟨_, _, _, _, _, _, hb, _⟩ := hP
      refine .inl (.inl (hb _ _ zU fun z => ?_))
      have := sU _ _ eoT
      rw [← z, zU] at this; cases this
    · obtain ⟨y8, y9, y10, zs, ps, rfl, hb, sm5, eo5, pz5, lp5, hj⟩ := hP
      have hj2 : j < 2 := (List.getElem?_eq_some_iff.mp hv).1
      obtain ⟨tp, p, rfl, htp, hp⟩ := P2.get hv
      have htp5 : H5 tp = some (.tup [.int p.1, .int p.2]) := hb _ _ htp fun z => by
        have := sU _ _ eoT
        rw [← z, htp] at this; cases this
      refine ⟨tp, [.int p.1, .int p.2], rfl, .inl (.inl htp5), rfl, _, _, rfl, _, _, rfl, rfl, ?_⟩
      refine ⟨.int h, rfl, .int p.1, rfl, _, _, rfl, rfl, ?_⟩
      have skip : ∃ y8' y9' y10', ∃ (zs' : List V) (ps' : List Pr), [some (.ref a), some (.int h), some (.ref o), some (V.int ((i : Nat) : Int)), some (.int s.lo), some (.int s.hi), some (.int s.n), some (.bl s.t), some (.int p.1), some (.int p.2), some (.int (h - p.1))] = [some (.ref a), some (.int h), some (.ref o), some (.int ((i : Nat) : Int)), some (.int s.lo), some (.int s.hi), some (.int s.n), some (.bl s.t), y8', y9', y10'] ∧ (∀ b x, HU b = some x → b ≠ o → H5 b = some x) ∧ Same H H5 ∧ H5 o = some (.lst zs') ∧ PL H5 zs' ps' ∧ ps'.length ≤ 2 * i + (j + 1) ∧ j + 1 ≤ 2 := ⟨_, _, _, zs, ps, rfl, hb, sm5, eo5, pz5, by omega, by omega⟩
      refine ⟨.int (h - p.1), rfl, _, _, rfl, rfl, _, rfl, ite2 (fun c => ?_) (fun c => ?_)⟩
      · refine ⟨.int s.n, rfl, _, _, rfl, rfl, _, rfl, ite2 (fun d => ?_) (fun d => ?_)⟩
        · refine ⟨.ref o, rfl, .inl ⟨rfl, _, .inl (.inl eo5)⟩, .int ((i : Nat) : Int), rfl, .int p.2, rfl, .bl s.t, rfl, s.t, rfl, ?_⟩
          have put : ∀ g : Int, 2 ≤ sizeLine ∧ ∀ t2, H5 t2 = none → ∃ l xs2 v2, V.ref o = .ref l ∧ [V.ref t2] = [v2] ∧ upd H5 t2 (.tup [.int ((i : Nat) : Int), .int (p.2 + g)]) l = some (.lst xs2) ∧ xs2.length < sizeLine ∧ True := fun g => ⟨by decide, fun t2 nt2 => ⟨o, zs, .ref t2, rfl, rfl, (same_upd nt2) _ _ eo5, by rw [pz5.len]; exact Nat.lt_of_le_of_lt (show _ ≤ 3000 by omega) (by decide), trivial⟩⟩
          have after : ∀ (g : Int) (t2 : Addr) (nt2 : H5 t2 = none), ∃ y8' y9' y10', ∃ (zs' : List V) (ps' : List Pr), [some (.ref a), some (.int h), some (.ref o), some (V.int ((i : Nat) : Int)), some (.int s.lo), some (.int s.hi), some (.int s.n), some (.bl s.t), some (.int p.1), some (.int p.2), some (.int (h - p.1))] = [some (.ref a), some (.int h), some (.ref o), some (.int ((i : Nat) : Int)), some (.int s.lo), some (.int s.hi), some (.int s.n), some (.bl s.t), y8', y9', y10'] ∧ (∀ b x, HU b = some x → b ≠ o → upd (upd H5 t2 (.tup [.int ((i : Nat) : Int), .int (p.2 + g)])) o (.lst (zs ++ [.ref t2])) b = some x) ∧ Same H (upd (upd H5 t2 (.tup [.int ((i : Nat) : Int), .int (p.2 + g)])) o (.lst (zs ++ [.ref t2]))) ∧ upd (upd H5 t2 (.tup [.int ((i : Nat) : Int), .int (p.2 + g)])) o (.lst (zs ++ [.ref t2])) o = some (.lst zs') ∧ PL (upd (upd H5 t2 (.tup [.int ((i : Nat) : Int), .int (p.2 + g)])) o (.lst (zs ++ [.ref t2]))) zs' ps' ∧ ps'.length ≤ 2 * i + (j + 1) ∧ j + 1 ≤ 2 := fun g t2 nt2 => by
            have s6 := same_upd (o := .tup [.int ((i : Nat) : Int), .int (p.2 + g)]) nt2
            refine ⟨_, _, _, _, _, rfl, fun b x hbx hbo => ?_, same_over (sm5.trans s6) no, upd_same, PL.ts (TS.lst (s6 _ _ eo5)) ((PL.ts (TS.of s6) pz5).snoc upd_same), by rw [List.length_append]; show ps.length + 1 ≤ _; omega, by omega⟩
            rw [upd_ne hbo]
            exact s6 _ _ (hb b x hbx hbo)
          cases ct : s.t with
          | true =>
            refine iteT ?_
            refine ⟨.int s.n, rfl, _, 1, rfl, rfl, .int (h - p.1), rfl, _, _, rfl, rfl, _, _, rfl, rfl, (by show 2 ≤ sizeLine; decide), fun t2 nt2 => ?_⟩
            refine ⟨o, zs, .ref t2, rfl, rfl, (same_upd nt2) _ _ eo5, by rw [pz5.len]; exact Nat.lt_of_le_of_lt (show _ ≤ 3000 by omega) (by decide), ?_⟩
            rw [ct] at after
            exact after _ t2 nt2
          | false =>
            refine iteF ?_
            refine ⟨.int (h - p.1), rfl, _, _, rfl, rfl, (by show 2 ≤ sizeLine; decide), fun t2 nt2 => ?_⟩
            refine ⟨o, zs, .ref t2, rfl, rfl, (same_upd nt2) _ _ eo5, by rw [pz5.len]; exact Nat.lt_of_le_of_lt (show _ ≤ 3000 by omega) (by decide), ?_⟩
            rw [ct] at after
            exact after _ t2 nt2
        · exact skip
      · refine ⟨false, rfl, ?_⟩
        refine iteF ?_
        exact skip
    · obtain ⟨y8, y9, y10, zs, ps, rfl, hb, sm5, eo5, pz5, lp5, _⟩ := hP
      exact ⟨_, _, _, _, _, _, _, _, zs, ps, rfl, sm5, eo5, pz5, by have : ([V.ref u0, V.ref u1]).length = 2 := rfl; omega⟩
  · obtain ⟨y3, y4, y5, y6, y7, y8, y9, y10, zs, ps, rfl, sm, eo, pz, lp⟩ := hP
    exact ⟨.ref o, rfl, q H3 o zs ps sm no eo pz (by rw [← sl.len]; exact lp)⟩
end
end Rep
namespace Rep
open PySem L2
/-! the draws -/
def mixA (s : Int) : Int := (s * 48271 + 11) % 2147483647
def mixB (s : Int) : Int := (mixA s * mixA s + 40692 * mixA s + s) % 2147483399
def mixF (s : Int) : Int := (mixB s * mixB s + 69621 * mixB s + mixA s) % 2147483563
theorem mixA_lt (s : Int) : -(2 ^ 64) < mixA s ∧ mixA s < 2 ^ 64 := by
  unfold mixA; omega
theorem mixB_lt (s : Int) : -(2 ^ 64) < mixB s ∧ mixB s < 2 ^ 64 := by
  unfold mixB; generalize mixA s * mixA s + 40692 * mixA s + s = z; omega
def spMix : Sp := fun vs H Q _ => ∃ s : Int, vs = [.int s] ∧ Q (.int (mixF s)) H
theorem scMix : FnScope ["_law_seed", "_law_one", "_law_two"] ["_law_seed"] (defScope sMix) := ⟨rfl, rfl, rfl, by decide +kernel, rfl, by decide +kernel, by decide +kernel⟩
section
variable {P : Program} {w : World} {K : PySem.W.Frag} {mg : Str → Option Value} {base : Heap}
theorem ok_mix {f : Addr} {fd : FuncData} {k : Nat} (F : Fun K "_law_mix" "_law_mix" sMix f fd) : FnOk P w K mg base CX0 (k + 1) f fd ["_law_seed"] spMix := by
  refine F.ok scMix (fun vs H Q E h => ?_) (fun cdv A outer s H vs Q E hr h => ?_)
  · obtain ⟨s, rfl, _⟩ := h; rfl
  obtain ⟨z, rfl, q⟩ := h
  refine ⟨_, pss_cons (ps_set (i := 1) scMix.nd rfl (.inl rfl) (pe_op op_mod (pe_op op_add (pe_op op_mul (pv 0) pe_int) pe_int) pe_int))
    (pss_cons (ps_set (i := 2) scMix.nd rfl (.inl rfl) (pe_op op_mod (pe_op op_add (pe_op op_add (pe_op op_mul (pv 1) (pv 1)) (pe_op op_mul pe_int (pv 1))) (pv 0)) pe_int))
    (pss_one (ps_ret (pe_op op_mod (pe_op op_add (pe_op op_add (pe_op op_mul (pv 2) (pv 2)) (pe_op op_mul pe_int (pv 2))) (pv 1)) pe_int)))), ?_⟩
  refine ⟨.int z, rfl, z, 48271, rfl, rfl, .inr ⟨by decide, by decide⟩, _, 11, rfl, rfl, _, 2147483647, rfl, rfl, (by show (0 : Int) < 2147483647; decide), ?_⟩
  refine ⟨.int (mixA z), rfl, .int (mixA z), rfl, _, _, rfl, rfl, .inl (mixA_lt z), .int (mixA z), rfl, 40692, mixA z, rfl, rfl, .inl ⟨by decide, by decide⟩, _, _, rfl, rfl, .int z, rfl, _, _, rfl, rfl, _, 2147483399, rfl, rfl, (by show (0 : Int) < 2147483399; decide), ?_⟩
  refine ⟨.int (mixB z), rfl, .int (mixB z), rfl, _, _, rfl, rfl, .inl (mixB_lt z), .int (mixB z), rfl, 69621, mixB z, rfl, rfl, .inl ⟨by decide, by decide⟩, _, _, rfl, rfl, .int (mixA z), rfl, _, _, rfl, rfl, _, 2147483563, rfl, rfl, (by show (0 : Int) < 2147483563; decide), ?_⟩
  exact q
end
/-! a raw number -/
def cellF (ns : List Int) (k : Int) : Int := if 0 < ns.length then ns.getD (k % (ns.length : Int)).toNat 0 + 9973 * (k / (ns.length : Int)) else 7 * k + 3
def foundF (c k : Int) : Nat → Int
  | 0 => 0
  | i + 1 => foundF c k i * 2147483563 + mixF (c + 1009 * k + 7919 * (i : Int))
def rawF (ns : List Int) (k : Int) : Int := if k < (ns.length : Int) ∧ 10 ^ 18 ≤ cellF ns k then cellF ns k - 10 ^ 18 else foundF (cellF ns k) k 40
def spRaw (K : PySem.W.Frag) : Sp := fun vs H Q _ => ∃ (a : Addr) (ns : List Int) (k : Int), vs = [.ref a, .int k] ∧ SqL K H a (ns.map V.int) ∧ ns.length ≤ 63 ∧ Q (.int (rawF ns k)) H
theorem scRaw : FnScope ["_law_script", "_law_k", "_law_cell", "_law_found", "_law_turn"] ["_law_script", "_law_k"] (defScope sRaw) := ⟨rfl, rfl, rfl, by decide +kernel, rfl, by decide +kernel, by decide +kernel⟩
theorem at_mod {ns : List Int} {k : Int} (h : 0 < ns.length) : atI (ns.map V.int) (k % ((ns.map V.int).length : Int)) = some (.int (ns.getD (k % (ns.length : Int)).toNat 0)) := by
  rw [List.length_map]
  have h0 : 0 ≤ k % (ns.length : Int) := Int.emod_nonneg _ (by omega)
  have h1 : k % (ns.length : Int) < (ns.length : Int) := Int.emod_lt_of_pos _ (by omega)
  have e : k % (ns.length : Int) = (((k % (ns.length : Int)).toNat : Nat) : Int) := by omega
  have hj : (k % (ns.length : Int)).toNat < ns.length := by omega
  have q : atI (ns.map V.int) (((k % (ns.length : Int)).toNat : Nat) : Int) = some (.int (ns.getD (k % (ns.length : Int)).toNat 0)) := by
    refine atI_nat ?_
    rw [List.getElem?_map, List.getElem?_eq_getElem hj, List.getD_eq_getElem?_getD, List.getElem?_eq_getElem hj]
    rfl
  rw [← e] at q
  exact q
section
variable {P : Program} {w : World} {K : PySem.W.Frag} {mg : Str → Option Value} {base : Heap}
theorem ok_raw {f fM : Addr} {fd fdM : FuncData} {k : Nat} (F : Fun K "_law_raw" "_law_raw" sRaw f fd) (FM : Fun K "_law_mix" "_law_mix" sMix fM fdM) (bM : Binds K fdM ["_law_seed"] []) (gM : mg "_law_mix" = some (.ref fM)) (ml : mg "len" = none) (mr : mg "range" = none) : FnOk P w K mg base CX0 (k + 2) f fd ["_law_script", "_law_k"] (spRaw K) := by
  have GM : FnOk P w K mg base CX0 (k + 1) fM fdM ["_law_seed"] spMix := ok_mix FM
  refine F.ok scRaw (fun vs H Q E h => ?_) (fun cdv A outer s H vs Q E hr h => ?_)
  · obtain ⟨a, ns, z, rfl, _⟩ := h; rfl
  obtain ⟨a, ns, z, rfl, hS, h63, q⟩ := h
  have hl : ((ns.map V.int).length : Int) = (ns.length : Int) := by rw [List.length_map]
  refine ⟨_, pss_cons (ps_set (i := 2) scRaw.nd rfl (.inl rfl) (pe_op op_add (pe_op op_mul pe_int (pv 1)) pe_int))
    (C8.pss_cut (ps_if (pt_cmpR op_gt (pe_callB call_len_seq (by rfl) ml PySem.boot_len (pa_cons (pv 0) pa_nil)) pe_int (nomark _))
      (pss_one (ps_set (i := 2) scRaw.nd rfl (.inl rfl) (pe_op op_add (pe_ix ix_list (pv 0) (pe_op op_mod (pv 1) (pe_callB call_len_seq (by rfl) ml PySem.boot_len (pa_cons (pv 0) pa_nil))) (fun _ _ => rfl))
        (pe_op op_mul pe_int (pe_op op_fdiv (pv 1) (pe_callB call_len_seq (by rfl) ml PySem.boot_len (pa_cons (pv 0) pa_nil))))))) pss_nil)
    (C8.pss_cut (ps_if (PW.pt (pw_and (pt_cmpR op_lt (pv 1) (pe_callB call_len_seq (by rfl) ml PySem.boot_len (pa_cons (pv 0) pa_nil)) (nomark _)) (pw_and1 (pt_cmpR op_ge (pv 2) (pe_op op_pow pe_int pe_int) (nomark _)))))
      (pss_one (ps_ret (pe_op op_sub (pv 2) (pe_op op_pow pe_int pe_int)))) pss_nil)
    (pss_cons (ps_set (i := 3) scRaw.nd rfl (.inl rfl) pe_int)
    (pss_cons (ps_for PassesOwn.never rfl (pi_range1 rfl mr (pa_cons pe_int pa_nil)) (pg_name (i := 4) scRaw.nd rfl (.inl rfl))
      (pss_one (ps_set (i := 3) scRaw.nd rfl (.inl rfl) (pe_op op_add (pe_op op_mul (pv 3) pe_int) (pe_call GM hr (by rfl) gM FM.kp bM .nil pass0 (pa_cons (pe_op op_add (pe_op op_add (pv 2) (pe_op op_mul pe_int (pv 1))) (pe_op op_mul pe_int (pv 4))) pa_nil))))))
    (pss_one (ps_ret (pv 3))))))), ?_⟩
  refine ⟨.int z, rfl, 7, z, rfl, rfl, .inl ⟨by decide, by decide⟩, _, 3, rfl, rfl, ?_⟩
  refine ⟨fun σ' H' => σ' = [some (.ref a), some (.int z), some (.int (cellF ns z)), none, none] ∧ H' = H, ?_, fun σ' H' hm => ?_⟩
  · refine ⟨.ref a, rfl, a, ns.map V.int, rfl, .inl hS, _, 0, rfl, rfl, _, rfl, ite2 (fun c => ?_) (fun c => ?_)⟩
    · have c' : (0 : Int) < ((ns.map V.int).length : Int) := of_decide_eq_true c
      rw [hl] at c'
      have c2 : 0 < ns.length := by omega
      refine ⟨.ref a, rfl, .int z, rfl, .ref a, rfl, a, ns.map V.int, rfl, .inl hS, _, _, rfl, rfl, (by show (0 : Int) < ((ns.map V.int).length : Int); omega), a, _, _, _, rfl, rfl, hS, at_mod c2, .int z, rfl, .ref a, rfl, a, ns.map V.int, rfl, .inl hS, _, _, rfl, rfl, ⟨by omega, by omega⟩, 9973, _, rfl, rfl, .inl ⟨by decide, by decide⟩, _, _, rfl, rfl, ?_, rfl⟩
      unfold cellF
      rw [if_pos c2, hl]
      rfl
    · have c' : ¬ (0 : Int) < ((ns.map V.int).length : Int) := fun e => c (decide_eq_true e)
      rw [hl] at c'
      refine ⟨?_, rfl⟩
      unfold cellF
      rw [if_neg (by omega)]
      rfl
  · obtain ⟨rfl, rfl⟩ := hm
    have p18 : CPow 10 18 := ⟨by decide, by decide, by decide⟩
    refine ⟨fun σ' H2 => σ' = [some (.ref a), some (.int z), some (.int (cellF ns z)), none, none] ∧ H2 = H' ∧ ¬ (z < (ns.length : Int) ∧ 10 ^ 18 ≤ cellF ns z), ?_, fun σ' H2 hm => ?_⟩
    · refine ⟨.int z, rfl, .ref a, rfl, a, ns.map V.int, rfl, .inl hS, _, _, rfl, rfl, _, rfl, ite2 (fun c => ?_) (fun c => ?_)⟩
      · have c1 : z < ((ns.map V.int).length : Int) := of_decide_eq_true c
        rw [hl] at c1
        refine ⟨.int (cellF ns z), rfl, 10, 18, rfl, rfl, p18, _, _, rfl, rfl, _, rfl, ite2 (fun c => ?_) (fun c => ?_)⟩
        · have c2 : (10 : Int) ^ 18 ≤ cellF ns z := of_decide_eq_true c
          refine ⟨.int (cellF ns z), rfl, 10, 18, rfl, rfl, p18, _, _, rfl, rfl, ?_⟩
          unfold rawF at q
          rw [if_pos ⟨c1, c2⟩] at q
          exact q
        · exact ⟨rfl, rfl, fun e => c (decide_eq_true e.2)⟩
      · refine iteF ⟨rfl, rfl, fun e => c (decide_eq_true ?_)⟩
        rw [hl]
        exact e.1
    · obtain ⟨rfl, rfl, hn⟩ := hm
      have er : foundF (cellF ns z) z 40 = rawF ns z := by
        unfold rawF; rw [if_neg hn]
      refine ⟨40, rfl, by decide, by decide, for_range (n := 40) (fun i σ H => ∃ y, σ = [some (.ref a), some (.int z), some (.int (cellF ns z)), some (.int (foundF (cellF ns z) z i)), y] ∧ H = H2) ⟨none, rfl, rfl⟩ (fun i σ H3 hi hP => ?_) (fun σ H3 hP => ?_)⟩
      · obtain ⟨y, rfl, rfl⟩ := hP
        refine ⟨.int (foundF (cellF ns z) z i), rfl, _, 2147483563, rfl, rfl, .inr ⟨by decide, by decide⟩, .int (cellF ns z), rfl, .int z, rfl, 1009, z, rfl, rfl, .inl ⟨by decide, by decide⟩, _, _, rfl, rfl, .int (0 + (i : Int)), rfl, 7919, _, rfl, rfl, .inl ⟨by decide, by decide⟩, _, _, rfl, rfl, _, rfl, _, _, rfl, rfl, ?_⟩
        refine ⟨some (.int (0 + (i : Int))), ?_, rfl⟩
        show [some (V.ref a), some (.int z), some (.int (cellF ns z)), some (.int (foundF (cellF ns z) z i * 2147483563 + mixF (cellF ns z + 1009 * z + 7919 * (0 + (i : Int))))), some (.int (0 + (i : Int)))] = _
        rw [Int.zero_add]
        rfl
      · obtain ⟨y, rfl, rfl⟩ := hP
        exact ⟨_, rfl, by rw [er]; exact q⟩
end
end Rep
namespace Rep
open PySem L2
/-! digits of a raw number -/
def digF : Int → List Int → List Int
  | _, [] => []
  | r, z :: zs => (r % z) :: digF (r / z) zs
def restF (r : Int) (zs : List Int) : Int := zs.foldl (· / ·) r
theorem digF_snoc : ∀ (r : Int) (a : List Int) (z : Int), digF r (a ++ [z]) = digF r a ++ [restF r a % z]
  | r, [], z => rfl
  | r, y :: a, z => by
    show (r % y) :: digF (r / y) (a ++ [z]) = (r % y) :: (digF (r / y) a ++ [restF (r / y) a % z])
    rw [digF_snoc (r / y) a z]
theorem restF_snoc (r : Int) (a : List Int) (z : Int) : restF r (a ++ [z]) = restF r a / z := by
  unfold restF; rw [List.foldl_append]; rfl
theorem digF_len : ∀ (r : Int) (zs : List Int), (digF r zs).length = zs.length
  | _, [] => rfl
  | r, z :: zs => by
    show (digF (r / z) zs).length + 1 = zs.length + 1
    rw [digF_len]
def spDig (K : PySem.W.Frag) : Sp := fun vs H Q _ => ∃ (a b : Addr) (ns zs : List Int) (k : Int), vs = [.ref a, .int k, .ref b] ∧ SqL K H a (ns.map V.int) ∧ ns.length ≤ 63 ∧ SqL K H b (zs.map V.int) ∧ zs.length ≤ 1000 ∧ (∀ z ∈ zs, 0 < z ∧ z.natAbs.log2 < 9000) ∧
  ∀ H' p, Same H H' → H p = none → H' p = some (.lst ((digF (rawF ns k) zs).map V.int)) → Q (.ref p) H'
theorem scDig : FnScope ["_law_script", "_law_k", "_law_sizes", "_law_rest", "_law_found", "_law_size"] ["_law_script", "_law_k", "_law_sizes"] (defScope sDig) := ⟨rfl, rfl, rfl, by decide +kernel, rfl, by decide +kernel, by decide +kernel⟩
section
variable {P : Program} {w : World} {K : PySem.W.Frag} {mg : Str → Option Value} {base : Heap}
theorem ok_dig {f fR : Addr} {fd fdR : FuncData} {k : Nat} (F : Fun K "_law_digits" "_law_digits" sDig f fd) (GR : FnOk P w K mg base CX0 k fR fdR ["_law_script", "_law_k"] (spRaw K)) (kR : PySem.W.keepIn K (.ref fR) = true) (bR : Binds K fdR ["_law_script", "_law_k"] []) (gR : mg "_law_raw" = some (.ref fR)) : FnOk P w K mg base CX0 (k + 1) f fd ["_law_script", "_law_k", "_law_sizes"] (spDig K) := by
  refine F.ok scDig (fun vs H Q E h => ?_) (fun cdv A outer s H vs Q E hr h => ?_)
  · obtain ⟨a, b, ns, zs, z, rfl, _⟩ := h; rfl
  obtain ⟨a, b, ns, zs, z, rfl, hS, h63, hZ, hz1, hz2, q⟩ := h
  refine ⟨_, pss_cons (ps_set (i := 3) scDig.nd rfl (.inl rfl) (pe_call GR hr (by rfl) gR kR bR .nil pass0 (pa_cons (pv 0) (pa_cons (pv 1) pa_nil))))
    (pss_cons (ps_set (i := 4) scDig.nd rfl (.inl rfl) (pe_lst pa_nil))
    (pss_cons (ps_for PassesOwn.never rfl (pi_list (pv 2)) (pg_name (i := 5) scDig.nd rfl (.inl rfl))
      (pss_cons (ps_expr (pe_bm PySem.F.plainAttrs_list PySem.F.slot_list_append PySem.F.type_list_append mt_append (pv 4) (pa_cons (pe_op op_mod (pv 3) (pv 5)) pa_nil)))
      (pss_one (ps_set (i := 3) scDig.nd rfl (.inl rfl) (pe_op op_fdivW (pv 3) (pv 5))))))
    (pss_one (ps_ret (pv 4))))), ?_⟩
  refine ⟨.ref a, rfl, .int z, rfl, a, ns, z, rfl, hS, h63, Nat.zero_le _, fun o no => ?_⟩
  have s1 : Same H (upd H o (.lst [])) := same_upd no
  refine ⟨.ref b, rfl, b, rfl, ⟨_, s1.seq hZ⟩, for_list (xs := zs.map V.int) (fun i σ H3 => ∃ y, σ = [some (.ref a), some (.int z), some (.ref b), some (.int (restF (rawF ns z) (zs.take i))), some (.ref o), y] ∧ Same H H3 ∧ H3 o = some (.lst ((digF (rawF ns z) (zs.take i)).map V.int))) ⟨none, rfl, s1, upd_same⟩ (fun i σ H3 _ hP => ?_) (fun i x σ H3 hx hP => ?_) (fun σ H3 hP => ?_)⟩
  · obtain ⟨y, _, sm, _⟩ := hP
    exact sm.seq hZ
  · obtain ⟨y, rfl, sm, eo⟩ := hP
    rw [List.getElem?_map] at hx
    obtain ⟨v, hv, rfl⟩ := Option.map_eq_some_iff.mp hx
    have hv2 := hz2 v (List.mem_of_getElem? hv)
    have hi : i < zs.length := (List.getElem?_eq_some_iff.mp hv).1
    have et : zs.take (i + 1) = zs.take i ++ [v] := by rw [List.take_add_one, hv]; rfl
    refine ⟨.ref o, rfl, .inl ⟨rfl, _, .inl (.inl eo)⟩, .int _, rfl, .int v, rfl, _, _, rfl, rfl, hv2.1, o, _, _, rfl, rfl, eo, ?_, ?_⟩
    · rw [List.length_map, digF_len, List.length_take]
      exact small1000 (by omega)
    · refine ⟨.int _, rfl, .int v, rfl, _, _, rfl, rfl, hv2, some (.int v), ?_, same_over sm no, ?_⟩
      · rw [et, restF_snoc]; rfl
      · rw [upd_same, et, digF_snoc, List.map_append]; rfl
  · obtain ⟨y, rfl, sm, eo⟩ := hP
    rw [List.length_map, List.take_length] at eo
    exact ⟨.ref o, rfl, q H3 o sm no eo⟩
end
end Rep
namespace Rep
open PySem L2
theorem ixN_nat {n j : Nat} (h : j < n) : ixN n (j : Int) = some j := by
  unfold ixN
  rw [if_pos (by omega), if_pos (by omega)]
  rfl
theorem PL.set {H : Hp} {vs : List V} {ps : List Pr} {j : Nat} {t : Addr} {p : Pr} (h : PL H vs ps) (ht : H t = some (.tup [.int p.1, .int p.2])) : PL H (vs.set j (.ref t)) (ps.set j p) := by
  refine ⟨fun v hv => ?_, ?_⟩
  · rcases List.mem_or_eq_of_mem_set hv with hv | hv
    · exact h.all v hv
    · rw [hv]; exact .of ht
  · rw [List.map_set, h.eq, kOf_at ht]
theorem canPr : ∀ ps : List Pr, PyData.canLayAll0 (ps.map pD) = true
  | [] => rfl
  | _ :: r => by
    show (true && PyData.canLayAll0 (r.map pD)) = true
    rw [canPr r]; rfl
theorem depPr : ∀ ps : List Pr, PyData.depthAll (ps.map pD) ≤ 1
  | [] => Nat.zero_le _
  | _ :: r => by
    show max 1 (PyData.depthAll (r.map pD)) ≤ 1
    have := depPr r
    omega
theorem shapedPr (ps : List Pr) : SeqAt.shaped (.list (ps.map pD)) = true := by
  unfold SeqAt.shaped
  have e : PyData.canLay0 (.list (ps.map pD)) = true := canPr ps
  rw [e]
  refine decide_eq_true ?_
  show PyData.depthAll (ps.map pD) + 1 ≤ 64
  have := depPr ps
  omega
def spStp (K : PySem.W.Frag) : Sp := fun vs H Q _ => ∃ (a1 a : Addr) (ns : List Int) (kk L : Int) (xs : List V) (ss : List Sy), vs = [.ref a1, .int kk, .int L, .ref a] ∧ SqL K H a1 (ns.map V.int) ∧ ns.length ≤ 63 ∧ H a = some (.lst xs) ∧ SL H xs ss ∧ ss.length ≤ 24 ∧ 1 ≤ L ∧ L ≤ 1000 ∧
  ∀ H' t o zs ps st, Same H H' → H' t = some (.tup [.int st, .ref o]) → H o = none → H' o = some (.lst zs) → PL H' zs ps → ps.length ≤ 9 → 0 ≤ st → st < L → Q (.ref t) H'
abbrev nStp : List Str := ["_law_script", "_law_k", "_law_length", "_law_sayings_here", "_law_start", "_law_many", "_law_bad", "_law_way", "_law_far", "_law_here", "_law_steps_here", "_law_raw_here", "_law_some", "_law_saying_here", "_law_to"]
theorem scStp : FnScope nStp ["_law_script", "_law_k", "_law_length", "_law_sayings_here"] (defScope s_law_steps) := ⟨rfl, rfl, rfl, by decide +kernel, rfl, by decide +kernel, by decide +kernel⟩
structure TStp (Pg : Program) (w : World) (K : PySem.W.Frag) (mg : Str → Option Value) (base : Heap) (k : Nat) (fD fO : Addr) (fdD fdO : FuncData) : Prop where
  gD : FnOk Pg w K mg base CX0 k fD fdD ["_law_script", "_law_k", "_law_sizes"] (spDig K)
  bD : Binds K fdD ["_law_script", "_law_k", "_law_sizes"] []
  kD : PySem.W.keepIn K (.ref fD) = true
  mD : mg "_law_digits" = some (.ref fD)
  gO : FnOk Pg w K mg base CX0 k fO fdO ["_law_sayings_here", "_law_here"] (spOpt K)
  bO : Binds K fdO ["_law_sayings_here", "_law_here"] []
  kO : PySem.W.keepIn K (.ref fO) = true
  mO : mg "_law_options" = some (.ref fO)
  ml : mg "len" = none
section
variable {Pg : Program} {w : World} {K : PySem.W.Frag} {mg : Str → Option Value} {base : Heap}
theorem ok_stp {f fD fO : Addr} {fd fdD fdO : FuncData} {k : Nat} (F : Fun K "_law_steps" "_law_steps" s_law_steps f fd) (T : TStp Pg w K mg base k fD fO fdD fdO) : FnOk Pg w K mg base CX0 (k + 1) f fd ["_law_script", "_law_k", "_law_length", "_law_sayings_here"] (spStp K) := by
  refine F.ok scStp (fun vs H Q E h => ?_) (fun cdv A outer s H vs Q E hr h => ?_)
  · obtain ⟨a1, a, ns, kk, L, xs, ss, rfl, _⟩ := h; rfl
  obtain ⟨a1, a, ns, kk, L, xs, ss, rfl, hS, h63, ea, sl, hl, hL0, hL1, q⟩ := h
  refine ⟨_, (C8.pss_cut (ps_asg (pe_call T.gD hr (by rfl) T.mD T.kD T.bD .nil pass0 (pa_cons (pv 0) (pa_cons (pv 1) (pa_cons (pe_lst (pa_cons (pv 2) (pa_cons pe_int (pa_cons pe_int (pa_cons pe_int (pa_cons (pe_op op_pow pe_int pe_int) pa_nil)))))) pa_nil)))) (pg_lst rfl (pgs_cons (pg_name (i := 4) scStp.nd rfl (.inl rfl)) (pgs_cons (pg_name (i := 5) scStp.nd rfl (.inl rfl)) (pgs_cons (pg_name (i := 6) scStp.nd rfl (.inl rfl)) (pgs_cons (pg_name (i := 7) scStp.nd rfl (.inl rfl)) (pgs_cons (pg_name (i := 8) scStp.nd rfl (.inl rfl)) pgs_nil)))))))
    (pss_cons (ps_set (i := 9) scStp.nd rfl (.inl rfl) (pv 4))
    (pss_cons (ps_set (i := 10) scStp.nd rfl (.inl rfl) (pe_lst pa_nil))
    (C8.pss_cut (ps_for PassesOwn.never rfl (pi_list (pe_slice sl_list (pe_call T.gD hr (by rfl) T.mD T.kD T.bD .nil pass0 (pa_cons (pv 0) (pa_cons (pe_op op_add (pv 1) pe_int) (pa_cons (pe_op op_rep (pe_lst (pa_cons pe_int pa_nil)) pe_int) pa_nil)))) po_none (po_some (pv 5)))) (pg_name (i := 11) scStp.nd rfl (.inl rfl))
      (pss_cons (ps_set (i := 12) scStp.nd rfl (.inl rfl) (pe_call T.gO hr (by rfl) T.mO T.kO T.bO .nil pass0 (pa_cons (pv 3) (pa_cons (pv 9) pa_nil))))
    (pss_one (ps_if (pt_cmpR (op_neD hr.units) (pv 12) (pe_lst pa_nil) (nomark _)) (pss_cons (ps_expr (pe_bm PySem.F.plainAttrs_list PySem.F.slot_list_append PySem.F.type_list_append mt_append (pv 10) (pa_cons (pe_ix ix_list (pv 12) (pe_op op_mod (pv 11) (pe_callB call_len_seq (by rfl) T.ml PySem.boot_len (pa_cons (pv 12) pa_nil))) (fun _ _ => rfl)) pa_nil)))
    (pss_one (ps_set (i := 9) scStp.nd rfl (.inl rfl) (pe_ix ix_tup (pe_ix ix_list (pv 10) (pe_un un_neg pe_int) (fun _ _ => rfl)) pe_int (fun _ _ => rfl))))) pss_nil))))
    (C8.pss_cut (ps_if (pt_cmpR op_lt (pv 6) (pe_callB call_len_seq (by rfl) T.ml PySem.boot_len (pa_cons (pv 10) pa_nil)) (nomark _)) (pss_cons (ps_asg (pe_ix ix_list (pv 10) (pv 6) (fun _ _ => rfl)) (pg_tup rfl (pgs_cons (pg_name (i := 13) scStp.nd rfl (.inl rfl)) (pgs_cons (pg_name (i := 14) scStp.nd rfl (.inl rfl)) pgs_nil))))
    (pss_one (ps_asg (pe_ix ix_list (pe_lst (pa_cons (pe_tup (pa_cons (pe_op op_add (pv 13) pe_int) (pa_cons (pv 14) pa_nil))) (pa_cons (pe_tup (pa_cons (pe_callB call_len_seq (by rfl) T.ml PySem.boot_len (pa_cons (pv 3) pa_nil)) (pa_cons (pv 14) pa_nil))) (pa_cons (pe_tup (pa_cons (pv 13) (pa_cons (pe_op op_mod (pe_op op_add (pv 14) pe_int) (pv 2)) pa_nil))) (pa_cons (pe_tup (pa_cons (pv 13) (pa_cons (pe_op op_add (pv 14) (pv 8)) pa_nil))) (pa_cons (pe_tup (pa_cons (pe_un un_neg pe_int) (pa_cons (pv 14) pa_nil))) (pa_cons (pe_tup (pa_cons (pe_op op_sub pe_int (pv 8)) (pa_cons (pv 14) pa_nil))) (pa_cons (pe_tup (pa_cons (pv 13) (pa_cons (pe_op op_sub (pe_un un_neg pe_int) (pv 8)) pa_nil))) (pa_cons (pe_tup (pa_cons (pe_op op_mod (pv 8) (pe_callB call_len_seq (by rfl) T.ml PySem.boot_len (pa_cons (pv 3) pa_nil))) (pa_cons (pe_op op_mod (pv 8) (pv 2)) pa_nil))) pa_nil))))))))) (pv 7) (fun _ _ => rfl)) (pg_sub (pv 10) (pv 6) set_list)))) pss_nil)
    (pss_one (ps_ret (pe_tup (pa_cons (pv 4) (pa_cons (pv 10) pa_nil)))))))))), ?_⟩
  refine ⟨fun σ' H' => ∃ st mn_ bd wy fr : Int, σ' = [some (.ref a1), some (.int kk), some (.int L), some (.ref a), some (.int st), some (.int mn_), some (.int bd), some (.int wy), some (.int fr), none, none, none, none, none, none] ∧ Same H H' ∧ 0 ≤ st ∧ st < L ∧ 0 ≤ bd ∧ 0 ≤ wy ∧ wy < 8, ?_, ?_⟩
  · refine ⟨.ref a1, rfl, .int kk, rfl, .int L, rfl, 10, 40, rfl, rfl, ⟨by decide, by decide, by decide⟩, (by show 5 ≤ sizeLine; decide), fun l1 nl1 => ?_⟩
    generalize e1 : upd H l1 _ = H1
    have s1 : Same H H1 := by rw [← e1]; exact same_upd nl1
    have z1 : H1 l1 = some (.lst ([L, 10, 20, 8, (10 : Int) ^ (40 : Int).toNat].map V.int)) := by rw [← e1]; exact upd_same
    refine ⟨a1, l1, ns, _, kk, rfl, s1.seq hS, h63, .inl (.inl z1), (by show 5 ≤ 1000; decide), ?_, fun H2 pd s2 np ep => ?_⟩
    · intro z hz
      simp only [List.mem_cons, List.not_mem_nil, or_false] at hz
      rcases hz with rfl | rfl | rfl | rfl | rfl
      · refine ⟨by omega, ?_⟩
        have h2 : z.natAbs < 2 ^ 10 := by omega
        have := (Nat.log2_lt (show z.natAbs ≠ 0 by omega)).mpr h2
        omega
      · exact ⟨by decide, by decide⟩
      · exact ⟨by decide, by decide⟩
      · exact ⟨by decide, by decide⟩
      · exact ⟨by decide +kernel, by decide +kernel⟩
    generalize rawF ns kk = ra at ep
    generalize (10 : Int) ^ (40 : Int).toNat = TT at ep
    have ep : H2 pd = some (.lst [.int (ra % L), .int (ra / L % 10), .int (ra / L / 10 % 20), .int (ra / L / 10 / 20 % 8), .int (ra / L / 10 / 20 / 8 % TT)]) := ep
    exact ⟨pd, _, rfl, .inl (.inl ep), rfl, _, _, rfl, _, _, rfl, _, _, rfl, _, _, rfl, _, _, rfl, rfl, _, _, _, _, _, rfl, s1.trans s2, Int.emod_nonneg _ (by omega), Int.emod_lt_of_pos _ (by omega), Int.emod_nonneg _ (by decide), Int.emod_nonneg _ (by decide), Int.emod_lt_of_pos _ (by decide)⟩
  rintro σ' H1 ⟨st, mn_, bd, wy, fr, rfl, s1, st0, st1, bd0, wy0, wy1⟩
  refine ⟨.int st, rfl, ?_⟩
  refine ⟨(by show 0 ≤ sizeLine; decide), fun o no => ?_⟩
  have s2 := same_upd (o := .lst []) no
  have z2 : upd H1 o (.lst []) o = some (.lst []) := upd_same
  have n0 : H o = none := Same.free s1 no
  have s12 := s1.trans s2
  generalize upd H1 o (.lst []) = H2 at s2 z2 s12 ⊢
  -- the walk
  refine ⟨fun σ' H' => ∃ (h : Int) (y11 y12 : Option V) (zs : List V) (ps : List Pr), σ' = [some (.ref a1), some (.int kk), some (.int L), some (.ref a), some (.int st), some (.int mn_), some (.int bd), some (.int wy), some (.int fr), some (.int h), some (.ref o), y11, y12, none, none] ∧ Same H H' ∧ H' o = some (.lst zs) ∧ PL H' zs ps ∧ ps.length ≤ 9 ∧ (ps ≠ [] → ss ≠ []), ?_, ?_⟩
  · refine ⟨.ref a1, rfl, .int kk, rfl, _, 20, rfl, rfl, (by show 1 ≤ sizeLine; decide), fun l1 nl1 => ?_⟩
    have q1 := same_upd (o := .lst [.int 97]) nl1
    refine ⟨l1, 9, _, rfl, rfl, upd_same, by decide, by decide, (by show 1 * 9 ≤ sizeLine; decide), fun l2 nl2 => ?_⟩
    generalize e3 : upd (upd H2 l1 _) l2 _ = H3
    have q2 : Same (upd H2 l1 (.lst [.int 97])) H3 := by rw [← e3]; exact same_upd nl2
    have z3 : H3 l2 = some (.lst (([97, 97, 97, 97, 97, 97, 97, 97, 97] : List Int).map V.int)) := by rw [← e3]; exact upd_same
    have s3 := s12.trans (q1.trans q2)
    refine ⟨a1, l2, ns, _, kk + 20, rfl, s3.seq hS, h63, .inl (.inl z3), (by show 9 ≤ 1000; decide), ?_, fun H4 pd s4 np ep => ?_⟩
    · intro z hz
      simp only [List.mem_cons, List.not_mem_nil, or_false, or_self] at hz
      rw [hz]; exact ⟨by decide, by decide⟩
    have hlen := digF_len (rawF ns (kk + 20)) [97, 97, 97, 97, 97, 97, 97, 97, 97]
    generalize digF (rawF ns (kk + 20)) [97, 97, 97, 97, 97, 97, 97, 97, 97] = ds at ep hlen
    refine ⟨.int mn_, rfl, mn_, rfl, pd, _, rfl, .inl (.inl ep), fun l5 nl5 => ?_⟩
    have s5 := same_upd (o := .lst (cutV (ds.map V.int) none (some mn_))) nl5
    have z5 : upd H4 l5 (.lst (cutV (ds.map V.int) none (some mn_))) l5 = some (.lst (cutV (ds.map V.int) none (some mn_))) := upd_same
    have lc := cutV_length (ds.map V.int) none (some mn_)
    have mc : ∀ v ∈ cutV (ds.map V.int) none (some mn_), ∃ r : Int, v = .int r := fun v hv => by
      unfold cutV at hv
      have := List.mem_of_mem_drop (List.mem_of_mem_take hv)
      obtain ⟨r, _, e⟩ := List.mem_map.mp this
      exact ⟨r, e.symm⟩
    generalize cutV (ds.map V.int) none (some mn_) = cs at *
    have s25 : Same H2 (upd H4 l5 (.lst cs)) := q1.trans (q2.trans (s4.trans s5))
    generalize upd H4 l5 (.lst cs) = H5 at z5 s25 ⊢
    have z25 := s25 _ _ z2
    have sH5 := s12.trans s25
    have hlo : l5 ≠ o := fun z => by rw [z, z25] at z5; cases z5; rw [z] at nl5; have := (q1.trans (q2.trans s4)) _ _ z2; rw [nl5] at this; cases this
    refine ⟨l5, rfl, ⟨_, .inl (.inl z5)⟩, for_list (xs := cs) (fun i σ' H' => ∃ (h : Int) (y11 y12 : Option V) (zs : List V) (ps : List Pr), σ' = [some (.ref a1), some (.int kk), some (.int L), some (.ref a), some (.int st), some (.int mn_), some (.int bd), some (.int wy), some (.int fr), some (.int h), some (.ref o), y11, y12, none, none] ∧ Same H H' ∧ H' l5 = some (.lst cs) ∧ H' o = some (.lst zs) ∧ PL H' zs ps ∧ ps.length ≤ i ∧ (ps ≠ [] → ss ≠ [])) ⟨st, none, none, [], [], rfl, sH5, z5, z25, PL.nil, Nat.le_refl _, fun z => absurd rfl z⟩ (fun i σ H6 _ hP => ?_) (fun i v σ H6 hv hP => ?_) (fun σ H6 hP => ?_)⟩
    · obtain ⟨_, _, _, _, _, _, _, z6, _⟩ := hP
      exact .inl (.inl z6)
    · obtain ⟨h, y11, y12, zs, ps, rfl, s6, z6, eo, pz, lp, hne⟩ := hP
      obtain ⟨r, rfl⟩ := mc v (List.mem_of_getElem? hv)
      have hi9 : i < 9 := by
        have := (List.getElem?_eq_some_iff.mp hv).1
        rw [List.length_map, hlen] at lc
        have : cs.length ≤ 9 := lc
        omega
      refine ⟨.ref a, rfl, .int h, rfl, a, xs, ss, h, rfl, .inl (.inl (s6 _ _ ea)), SL.ts (TS.of s6) sl, by omega, fun H7 l7 zs7 ps7 s7 n7 e7 p7 lp7 => ?_⟩
      refine ⟨.ref l7, rfl, (by show 0 ≤ sizeLine; decide), fun l8 n8 => ?_⟩
      have s8 := same_upd (o := .lst []) n8
      have s78 := s7.trans s8
      refine ⟨.list (ps7.map pD), .list [], .lst (.inl (.inl (s8 _ _ e7))) (PL.dp (PL.ts (TS.of s8) p7)), .lst (.inl (.inl upd_same)) .nil, shapedPr _, rfl, _, rfl, ?_⟩
      generalize upd H7 l8 (.lst []) = H8 at s8 s78 ⊢
      cases ps7 with
      | nil =>
        refine iteF ?_
        exact ⟨h, _, _, zs, ps, rfl, s6.trans s78, s78 _ _ z6, s78 _ _ eo, PL.ts (TS.of s78) pz, by omega, hne⟩
      | cons p0 pr =>
        refine iteT ?_
        have hss : ss ≠ [] := fun z => by rw [z] at lp7; simp at lp7
        have hz7 : 0 < zs7.length := by rw [p7.len]; exact Nat.succ_pos _
        have m0 := Int.emod_nonneg r (show (zs7.length : Int) ≠ 0 by omega)
        have m1 := Int.emod_lt_of_pos r (show (0 : Int) < (zs7.length : Int) by omega)
        obtain ⟨j, hj⟩ : ∃ j : Nat, r % (zs7.length : Int) = (j : Int) := ⟨(r % (zs7.length : Int)).toNat, by omega⟩
        obtain ⟨vj, gz⟩ : ∃ v, zs7[j]? = some v := ⟨_, List.getElem?_eq_getElem (show j < zs7.length by omega)⟩
        obtain ⟨tp, pp, rfl, htp, hpp⟩ := p7.get gz
        have eo8 := s78 _ _ eo
        refine ⟨.ref o, rfl, .inl ⟨rfl, _, .inl (.inl eo8)⟩, .ref l7, rfl, .int r, rfl, .ref l7, rfl, l7, _, rfl, .inl (.inl (.inl (s8 _ _ e7))), _, _, rfl, rfl, (show (0 : Int) < (zs7.length : Int) by omega), l7, _, _, .ref tp, rfl, rfl, .inl (.inl (s8 _ _ e7)), by rw [hj]; exact atI_nat gz, ?_⟩
        refine ⟨o, zs, _, rfl, rfl, eo8, by rw [pz.len]; exact Nat.lt_of_le_of_lt (show _ ≤ 9 by omega) (by decide), ?_⟩
        have pz9 : PL (upd H8 o (.lst (zs ++ [.ref tp]))) (zs ++ [.ref tp]) (ps ++ [pp]) := PL.ts (TS.lst eo8) ((PL.ts (TS.of s78) pz).snoc (a := pp.1) (b := pp.2) (s8 _ _ htp))
        have htp9 : upd H8 o (.lst (zs ++ [.ref tp])) tp = some (.tup [.int pp.1, .int pp.2]) := TS.lst eo8 _ _ (s8 _ _ htp)
        refine ⟨.ref o, rfl, 1, rfl, o, _, -1, .ref tp, rfl, rfl, .inl (.inl upd_same), atI_last zs (.ref tp), tp, _, 1, .int pp.2, rfl, rfl, .inl (.inl htp9), rfl, ?_⟩
        exact ⟨pp.2, _, _, _, _, rfl, same_over (s6.trans s78) n0, by rw [upd_ne hlo]; exact s78 _ _ z6, upd_same, pz9, by rw [List.length_append]; show ps.length + 1 ≤ _; omega, fun _ => hss⟩
    · obtain ⟨h, y11, y12, zs, ps, rfl, s6, z6, eo, pz, lp, hne⟩ := hP
      refine ⟨h, _, _, zs, ps, rfl, s6, eo, pz, ?_, hne⟩
      rw [List.length_map, hlen] at lc
      have : cs.length ≤ 9 := lc
      omega
  rintro σ' H3 ⟨h, y11, y12, zs, ps, rfl, s3, eo, pz, lp, hne⟩
  -- spoilt
  refine ⟨fun σ' H' => ∃ (y13 y14 : Option V) (zs : List V) (ps : List Pr), σ' = [some (.ref a1), some (.int kk), some (.int L), some (.ref a), some (.int st), some (.int mn_), some (.int bd), some (.int wy), some (.int fr), some (.int h), some (.ref o), y11, y12, y13, y14] ∧ Same H H' ∧ H' o = some (.lst zs) ∧ PL H' zs ps ∧ ps.length ≤ 9, ?_, ?_⟩
  · refine ⟨.int bd, rfl, .ref o, rfl, o, _, rfl, .inl (.inl (.inl eo)), _, _, rfl, rfl, _, rfl, ite2 (fun c => ?_) (fun c => ?_)⟩
    · have c : bd < (zs.length : Int) := of_decide_eq_true c
      obtain ⟨b, rfl⟩ : ∃ b : Nat, bd = (b : Int) := ⟨bd.toNat, by omega⟩
      have hss : ss ≠ [] := hne fun z => by rw [pz.len, z] at c; simp at c; omega
      have hx0 : 0 < xs.length := by rw [sl.len]; exact List.length_pos_iff.mpr hss
      obtain ⟨vb, gz⟩ : ∃ v, zs[b]? = some v := ⟨_, List.getElem?_eq_getElem (show b < zs.length by omega)⟩
      obtain ⟨tp, pp, rfl, htp, hpp⟩ := pz.get gz
      have ea3 := s3 _ _ ea
      refine ⟨.ref o, rfl, .int (b : Int), rfl, o, _, _, .ref tp, rfl, rfl, .inl (.inl eo), atI_nat gz, tp, _, rfl, .inl (.inl htp), rfl, _, _, rfl, _, _, rfl, rfl, ?_⟩
      refine ⟨.int pp.1, rfl, _, 1, rfl, rfl, .int pp.2, rfl, (by show 2 ≤ sizeLine; decide), fun t0 nt0 => ?_⟩
      have q0 := same_upd (o := .tup [.int (pp.1 + 1), .int pp.2]) nt0
      have z0 : upd H3 t0 (.tup [.int (pp.1 + 1), .int pp.2]) t0 = some (.tup [.int (pp.1 + 1), .int pp.2]) := upd_same
      generalize upd H3 t0 (.tup [.int (pp.1 + 1), .int pp.2]) = G0 at q0 z0 ⊢
      have w1 : Same H3 G0 := q0
      have P0 := PL.nil.snoc (a := (pp.1 + 1)) (b := pp.2) z0
      refine ⟨.ref a, rfl, a, _, rfl, .inl (.inl (.inl (w1 _ _ ea3))), .int pp.2, rfl, (by show 2 ≤ sizeLine; decide), fun t1 nt1 => ?_⟩
      have q1 := same_upd (o := .tup [.int (xs.length : Int), .int pp.2]) nt1
      have z1 : upd G0 t1 (.tup [.int (xs.length : Int), .int pp.2]) t1 = some (.tup [.int (xs.length : Int), .int pp.2]) := upd_same
      generalize upd G0 t1 (.tup [.int (xs.length : Int), .int pp.2]) = G1 at q1 z1 ⊢
      have w2 : Same H3 G1 := w1.trans q1
      have P1 := (PL.ts (TS.of q1) P0).snoc (a := (xs.length : Int)) (b := pp.2) z1
      refine ⟨.int pp.1, rfl, .int pp.2, rfl, _, 1, rfl, rfl, .int L, rfl, _, _, rfl, rfl, (show (0 : Int) < L by omega), (by show 2 ≤ sizeLine; decide), fun t2 nt2 => ?_⟩
      have q2 := same_upd (o := .tup [.int pp.1, .int ((pp.2 + 1) % L)]) nt2
      have z2 : upd G1 t2 (.tup [.int pp.1, .int ((pp.2 + 1) % L)]) t2 = some (.tup [.int pp.1, .int ((pp.2 + 1) % L)]) := upd_same
      generalize upd G1 t2 (.tup [.int pp.1, .int ((pp.2 + 1) % L)]) = G2 at q2 z2 ⊢
      have w3 : Same H3 G2 := w2.trans q2
      have P2 := (PL.ts (TS.of q2) P1).snoc (a := pp.1) (b := ((pp.2 + 1) % L)) z2
      refine ⟨.int pp.1, rfl, .int pp.2, rfl, .int fr, rfl, _, _, rfl, rfl, (by show 2 ≤ sizeLine; decide), fun t3 nt3 => ?_⟩
      have q3 := same_upd (o := .tup [.int pp.1, .int (pp.2 + fr)]) nt3
      have z3 : upd G2 t3 (.tup [.int pp.1, .int (pp.2 + fr)]) t3 = some (.tup [.int pp.1, .int (pp.2 + fr)]) := upd_same
      generalize upd G2 t3 (.tup [.int pp.1, .int (pp.2 + fr)]) = G3 at q3 z3 ⊢
      have w4 : Same H3 G3 := w3.trans q3
      have P3 := (PL.ts (TS.of q3) P2).snoc (a := pp.1) (b := (pp.2 + fr)) z3
      refine ⟨1, rfl, .int pp.2, rfl, (by show 2 ≤ sizeLine; decide), fun t4 nt4 => ?_⟩
      have q4 := same_upd (o := .tup [.int (-1), .int pp.2]) nt4
      have z4 : upd G3 t4 (.tup [.int (-1), .int pp.2]) t4 = some (.tup [.int (-1), .int pp.2]) := upd_same
      generalize upd G3 t4 (.tup [.int (-1), .int pp.2]) = G4 at q4 z4 ⊢
      have w5 : Same H3 G4 := w4.trans q4
      have P4 := (PL.ts (TS.of q4) P3).snoc (a := (-1)) (b := pp.2) z4
      refine ⟨.int fr, rfl, _, _, rfl, rfl, .int pp.2, rfl, (by show 2 ≤ sizeLine; decide), fun t5 nt5 => ?_⟩
      have q5 := same_upd (o := .tup [.int (0 - fr), .int pp.2]) nt5
      have z5 : upd G4 t5 (.tup [.int (0 - fr), .int pp.2]) t5 = some (.tup [.int (0 - fr), .int pp.2]) := upd_same
      generalize upd G4 t5 (.tup [.int (0 - fr), .int pp.2]) = G5 at q5 z5 ⊢
      have w6 : Same H3 G5 := w5.trans q5
      have P5 := (PL.ts (TS.of q5) P4).snoc (a := (0 - fr)) (b := pp.2) z5
      refine ⟨.int pp.1, rfl, 1, rfl, .int fr, rfl, _, _, rfl, rfl, (by show 2 ≤ sizeLine; decide), fun t6 nt6 => ?_⟩
      have q6 := same_upd (o := .tup [.int pp.1, .int (-1 - fr)]) nt6
      have z6 : upd G5 t6 (.tup [.int pp.1, .int (-1 - fr)]) t6 = some (.tup [.int pp.1, .int (-1 - fr)]) := upd_same
      generalize upd G5 t6 (.tup [.int pp.1, .int (-1 - fr)]) = G6 at q6 z6 ⊢
      have w7 : Same H3 G6 := w6.trans q6
      have P6 := (PL.ts (TS.of q6) P5).snoc (a := pp.1) (b := (-1 - fr)) z6
      refine ⟨.int fr, rfl, .ref a, rfl, a, _, rfl, .inl (.inl (.inl (w7 _ _ ea3))), _, _, rfl, rfl, (show (0 : Int) < (xs.length : Int) by omega), .int fr, rfl, .int L, rfl, _, _, rfl, rfl, (show (0 : Int) < L by omega), (by show 2 ≤ sizeLine; decide), fun t7 nt7 => ?_⟩
      have q7 := same_upd (o := .tup [.int (fr % (xs.length : Int)), .int (fr % L)]) nt7
      have z7 : upd G6 t7 (.tup [.int (fr % (xs.length : Int)), .int (fr % L)]) t7 = some (.tup [.int (fr % (xs.length : Int)), .int (fr % L)]) := upd_same
      generalize upd G6 t7 (.tup [.int (fr % (xs.length : Int)), .int (fr % L)]) = G7 at q7 z7 ⊢
      have w8 : Same H3 G7 := w7.trans q7
      have P7 := (PL.ts (TS.of q7) P6).snoc (a := (fr % (xs.length : Int))) (b := (fr % L)) z7
      refine ⟨(by show 8 ≤ sizeLine; decide), fun l9 nl9 => ?_⟩
      generalize e9 : upd G7 l9 _ = HB
      have s10 : Same G7 HB := by rw [← e9]; exact same_upd nl9
      have z10 : HB l9 = some (.lst [.ref t0, .ref t1, .ref t2, .ref t3, .ref t4, .ref t5, .ref t6, .ref t7]) := by rw [← e9]; exact upd_same
      have P9 : PL HB [.ref t0, .ref t1, .ref t2, .ref t3, .ref t4, .ref t5, .ref t6, .ref t7] ([((pp.1 + 1), pp.2), ((xs.length : Int), pp.2), (pp.1, ((pp.2 + 1) % L)), (pp.1, (pp.2 + fr)), ((-1), pp.2), ((0 - fr), pp.2), (pp.1, (-1 - fr)), ((fr % (xs.length : Int)), (fr % L))] : List Pr) := PL.ts (TS.of s10) P7
      have wB := w8.trans s10
      obtain ⟨k, rfl⟩ : ∃ k : Nat, wy = (k : Int) := ⟨wy.toNat, by omega⟩
      have hk : k < 8 := by omega
      have hv : ([.ref t0, .ref t1, .ref t2, .ref t3, .ref t4, .ref t5, .ref t6, .ref t7] : List V)[k]? = some ([.ref t0, .ref t1, .ref t2, .ref t3, .ref t4, .ref t5, .ref t6, .ref t7] : List V)[k] := List.getElem?_eq_getElem hk
      generalize ([.ref t0, .ref t1, .ref t2, .ref t3, .ref t4, .ref t5, .ref t6, .ref t7] : List V)[k] = v at hv
      obtain ⟨tq, pq, rfl, htq, hpq⟩ := P9.get hv
      have eoB := wB _ _ eo
      refine ⟨.int (k : Int), rfl, l9, _, _, .ref tq, rfl, rfl, .inl (.inl z10), atI_nat hv, .ref o, rfl, .int (b : Int), rfl, o, _, _, b, rfl, rfl, eoB, ixN_nat (by omega), ?_⟩
      exact ⟨_, _, _, ps.set b pq, rfl, same_over (s3.trans wB) n0, upd_same, PL.ts (TS.lst eoB) (PL.set (PL.ts (TS.of wB) pz) htq), by rw [List.length_set]; exact lp⟩
    · exact ⟨_, _, zs, ps, rfl, s3, eo, pz, lp⟩
  rintro σ' H4 ⟨y13, y14, zs, ps, rfl, s4, eo, pz, lp⟩
  refine ⟨.int st, rfl, .ref o, rfl, (by show 2 ≤ sizeLine; decide), fun t nt => ?_⟩
  have s5 := same_upd (o := .tup [.int st, .ref o]) nt
  exact q _ t o zs ps st (s4.trans s5) upd_same n0 (s5 _ _ eo) (PL.ts (TS.of s5) pz) lp st0 st1
end
end Rep
namespace Rep
open PySem L2
/-! the law's drawn sayings -/
theorem at4 {a b c d r : Int} : ∃ v, atI [V.int a, V.int b, V.int c, V.int d] (r % 4) = some (.int v) ∧ (v = a ∨ v = b ∨ v = c ∨ v = d) := by
  have h : r % 4 = 0 ∨ r % 4 = 1 ∨ r % 4 = 2 ∨ r % 4 = 3 := by omega
  rcases h with h | h | h | h <;> rw [h]
  · exact ⟨a, rfl, .inl rfl⟩
  · exact ⟨b, rfl, .inr (.inl rfl)⟩
  · exact ⟨c, rfl, .inr (.inr (.inl rfl))⟩
  · exact ⟨d, rfl, .inr (.inr (.inr rfl))⟩
theorem at3 {a b c r : Int} : ∃ v, atI [V.int a, V.int b, V.int c] (r % 3) = some (.int v) ∧ (v = a ∨ v = b ∨ v = c) := by
  have h : r % 3 = 0 ∨ r % 3 = 1 ∨ r % 3 = 2 := by omega
  rcases h with h | h | h <;> rw [h]
  · exact ⟨a, rfl, .inl rfl⟩
  · exact ⟨b, rfl, .inr (.inl rfl)⟩
  · exact ⟨c, rfl, .inr (.inr rfl)⟩
def spSay (K : PySem.W.Frag) : Sp := fun vs H Q _ => ∃ (a : Addr) (ns : List Int) (k L : Int), vs = [.ref a, .int k, .int L] ∧ SqL K H a (ns.map V.int) ∧ ns.length ≤ 63 ∧ 1 ≤ L ∧ L ≤ 10 ^ 41 ∧ ∀ H' v s, Same H H' → IsSy H' v s → Good L s → Q v H'
abbrev nSay : List Str := ["_law_script", "_law_k", "_law_length", "_law_way", "_law_one", "_law_other", "_law_many", "_law_turned", "_law_lead"]
theorem scSay : FnScope nSay ["_law_script", "_law_k", "_law_length"] (defScope s_law_saying) := ⟨rfl, rfl, rfl, by decide +kernel, rfl, by decide +kernel, by decide +kernel⟩
theorem p40 : CPow 10 40 := ⟨by decide, by decide, by decide⟩
section
variable {P : Program} {w : World} {K : PySem.W.Frag} {mg : Str → Option Value} {base : Heap}
theorem ok_say {f fD : Addr} {fd fdD : FuncData} {k : Nat} (F : Fun K "_law_saying" "_law_saying" s_law_saying f fd) (GD : FnOk P w K mg base CX0 k fD fdD ["_law_script", "_law_k", "_law_sizes"] (spDig K)) (kD : PySem.W.keepIn K (.ref fD) = true) (bD : Binds K fdD ["_law_script", "_law_k", "_law_sizes"] []) (mD_ : mg "_law_digits" = some (.ref fD)) (mm : mg "min" = none) (mM : mg "max" = none) : FnOk P w K mg base CX0 (k + 1) f fd ["_law_script", "_law_k", "_law_length"] (spSay K) := by
  refine F.ok scSay (fun vs H Q E h => ?_) (fun cdv A outer s H vs Q E hr h => ?_)
  · obtain ⟨a, ns, z, L, rfl, _⟩ := h; rfl
  obtain ⟨a, ns, z, L, rfl, hS, h63, hL1, hL2, q⟩ := h
  refine ⟨_, (pss_cons (ps_asg (pe_call GD hr (by rfl) mD_ kD bD .nil pass0 (pa_cons (pv 0) (pa_cons (pv 1) (pa_cons (pe_lst (pa_cons pe_int (pa_cons (pe_op op_pow pe_int pe_int) (pa_cons (pe_op op_pow pe_int pe_int) (pa_cons (pe_op op_pow pe_int pe_int) (pa_cons pe_int (pa_cons (pe_op op_pow pe_int pe_int) pa_nil))))))) pa_nil)))) (pg_lst rfl (pgs_cons (pg_name (i := 3) scSay.nd rfl (.inl rfl)) (pgs_cons (pg_name (i := 4) scSay.nd rfl (.inl rfl)) (pgs_cons (pg_name (i := 5) scSay.nd rfl (.inl rfl)) (pgs_cons (pg_name (i := 6) scSay.nd rfl (.inl rfl)) (pgs_cons (pg_name (i := 7) scSay.nd rfl (.inl rfl)) (pgs_cons (pg_name (i := 8) scSay.nd rfl (.inl rfl)) pgs_nil))))))))
    (C8.pss_cut (ps_set (i := 6) scSay.nd rfl (.inl rfl) (pe_op op_add pe_int (pe_op op_mod (pv 6) (pe_ix ix_list (pe_lst (pa_cons (pv 2) (pa_cons (pe_callB (call_max2 rfl) (by rfl) mM (by decide +kernel) (pa_cons pe_int (pa_cons (pe_op op_fdivW (pv 2) pe_int) pa_nil))) (pa_cons (pe_callB (call_max2 rfl) (by rfl) mM (by decide +kernel) (pa_cons pe_int (pa_cons (pe_op op_fdivW (pv 2) pe_int) pa_nil))) (pa_cons (pv 2) pa_nil))))) (pe_op op_mod (pv 3) pe_int) (fun _ _ => rfl)))))
    (pss_cons (ps_set (i := 4) scSay.nd rfl (.inl rfl) (pe_op op_mod (pv 4) (pe_op op_add (pe_op op_sub (pv 2) (pv 6)) pe_int)))
    (pss_cons (ps_set (i := 5) scSay.nd rfl (.inl rfl) (pe_op op_mod (pv 5) (pe_op op_add (pe_op op_sub (pv 2) (pv 6)) pe_int)))
    (C8.pss_cut (ps_if (PW.pt (pw_or (pt_cmpR op_eq (pv 3) pe_int (nomark _)) (pw_or1 (pt_cmpR op_eq (pv 3) pe_int (nomark _))))) (pss_one (ps_set (i := 5) scSay.nd rfl (.inl rfl) (pe_callB (call_min2 rfl) (by rfl) mm (by decide +kernel) (pa_cons (pe_op op_sub (pv 2) (pv 6)) (pa_cons (pe_op op_add (pv 4) (pe_op op_mod (pv 8) (pe_callB (call_max2 rfl) (by rfl) mM (by decide +kernel) (pa_cons pe_int (pa_cons (pv 6) pa_nil))))) pa_nil))))) pss_nil)
    (C8.pss_cut (ps_if (pt_cmpR op_eq (pv 3) pe_int (nomark _)) (pss_one (ps_set (i := 5) scSay.nd rfl (.inl rfl) (pv 4))) pss_nil)
    (C8.pss_cut (ps_if (pt_cmpR op_eq (pv 3) pe_int (nomark _)) (pss_cons (ps_set (i := 4) scSay.nd rfl (.inl rfl) pe_int)
    (pss_one (ps_set (i := 5) scSay.nd rfl (.inl rfl) (pe_op op_sub (pv 2) (pv 6))))) pss_nil)
    (pss_one (ps_ret (pe_tup (pa_cons (pv 4) (pa_cons (pv 5) (pa_cons (pv 6) (pa_cons (pe_or (pe_cmpR op_eq (pv 7) pe_int (nomark _)) (pe_one (pe_cmpR op_eq (pv 3) pe_int (nomark _)))) pa_nil)))))))))))))), ?_⟩
  -- the digits
  refine ⟨.ref a, rfl, .int z, rfl, 10, 40, rfl, rfl, p40, 10, 40, rfl, rfl, p40, 10, 40, rfl, rfl, p40, 10, 40, rfl, rfl, p40, (by show 6 ≤ sizeLine; decide), fun l1 nl1 => ?_⟩
  have s1 := same_upd (o := .lst [.int 8, .int (10 ^ (40 : Int).toNat), .int (10 ^ (40 : Int).toNat), .int (10 ^ (40 : Int).toNat), .int 3, .int (10 ^ (40 : Int).toNat)]) nl1
  refine ⟨a, l1, ns, [8, 10 ^ (40 : Int).toNat, 10 ^ (40 : Int).toNat, 10 ^ (40 : Int).toNat, 3, 10 ^ (40 : Int).toNat], z, rfl, s1.seq hS, h63, .inl (.inl upd_same), by decide, fun y hy => ?_, fun H2 q2 s2 _ eq2 => ?_⟩
  · have : y = 8 ∨ y = 10 ^ (40 : Int).toNat ∨ y = 3 := by
      simp only [List.mem_cons, List.mem_nil_iff, or_false] at hy
      rcases hy with h | h | h | h | h | h
      · exact .inl h
      · exact .inr (.inl h)
      · exact .inr (.inl h)
      · exact .inr (.inl h)
      · exact .inr (.inr h)
      · exact .inr (.inl h)
    rcases this with rfl | rfl | rfl
    · exact ⟨by decide, by decide⟩
    · exact ⟨by decide +kernel, by decide +kernel⟩
    · exact ⟨by decide, by decide⟩
  generalize hT : (10 : Int) ^ (40 : Int).toNat = T at eq2
  have hT0 : 0 < T := by rw [← hT]; decide +kernel
  generalize rawF ns z = ra at eq2
  refine ⟨q2, [.int (ra % 8), .int (ra / 8 % T), .int (ra / 8 / T % T), .int (ra / 8 / T / T % T), .int (ra / 8 / T / T / T % 3), .int (ra / 8 / T / T / T / 3 % T)], rfl, .inl (.inl eq2), rfl, _, _, rfl, _, _, rfl, _, _, rfl, _, _, rfl, _, _, rfl, _, _, rfl, rfl, ?_⟩
  have sH2 : Same H H2 := s1.trans s2
  generalize ra % 8 = way
  generalize ra / 8 % T = one
  generalize ra / 8 / T % T = oth
  generalize ra / 8 / T / T % T = man
  generalize ra / 8 / T / T / T % 3 = tur
  generalize ra / 8 / T / T / T / 3 % T = lea
  -- many
  refine ⟨fun σ' H' => ∃ m : Int, σ' = [some (.ref a), some (.int z), some (.int L), some (.int way), some (.int one), some (.int oth), some (.int m), some (.int tur), some (.int lea)] ∧ Same H H' ∧ 1 ≤ m ∧ m ≤ L, ?_, ?_⟩
  · have d2 : CDivW L 2 := wide_div (b := 3) (by decide) (by decide) (by decide) (by decide)
    have d5 : CDivW L 5 := wide_div (b := 3) (by decide) (by decide) (by decide) (by decide)
    refine ⟨.int man, rfl, .int L, rfl, .int L, rfl, _, 2, rfl, rfl, d2, 1, L / 2, rfl, .int L, rfl, _, 5, rfl, rfl, d5, 1, L / 5, rfl, .int L, rfl, (by show 4 ≤ sizeLine; decide), fun l2 nl2 => ?_⟩
    have b2 : 1 ≤ (if L / 2 > 1 then L / 2 else 1) ∧ (if L / 2 > 1 then L / 2 else 1) ≤ L := by split <;> omega
    have b5 : 1 ≤ (if L / 5 > 1 then L / 5 else 1) ∧ (if L / 5 > 1 then L / 5 else 1) ≤ L := by split <;> omega
    generalize (if L / 2 > 1 then L / 2 else 1) = M2 at b2
    generalize (if L / 5 > 1 then L / 5 else 1) = M5 at b5
    obtain ⟨v, hv, hv2⟩ := at4 (a := L) (b := M2) (c := M5) (d := L) (r := way)
    have v1 : 1 ≤ v ∧ v ≤ L := by omega
    refine ⟨.int way, rfl, _, 4, rfl, rfl, (by show (0 : Int) < 4; decide), l2, _, _, .int v, rfl, rfl, .inl (.inl upd_same), hv, _, _, rfl, rfl, (by show 0 < v; omega), 1, _, rfl, rfl, 1 + man % v, rfl, sH2.trans (same_upd nl2), ?_, ?_⟩
    · have := Int.emod_nonneg man (show v ≠ 0 by omega); omega
    · have := Int.emod_lt_of_pos man (show 0 < v by omega); omega
  rintro σ' H3 ⟨m, rfl, s3, m1, m2⟩
  refine ⟨.int one, rfl, .int L, rfl, .int m, rfl, _, _, rfl, rfl, _, 1, rfl, rfl, _, _, rfl, rfl, (by show 0 < L - m + 1; omega), ?_⟩
  refine ⟨.int oth, rfl, .int L, rfl, .int m, rfl, _, _, rfl, rfl, _, 1, rfl, rfl, _, _, rfl, rfl, (by show 0 < L - m + 1; omega), ?_⟩
  have o1 : 0 ≤ one % (L - m + 1) ∧ one % (L - m + 1) + m ≤ L := by
    have := Int.emod_nonneg one (show L - m + 1 ≠ 0 by omega)
    have := Int.emod_lt_of_pos one (show 0 < L - m + 1 by omega)
    omega
  have o2 : 0 ≤ oth % (L - m + 1) ∧ oth % (L - m + 1) + m ≤ L := by
    have := Int.emod_nonneg oth (show L - m + 1 ≠ 0 by omega)
    have := Int.emod_lt_of_pos oth (show 0 < L - m + 1 by omega)
    omega
  show C8.tCut _ _ _ [some (.ref a), some (.int z), some (.int L), some (.int way), some (.int (one % (L - m + 1))), some (.int (oth % (L - m + 1))), some (.int m), some (.int tur), some (.int lea)] H3
  generalize one % (L - m + 1) = p at *
  generalize oth % (L - m + 1) = r at *
  -- way 1, 5
  refine ⟨fun σ' H' => ∃ r : Int, σ' = [some (.ref a), some (.int z), some (.int L), some (.int way), some (.int p), some (.int r), some (.int m), some (.int tur), some (.int lea)] ∧ H' = H3 ∧ 0 ≤ r ∧ r + m ≤ L, ?_, ?_⟩
  · have mx : 0 < (if m > 1 then m else 1) := by split <;> omega
    refine ⟨.int way, rfl, rfl, _, rfl, ite2 (fun c => iteT ?_) (fun c => ?_)⟩
    · refine ⟨.int L, rfl, .int m, rfl, _, _, rfl, rfl, .int p, rfl, .int lea, rfl, .int m, rfl, 1, m, rfl, _, _, rfl, rfl, mx, _, _, rfl, rfl, _, _, rfl, ?_⟩
      generalize (if m > 1 then m else 1) = M at mx
      have := Int.emod_nonneg lea (show M ≠ 0 by omega)
      generalize lea % M = q0 at *
      exact ⟨_, rfl, rfl, by split <;> omega, by split <;> omega⟩
    refine ⟨.int way, rfl, rfl, _, rfl, ite2 (fun c => ?_) (fun c => ?_)⟩
    · refine ⟨.int L, rfl, .int m, rfl, _, _, rfl, rfl, .int p, rfl, .int lea, rfl, .int m, rfl, 1, m, rfl, _, _, rfl, rfl, mx, _, _, rfl, rfl, _, _, rfl, ?_⟩
      generalize (if m > 1 then m else 1) = M at mx
      have := Int.emod_nonneg lea (show M ≠ 0 by omega)
      generalize lea % M = q0 at *
      exact ⟨_, rfl, rfl, by split <;> omega, by split <;> omega⟩
    exact ⟨r, rfl, rfl, o2.1, o2.2⟩
  rintro σ' H' ⟨r, rfl, rfl, r1, r2⟩
  -- way 6
  refine ⟨fun σ' H'' => ∃ r : Int, σ' = [some (.ref a), some (.int z), some (.int L), some (.int way), some (.int p), some (.int r), some (.int m), some (.int tur), some (.int lea)] ∧ H'' = H' ∧ 0 ≤ r ∧ r + m ≤ L, ?_, ?_⟩
  · refine ⟨.int way, rfl, rfl, _, rfl, ite2 (fun c => ?_) (fun c => ?_)⟩
    · exact ⟨.int p, rfl, p, rfl, rfl, o1.1, o1.2⟩
    · exact ⟨r, rfl, rfl, r1, r2⟩
  rintro σ' H'' ⟨r, rfl, rfl, r1, r2⟩
  -- way 7
  refine ⟨fun σ' H1 => ∃ p r : Int, σ' = [some (.ref a), some (.int z), some (.int L), some (.int way), some (.int p), some (.int r), some (.int m), some (.int tur), some (.int lea)] ∧ H1 = H'' ∧ 0 ≤ p ∧ p + m ≤ L ∧ 0 ≤ r ∧ r + m ≤ L, ?_, ?_⟩
  · refine ⟨.int way, rfl, rfl, _, rfl, ite2 (fun c => ?_) (fun c => ?_)⟩
    · exact ⟨.int L, rfl, .int m, rfl, _, _, rfl, rfl, 0, L - m, rfl, rfl, by omega, by omega, by omega, by omega⟩
    · exact ⟨p, r, rfl, rfl, o1.1, o1.2, r1, r2⟩
  rintro σ' H1 ⟨p, r, rfl, rfl, p1, p2, r1, r2⟩
  refine ⟨.int p, rfl, .int r, rfl, .int m, rfl, ?_⟩
  have fin : ∀ b : Bool, ([V.int p, .int r, .int m, .bl b] : List V).length ≤ sizeLine ∧ ∀ t, H1 t = none → Q (.ref t) (upd H1 t (.tup [V.int p, .int r, .int m, .bl b])) := fun b => by
    refine ⟨by show 4 ≤ sizeLine; decide, fun t nt => ?_⟩
    exact q _ _ ⟨p, r, m, b⟩ (s3.trans (same_upd nt)) (IsSy.of upd_same) ⟨p1, r1, m1, p2, r2⟩
  refine ⟨.int tur, rfl, rfl, _, rfl, ite2 (fun c => fin true) (fun c => ?_)⟩
  exact ⟨.int way, rfl, rfl, fin _⟩
end
end Rep
namespace Rep
open PySem L2
/-! the law's own comparison: of equal data it is True -/
def tyN : PyData → String
  | .none => "NoneType"
  | .bool _ => "bool"
  | .int _ => "int"
  | .str _ => "str"
  | .list _ => "list"
  | .tuple _ => "tuple"
  | .dict _ => "dict"
theorem DT.ty {K : PySem.W.Frag} {H : Hp} {n : Nat} {v : V} {d : PyData} (h : DT H n v d) : TyX K H v (.type (tyN d)) := by
  cases h with
  | non => exact .base .non
  | bl b => exact .base (.bl b)
  | int i => exact .base (.int i)
  | str x => exact .base (.str x)
  | lst e _ _ _ => exact .base (.lst e)
  | tup e _ _ _ => exact .base (.tup e)
theorem kit_any {H : Hp} {n : Nat} {v : V} {d : PyData} (h : DT H n v d) : (∃ b, kitB (tyN d) "bool" = some b) ∧ (∃ b, kitB (tyN d) "int" = some b) ∧ (∃ b, kitB (tyN d) "list" = some b) ∧ (∃ b, kitB (tyN d) "tuple" = some b) ∧ (∃ b, kitB (tyN d) "str" = some b) := by
  cases h with
  | non => exact ⟨⟨false, by decide +kernel⟩, ⟨false, by decide +kernel⟩, ⟨false, by decide +kernel⟩, ⟨false, by decide +kernel⟩, ⟨false, by decide +kernel⟩⟩
  | bl b => exact ⟨⟨true, show kitB "bool" "bool" = some true by decide +kernel⟩, ⟨true, show kitB "bool" "int" = some true by decide +kernel⟩, ⟨false, show kitB "bool" "list" = some false by decide +kernel⟩, ⟨false, show kitB "bool" "tuple" = some false by decide +kernel⟩, ⟨false, show kitB "bool" "str" = some false by decide +kernel⟩⟩
  | int i => exact ⟨⟨false, show kitB "int" "bool" = some false by decide +kernel⟩, ⟨true, show kitB "int" "int" = some true by decide +kernel⟩, ⟨false, show kitB "int" "list" = some false by decide +kernel⟩, ⟨false, show kitB "int" "tuple" = some false by decide +kernel⟩, ⟨false, show kitB "int" "str" = some false by decide +kernel⟩⟩
  | str x => exact ⟨⟨false, show kitB "str" "bool" = some false by decide +kernel⟩, ⟨false, show kitB "str" "int" = some false by decide +kernel⟩, ⟨false, show kitB "str" "list" = some false by decide +kernel⟩, ⟨false, show kitB "str" "tuple" = some false by decide +kernel⟩, ⟨true, show kitB "str" "str" = some true by decide +kernel⟩⟩
  | lst _ _ _ _ => exact ⟨⟨false, show kitB "list" "bool" = some false by decide +kernel⟩, ⟨false, show kitB "list" "int" = some false by decide +kernel⟩, ⟨true, show kitB "list" "list" = some true by decide +kernel⟩, ⟨false, show kitB "list" "tuple" = some false by decide +kernel⟩, ⟨false, show kitB "list" "str" = some false by decide +kernel⟩⟩
  | tup _ _ _ _ => exact ⟨⟨false, show kitB "tuple" "bool" = some false by decide +kernel⟩, ⟨false, show kitB "tuple" "int" = some false by decide +kernel⟩, ⟨false, show kitB "tuple" "list" = some false by decide +kernel⟩, ⟨true, show kitB "tuple" "tuple" = some true by decide +kernel⟩, ⟨false, show kitB "tuple" "str" = some false by decide +kernel⟩⟩
structure Two (H : Hp) (m : Nat) (xs ys : List V) : Prop where
  few : xs.length ≤ 14000000
  len : xs.length = ys.length
  at_ : ∀ (i : Nat) (u v : V), xs[i]? = some u → ys[i]? = some v → ∃ d, DT H m u d ∧ DT H m v d
theorem two_of {H : Hp} {m : Nat} {xs ys : List V} {ds : List PyData} (l0 : xs.length ≤ 14000000) (l1 : xs.length = ds.length) (l2 : ys.length = ds.length) (h1 : ∀ (i : Nat) (x : V) (d : PyData), xs[i]? = some x → ds[i]? = some d → DT H m x d) (h2 : ∀ (i : Nat) (x : V) (d : PyData), ys[i]? = some x → ds[i]? = some d → DT H m x d) : Two H m xs ys := by
  refine ⟨l0, l1.trans l2.symm, fun i u v hu hv => ?_⟩
  have hi : i < ds.length := by
    have := (List.getElem?_eq_some_iff.mp hu).1
    omega
  exact ⟨ds[i], h1 i u _ hu (List.getElem?_eq_getElem hi), h2 i v _ hv (List.getElem?_eq_getElem hi)⟩
theorem DT.kinds {H : Hp} {n : Nat} {x y : V} {d : PyData} (hx : DT H n x d) (hy : DT H n y d) :
    (kitB (tyN d) "list" = some false ∧ kitB (tyN d) "tuple" = some false ∧ x = y ∧ scal x y = true) ∨
    (∃ m a b xs ys, n = m + 1 ∧ kitB (tyN d) "list" = some true ∧ x = .ref a ∧ y = .ref b ∧ H a = some (.lst xs) ∧ H b = some (.lst ys) ∧ Two H m xs ys) ∨
    (∃ m a b xs ys, n = m + 1 ∧ kitB (tyN d) "list" = some false ∧ kitB (tyN d) "tuple" = some true ∧ x = .ref a ∧ y = .ref b ∧ H a = some (.tup xs) ∧ H b = some (.tup ys) ∧ Two H m xs ys) := by
  cases hx with
  | non => cases hy; exact .inl ⟨show kitB "NoneType" "list" = some false by decide +kernel, show kitB "NoneType" "tuple" = some false by decide +kernel, rfl, rfl⟩
  | bl b => cases hy; exact .inl ⟨show kitB "bool" "list" = some false by decide +kernel, show kitB "bool" "tuple" = some false by decide +kernel, rfl, rfl⟩
  | int b => cases hy; exact .inl ⟨show kitB "int" "list" = some false by decide +kernel, show kitB "int" "tuple" = some false by decide +kernel, rfl, rfl⟩
  | str b => cases hy; exact .inl ⟨show kitB "str" "list" = some false by decide +kernel, show kitB "str" "tuple" = some false by decide +kernel, rfl, rfl⟩
  | lst e l z h =>
    cases hy with
    | lst e' l' z' h' => exact .inr (.inl ⟨_, _, _, _, _, rfl, show kitB "list" "list" = some true by decide +kernel, rfl, rfl, e, e', two_of z l l' h h'⟩)
  | tup e l z h =>
    cases hy with
    | tup e' l' z' h' => exact .inr (.inr ⟨_, _, _, _, _, rfl, show kitB "tuple" "list" = some false by decide +kernel, show kitB "tuple" "tuple" = some true by decide +kernel, rfl, rfl, e, e', two_of z l l' h h'⟩)
theorem walk_zipT {K : PySem.W.Frag} {a b : Addr} {xs ys : List V} (hl : xs.length = ys.length) : Walk (RZ.ItzT K a b) xs.length (fun H => SqT K H a xs ∧ SqT K H b ys) (YPair (fun i => xs[i]?) (fun i => ys[i]?)) := by
  refine ⟨fun i H hi q => ⟨xs, ys, xs[i], ys[i]'(by omega), q.1, q.2, List.getElem?_eq_getElem hi, List.getElem?_eq_getElem (by omega)⟩, fun H q => ⟨xs, ys, q.1, q.2, .inl (Nat.le_refl _)⟩, fun i H v H' hi q y => ?_⟩
  obtain ⟨T, x, y, e, hT, e2, f1, f2⟩ := y
  exact ⟨T, x, y, e, hT, e2, f1 _ q.1, f2 _ q.2⟩
theorem all_true : ∀ n : Nat, (List.replicate n true).all id = true
  | 0 => rfl
  | n + 1 => by
    show (true && (List.replicate n true).all id) = true
    rw [all_true n]; rfl
theorem rep_snoc (n : Nat) : (List.replicate (n + 1) true).map V.bl = (List.replicate n true).map V.bl ++ [V.bl true] := by
  rw [List.replicate_succ', List.map_append]; rfl
def spSame : Nat → Sp
  | 0 => fun _ _ _ _ => False
  | n + 1 => fun vs H Q _ => ∃ (x y : V) (d : PyData), vs = [x, y] ∧ DT H n x d ∧ DT H n y d ∧ ∀ H', Same H H' → Q (.bl true) H'
abbrev nSame : List Str := ["_law_told", "_law_due", "_law_one", "_law_other"]
theorem scSame : FnScope nSame ["_law_told", "_law_due"] (defScope sSame) := ⟨rfl, rfl, rfl, by decide +kernel, rfl, by decide +kernel, by decide +kernel⟩
structure TySame (mg : Str → Option Value) : Prop where
  isi : mg "isinstance" = none
  bool : mg "bool" = none
  int : mg "int" = none
  list : mg "list" = none
  tuple : mg "tuple" = none
  str : mg "str" = none
  len : mg "len" = none
  all : mg "all" = none
  zip : mg "zip" = none
section
variable {P : Program} {w : World} {K : PySem.W.Frag} {mg : Str → Option Value} {base : Heap}
theorem ok_same1 {f : Addr} {fd : FuncData} {n : Nat} (F : Fun K "_law_same" "_law_same" sSame f fd) (G : FnOk P w K mg base CX0 n f fd ["_law_told", "_law_due"] (spSame n)) (bG : Binds K fd ["_law_told", "_law_due"] []) (gG : mg "_law_same" = some (.ref f)) (T : TySame mg) :
    FnOk P w K mg base CX0 (n + 1) f fd ["_law_told", "_law_due"] (spSame (n + 1)) := by
  refine F.ok scSame (fun vs H Q E h => ?_) (fun cdv A outer s H vs Q E hr h => ?_)
  · obtain ⟨x, y, d, rfl, _⟩ := h; rfl
  obtain ⟨x, y, d, rfl, hx, hy, q⟩ := h
  refine ⟨_, pss_cons (ps_if (pt_cmpR op_isN (pv 1) pe_non (nomark _)) (pss_one (ps_ret (pe_cmpR op_isN (pv 0) pe_non (nomark _)))) pss_nil)
    (pss_cons (ps_if (PW.pt (pw_or (pt_cmpR op_ne (pe_callB call_isi (by rfl) T.isi PyProof.Rows.boot_isinstance (pa_cons (pv 0) (pa_cons (pe_bltn (v := .ty "bool") (by rfl) T.bool PyProof.Rows.boot_bool rfl) pa_nil))) (pe_callB call_isi (by rfl) T.isi PyProof.Rows.boot_isinstance (pa_cons (pv 1) (pa_cons (pe_bltn (v := .ty "bool") (by rfl) T.bool PyProof.Rows.boot_bool rfl) pa_nil))) (nomark _))
        (pw_or1 (pt_cmpR op_ne (pe_callB call_isi (by rfl) T.isi PyProof.Rows.boot_isinstance (pa_cons (pv 0) (pa_cons (pe_bltn (v := .ty "int") (by rfl) T.int PyProof.Rows.boot_int rfl) pa_nil))) (pe_callB call_isi (by rfl) T.isi PyProof.Rows.boot_isinstance (pa_cons (pv 1) (pa_cons (pe_bltn (v := .ty "int") (by rfl) T.int PyProof.Rows.boot_int rfl) pa_nil))) (nomark _)))))
      (pss_one (ps_ret pe_bl)) pss_nil)
    (pss_cons (ps_if (PW.pt (pw_or (pt_cmpR op_ne (pe_callB call_isi (by rfl) T.isi PyProof.Rows.boot_isinstance (pa_cons (pv 0) (pa_cons (pe_bltn (v := .ty "list") (by rfl) T.list PyProof.Rows.boot_list rfl) pa_nil))) (pe_callB call_isi (by rfl) T.isi PyProof.Rows.boot_isinstance (pa_cons (pv 1) (pa_cons (pe_bltn (v := .ty "list") (by rfl) T.list PyProof.Rows.boot_list rfl) pa_nil))) (nomark _))
        (pw_or1 (pt_cmpR op_ne (pe_callB call_isi (by rfl) T.isi PyProof.Rows.boot_isinstance (pa_cons (pv 0) (pa_cons (pe_bltn (v := .ty "tuple") (by rfl) T.tuple PyProof.Rows.boot_tuple rfl) pa_nil))) (pe_callB call_isi (by rfl) T.isi PyProof.Rows.boot_isinstance (pa_cons (pv 1) (pa_cons (pe_bltn (v := .ty "tuple") (by rfl) T.tuple PyProof.Rows.boot_tuple rfl) pa_nil))) (nomark _)))))
      (pss_one (ps_ret pe_bl)) pss_nil)
    (pss_cons (ps_if (PW.pt (pw_and (pt_not (pt_val (pe_callB call_isi (by rfl) T.isi PyProof.Rows.boot_isinstance (pa_cons (pv 1) (pa_cons (pe_bltn (v := .ty "list") (by rfl) T.list PyProof.Rows.boot_list rfl) pa_nil)))))
        (pw_and1 (pt_not (pt_val (pe_callB call_isi (by rfl) T.isi PyProof.Rows.boot_isinstance (pa_cons (pv 1) (pa_cons (pe_bltn (v := .ty "tuple") (by rfl) T.tuple PyProof.Rows.boot_tuple rfl) pa_nil))))))))
      (pss_one (ps_ret (pe_and (pe_cmpR op_eq (pe_callB call_isi (by rfl) T.isi PyProof.Rows.boot_isinstance (pa_cons (pv 0) (pa_cons (pe_bltn (v := .ty "str") (by rfl) T.str PyProof.Rows.boot_str rfl) pa_nil))) (pe_callB call_isi (by rfl) T.isi PyProof.Rows.boot_isinstance (pa_cons (pv 1) (pa_cons (pe_bltn (v := .ty "str") (by rfl) T.str PyProof.Rows.boot_str rfl) pa_nil))) (nomark _))
        (pe_one (pe_cmpR op_eq (pv 0) (pv 1) (nomark _)))))) pss_nil)
    (pss_one (ps_ret (pe_and (pe_cmpR op_eq (pe_callB call_len_seq (by rfl) T.len PySem.boot_len (pa_cons (pv 0) pa_nil)) (pe_callB call_len_seq (by rfl) T.len PySem.boot_len (pa_cons (pv 1) pa_nil)) (nomark _))
      (pe_one (pe_callB (cr_all rfl) (by rfl) T.all PyProof.Rows.boot_all (pa_cons (pe_lc (own := [("_law_one", 2), ("_law_other", 3)]) (g := gTup K 2 (gCons (gName 2) (gCons (gName 3) gNil))) (tt := tYes) rfl scSame.nd
        (RZ.pi_zipA (by rfl) T.zip (pa_cons (pv 0) (pa_cons (pv 1) pa_nil))) (blkOk_by (N := nSame) (sc := defScope sSame) (by decide +kernel))
        (fun _ _ _ _ _ => pg_tup rfl (pgs_cons (pg_name (i := 2) scSame.nd rfl (.inl rfl)) (pgs_cons (pg_name (i := 3) scSame.nd rfl (.inl rfl)) pgs_nil))) (fun _ _ _ _ _ => pts_nil)
        (fun _ _ _ _ _ => pe_call G hr (by rfl) gG F.kp bG .nil pass0 (pa_cons (pv 2) (pa_cons (pv 3) pa_nil)))) pa_nil))))))))), ?_⟩
  obtain ⟨⟨b1, k1⟩, ⟨b2, k2⟩, ⟨b3, k3⟩, ⟨b4, k4⟩, ⟨b5, k5⟩⟩ := kit_any hy
  have tx := hx.ty (K := K)
  have ty := hy.ty (K := K)
  have e1 := kit_ty (K := K) k1
  have e2 := kit_ty (K := K) k2
  have e3 := kit_ty (K := K) k3
  have e4 := kit_ty (K := K) k4
  have e5 := kit_ty (K := K) k5
  have nn : ∀ b : Bool, (!decide (V.bl b = V.bl b)) = false := fun b => by rw [decide_eq_true rfl]; rfl
  refine ⟨y, rfl, rfl, _, rfl, ite2 (fun c => ?_) (fun c => ?_)⟩
  · have c' : y = .non := of_decide_eq_true c
    subst c'
    cases hy
    cases hx
    exact ⟨_, rfl, rfl, q H (Same.refl H)⟩
  have cn : ¬ y = .non := fun e => c (decide_eq_true e)
  refine ⟨x, rfl, x, _, _, _, b1, rfl, .ty "bool", tx, e1, y, rfl, y, _, _, _, b1, rfl, .ty "bool", ty, e1, rfl, _, rfl, ?_⟩
  rw [nn]
  refine iteF ?_
  refine ⟨x, rfl, x, _, _, _, b2, rfl, .ty "int", tx, e2, y, rfl, y, _, _, _, b2, rfl, .ty "int", ty, e2, rfl, _, rfl, ?_⟩
  rw [nn]
  refine iteF ?_
  refine ⟨x, rfl, x, _, _, _, b3, rfl, .ty "list", tx, e3, y, rfl, y, _, _, _, b3, rfl, .ty "list", ty, e3, rfl, _, rfl, ?_⟩
  rw [nn]
  refine iteF ?_
  refine ⟨x, rfl, x, _, _, _, b4, rfl, .ty "tuple", tx, e4, y, rfl, y, _, _, _, b4, rfl, .ty "tuple", ty, e4, rfl, _, rfl, ?_⟩
  rw [nn]
  refine iteF ?_
  refine ⟨y, rfl, y, _, _, _, b3, rfl, .ty "list", ty, e3, _, rfl, ?_⟩
  rcases hx.kinds hy with ⟨j3, j4, exy, hsc⟩ | ⟨m, a, b, xs, ys, en, j3, ex, ey, ha, hb, two⟩ | ⟨m, a, b, xs, ys, en, j3, j4, ex, ey, ha, hb, two⟩
  · have f3 : b3 = false := Option.some.inj (k3.symm.trans j3)
    have f4 : b4 = false := Option.some.inj (k4.symm.trans j4)
    subst f3 f4 exy
    refine iteT ?_
    refine ⟨x, rfl, x, _, _, _, false, rfl, .ty "tuple", ty, e4, _, rfl, ?_⟩
    refine iteT ?_
    refine ⟨x, rfl, x, _, _, _, b5, rfl, .ty "str", tx, e5, x, rfl, x, _, _, _, b5, rfl, .ty "str", ty, e5, rfl, _, rfl, ?_⟩
    rw [decide_eq_true rfl]
    refine iteT ?_
    refine ⟨x, rfl, x, rfl, hsc, ?_⟩
    rw [decide_eq_true rfl]
    exact q H (Same.refl H)
  · have f3 : b3 = true := Option.some.inj (k3.symm.trans j3)
    subst f3 ex ey en
    refine iteF ?_
    refine iteF ?_
    refine ⟨.ref a, rfl, a, xs, rfl, .inl (.inl (.inl ha)), .ref b, rfl, b, ys, rfl, .inl (.inl (.inl hb)), rfl, _, rfl, ?_⟩
    rw [decide_eq_true (by rw [two.len])]
    refine iteT ?_
    refine ⟨.ref a, rfl, .ref b, rfl, a, b, xs, ys, rfl, .inl ⟨.inl (.inl ha), .inl (.inl hb), fun D nD => ?_⟩⟩
    have s1 : Same H (upd H D (.lst [])) := same_upd nD
    refine lc_it (walk_zip (K := K) (a := a) (b := b) (xs := xs) (ys := ys) (n := xs.length) (by rw [two.len, Nat.min_self])) (fun i H3 => Same H H3 ∧ H3 D = some (.lst ((List.replicate i true).map V.bl)) ∧ i ≤ xs.length) ⟨s1, upd_same, Nat.zero_le _⟩ (fun i H3 _ hP => ⟨hP.1.seq (.inl (.inl ha)), hP.1.seq (.inl (.inl hb))⟩) (fun i v H3 H4 hi hP hy4 => ?_) (fun H3 hP => ?_)
    · obtain ⟨sm, eD, _⟩ := hP
      obtain ⟨t, u1, u2, rfl, nt, rfl, g1, g2⟩ := hy4
      obtain ⟨du, d1, d2⟩ := two.at_ i u1 u2 g1 g2
      have s4 := same_upd (o := .tup [u1, u2]) nt
      have s5 := sm.trans s4
      refine ⟨t, [u1, u2], rfl, .inl (.inl upd_same), rfl, _, _, rfl, _, _, rfl, rfl, rfl, ?_⟩
      refine tYes_ok ?_
      refine iteT ?_
      refine ⟨u1, rfl, u2, rfl, u1, u2, du, rfl, d1.same s5, d2.same s5, fun H6 s6 => ?_⟩
      refine ⟨_, s6 _ _ (s4 _ _ eD), ?_, same_over (s5.trans s6) nD, ?_, hi⟩
      · rw [List.length_map, List.length_replicate]
        exact Nat.lt_of_le_of_lt (show i ≤ 14000000 by have := two.few; omega) (by decide)
      · rw [upd_same, rep_snoc]
    · obtain ⟨sm, eD, _⟩ := hP
      refine ⟨D, _, rfl, .inl (.inl eD), ?_⟩
      rw [all_true]
      exact q H3 sm
  · have f3 : b3 = false := Option.some.inj (k3.symm.trans j3)
    have f4 : b4 = true := Option.some.inj (k4.symm.trans j4)
    subst f3 f4 ex ey en
    refine iteT ?_
    refine ⟨.ref b, rfl, .ref b, _, _, _, true, rfl, .ty "tuple", ty, e4, _, rfl, ?_⟩
    refine iteF ?_
    refine ⟨.ref a, rfl, a, xs, rfl, .inr (.inl (.inl ha)), .ref b, rfl, b, ys, rfl, .inr (.inl (.inl hb)), rfl, _, rfl, ?_⟩
    rw [decide_eq_true (by rw [two.len])]
    refine iteT ?_
    refine ⟨.ref a, rfl, .ref b, rfl, a, b, xs, ys, rfl, .inr ⟨.inl (.inl ha), .inl (.inl hb), fun D nD => ?_⟩⟩
    have s1 : Same H (upd H D (.lst [])) := same_upd nD
    refine lc_it (walk_zipT (K := K) (a := a) (b := b) two.len) (fun i H3 => Same H H3 ∧ H3 D = some (.lst ((List.replicate i true).map V.bl)) ∧ i ≤ xs.length) ⟨s1, upd_same, Nat.zero_le _⟩ (fun i H3 _ hP => ⟨.inl (.inl (hP.1 _ _ ha)), .inl (.inl (hP.1 _ _ hb))⟩) (fun i v H3 H4 hi hP hy4 => ?_) (fun H3 hP => ?_)
    · obtain ⟨sm, eD, _⟩ := hP
      obtain ⟨t, u1, u2, rfl, nt, rfl, g1, g2⟩ := hy4
      obtain ⟨du, d1, d2⟩ := two.at_ i u1 u2 g1 g2
      have s4 := same_upd (o := .tup [u1, u2]) nt
      have s5 := sm.trans s4
      refine ⟨t, [u1, u2], rfl, .inl (.inl upd_same), rfl, _, _, rfl, _, _, rfl, rfl, rfl, ?_⟩
      refine tYes_ok ?_
      refine iteT ?_
      refine ⟨u1, rfl, u2, rfl, u1, u2, du, rfl, d1.same s5, d2.same s5, fun H6 s6 => ?_⟩
      refine ⟨_, s6 _ _ (s4 _ _ eD), ?_, same_over (s5.trans s6) nD, ?_, hi⟩
      · rw [List.length_map, List.length_replicate]
        exact Nat.lt_of_le_of_lt (show i ≤ 14000000 by have := two.few; omega) (by decide)
      · rw [upd_same, rep_snoc]
    · obtain ⟨sm, eD, _⟩ := hP
      refine ⟨D, _, rfl, .inl (.inl eD), ?_⟩
      rw [all_true]
      exact q H3 sm
theorem same_none {f : Addr} {fd : FuncData} : FnOk P w K mg base CX0 0 f fd ["_law_told", "_law_due"] (spSame 0) :=
  ⟨fun _ _ _ _ h => h.elim, fun _ _ _ _ _ _ _ _ _ _ _ _ _ h => h.elim⟩
theorem ok_same {f : Addr} {fd : FuncData} (F : Fun K "_law_same" "_law_same" sSame f fd) (bG : Binds K fd ["_law_told", "_law_due"] []) (gG : mg "_law_same" = some (.ref f)) (T : TySame mg) :
    ∀ n : Nat, FnOk P w K mg base CX0 n f fd ["_law_told", "_law_due"] (spSame n)
  | 0 => same_none
  | n + 1 => ok_same1 F (ok_same F bG gG T n) bG gG T
end
end Rep
namespace Rep
open PySem L2
def spSays (K : PySem.W.Frag) : Sp := fun vs H Q _ => ∃ (a : Addr) (ns : List Int) (k L : Int) (m : Nat), vs = [.ref a, .int k, .int L, .int (m : Int)] ∧ SqL K H a (ns.map V.int) ∧ ns.length ≤ 63 ∧ 0 ≤ L ∧ L ≤ 10 ^ 41 ∧ m ≤ 1000 ∧
  ∀ H' o xs ss, Same H H' → H o = none → H' o = some (.lst xs) → SL H' xs ss → (∀ s ∈ ss, Good L s) → ss.length ≤ m → Q (.ref o) H'
abbrev nSays : List Str := ["_law_script", "_law_k", "_law_length", "_law_many", "_law_at"]
theorem scSays : FnScope nSays ["_law_script", "_law_k", "_law_length", "_law_many"] (defScope s_law_sayings) := ⟨rfl, rfl, rfl, by decide +kernel, rfl, by decide +kernel, by decide +kernel⟩
section
variable {P : Program} {w : World} {K : PySem.W.Frag} {mg : Str → Option Value} {base : Heap}
theorem ok_says {f fS : Addr} {fd fdS : FuncData} {k : Nat} (F : Fun K "_law_sayings" "_law_sayings" s_law_sayings f fd) (GS : FnOk P w K mg base CX0 k fS fdS ["_law_script", "_law_k", "_law_length"] (spSay K)) (kS : PySem.W.keepIn K (.ref fS) = true) (bS : Binds K fdS ["_law_script", "_law_k", "_law_length"] []) (mS_ : mg "_law_saying" = some (.ref fS)) (mR : mg "range" = none) : FnOk P w K mg base CX0 (k + 1) f fd ["_law_script", "_law_k", "_law_length", "_law_many"] (spSays K) := by
  refine F.ok scSays (fun vs H Q E h => ?_) (fun cdv A outer s H vs Q E hr h => ?_)
  · obtain ⟨a, ns, z, L, m, rfl, _⟩ := h; rfl
  obtain ⟨a, ns, z, L, m, rfl, hS, h63, hL0, hL2, hm, q⟩ := h
  refine ⟨_, (pss_cons (ps_if (pt_cmpR op_lt (pv 2) pe_int (nomark _)) (pss_one (ps_ret (pe_lst pa_nil))) pss_nil)
    (pss_one (ps_ret (pe_lc (own := [("_law_at", 4)]) (g := (gName 4)) (tt := tYes) rfl scSays.nd (pi_range1 rfl mR (pa_cons (pv 3) pa_nil)) (blkOk_by (N := nSays) (sc := defScope s_law_sayings) (by decide +kernel)) (fun _ _ _ _ _ => (pg_name (i := 4) scSays.nd rfl (.inl rfl))) (fun _ _ _ _ _ => pts_nil) (fun _ _ _ _ _ => (pe_call GS hr (by rfl) mS_ kS bS .nil pass0 (pa_cons (pv 0) (pa_cons (pe_op op_add (pv 1) (pv 4)) (pa_cons (pv 2) pa_nil))))))))), ?_⟩
  refine ⟨.int L, rfl, _, 1, rfl, rfl, _, rfl, ite2 (fun c => ?_) (fun c => ?_)⟩
  · refine ⟨(by show 0 ≤ sizeLine; decide), fun o no => ?_⟩
    exact q _ o [] [] (same_upd no) no upd_same .nil (fun s hs => by cases hs) (Nat.zero_le _)
  have c1 : ¬ L < 1 := fun e => c (decide_eq_true e)
  refine ⟨.int (m : Int), rfl, (m : Int), rfl, by omega, by omega, fun D nD => ?_⟩
  refine lc_range (n := m) (fun i H3 => ∃ xs ss, Same H H3 ∧ H3 D = some (.lst xs) ∧ SL H3 xs ss ∧ (∀ s ∈ ss, Good L s) ∧ ss.length ≤ i) ⟨[], [], same_upd nD, upd_same, .nil, (fun s hs => by cases hs), Nat.le_refl _⟩ (fun i H3 hi hP => ?_) (fun H3 hP => ?_)
  · obtain ⟨xs, ss, sm, eD, sl, gd, hl⟩ := hP
    refine ⟨rfl, ?_⟩
    refine tYes_ok ?_
    refine iteT ?_
    refine ⟨.ref a, rfl, .int z, rfl, .int (0 + (i : Int)), rfl, _, _, rfl, rfl, .int L, rfl, a, ns, _, L, rfl, sm.seq hS, h63, by omega, hL2, fun H4 v s4 sm4 is4 g4 => ?_⟩
    refine ⟨xs, sm4 _ _ eD, ?_, xs ++ [v], ss ++ [s4], same_over (sm.trans sm4) nD, upd_same, SL.ts (TS.lst (sm4 _ _ eD)) ((SL.ts (TS.of sm4) sl).snoc is4), fun s hs => ?_, ?_⟩
    · rw [sl.len]; exact small1000 (by omega)
    · rcases List.mem_append.mp hs with hs | hs
      · exact gd s hs
      · rw [List.mem_singleton.mp hs]; exact g4
    · rw [List.length_append, List.length_singleton]; omega
  · obtain ⟨xs, ss, sm, eD, sl, gd, hl⟩ := hP
    exact q H3 D xs ss sm nD eD sl gd hl
end
theorem log_of {z : Int} {b : Nat} (h : z.natAbs < 2 ^ b) (h0 : 0 < b) (h9 : b ≤ 9000) : z.natAbs.log2 < 9000 := Nat.lt_of_lt_of_le (PySem.Flt.log2_lt_of h0 h) h9
end Rep
namespace Rep
def Big (x : Int) : Prop := -(10 ^ 45) < x ∧ x < 10 ^ 45
theorem big_abs {x : Int} (h : Big x) : x.natAbs < 2 ^ 200 := by
  obtain ⟨h1, h2⟩ := h
  have : (10 : Int) ^ 45 < 2 ^ 200 := by decide
  have e : ((2 ^ 200 : Nat) : Int) = 2 ^ 200 := by decide +kernel
  omega
end Rep
namespace Rep
open PySem L2
def spSong (K : PySem.W.Frag) : Sp := fun vs H Q _ => ∃ (a : Addr) (ns : List Int) (most : Int), vs = [.ref a, .int most] ∧ SqL K H a (ns.map V.int) ∧ ns.length ≤ 63 ∧ 2 ≤ most ∧ most ≤ 10 ^ 40 ∧
  ∀ H' t o xs ss L, Same H H' → H' t = some (.tup [.int L, .ref o]) → H o = none → H' o = some (.lst xs) → SL H' xs ss → (∀ s ∈ ss, Good L s) → ss.length ≤ 24 → 0 ≤ L → L ≤ most → Q (.ref t) H'
abbrev nSong : List Str := ["_law_script", "_law_most", "_law_length", "_law_many", "_law_odd", "_law_way"]
theorem scSong : FnScope nSong ["_law_script", "_law_most"] (defScope s_law_crowded_song) := ⟨rfl, rfl, rfl, by decide +kernel, rfl, by decide +kernel, by decide +kernel⟩
section
variable {P : Program} {w : World} {K : PySem.W.Frag} {mg : Str → Option Value} {base : Heap}
theorem ok_song {f fD fS : Addr} {fd fdD fdS : FuncData} {k : Nat} (F : Fun K "_law_crowded_song" "_law_crowded_song" s_law_crowded_song f fd) (GD : FnOk P w K mg base CX0 k fD fdD ["_law_script", "_law_k", "_law_sizes"] (spDig K)) (kD : PySem.W.keepIn K (.ref fD) = true) (bD : Binds K fdD ["_law_script", "_law_k", "_law_sizes"] []) (mD_ : mg "_law_digits" = some (.ref fD))
    (GS : FnOk P w K mg base CX0 k fS fdS ["_law_script", "_law_k", "_law_length", "_law_many"] (spSays K)) (kS : PySem.W.keepIn K (.ref fS) = true) (bS : Binds K fdS ["_law_script", "_law_k", "_law_length", "_law_many"] []) (mS_ : mg "_law_sayings" = some (.ref fS)) (mI : mg "int" = none) : FnOk P w K mg base CX0 (k + 1) f fd ["_law_script", "_law_most"] (spSong K) := by
  refine F.ok scSong (fun vs H Q E h => ?_) (fun cdv A outer s H vs Q E hr h => ?_)
  · obtain ⟨a, ns, mo, rfl, _⟩ := h; rfl
  obtain ⟨a, ns, mo, rfl, hS, h63, hm2, hm40, q⟩ := h
  refine ⟨_, (pss_cons (ps_asg (pe_call GD hr (by rfl) mD_ kD bD .nil pass0 (pa_cons (pv 0) (pa_cons pe_int (pa_cons (pe_lst (pa_cons (pe_op op_add (pv 1) pe_int) (pa_cons pe_int (pa_cons pe_int (pa_cons pe_int pa_nil))))) pa_nil)))) (pg_lst rfl (pgs_cons (pg_name (i := 2) scSong.nd rfl (.inl rfl)) (pgs_cons (pg_name (i := 3) scSong.nd rfl (.inl rfl)) (pgs_cons (pg_name (i := 4) scSong.nd rfl (.inl rfl)) (pgs_cons (pg_name (i := 5) scSong.nd rfl (.inl rfl)) pgs_nil))))))
    (C8.pss_cut (ps_if (pt_cmpR op_eq (pv 4) pe_int (nomark _)) (pss_one (ps_set (i := 2) scSong.nd rfl (.inl rfl) (pe_ix ix_list (pe_lst (pa_cons pe_int (pa_cons pe_int (pa_cons pe_int pa_nil)))) (pe_op op_mod (pv 3) pe_int) (fun _ _ => rfl)))) pss_nil)
    (pss_one (ps_ret (pe_tup (pa_cons (pv 2) (pa_cons (pe_call GS hr (by rfl) mS_ kS bS .nil pass0 (pa_cons (pv 0) (pa_cons pe_int (pa_cons (pv 2) (pa_cons (pe_ix ix_list (pe_lst (pa_cons (pv 3) (pa_cons (pe_op op_sub pe_int (pv 3)) pa_nil))) (pe_callTy call_int1 (by rfl) mI PyProof.Rows.boot_int (pa_cons (pe_cmpR op_eq (pv 5) pe_int (nomark _)) pa_nil)) (fun _ _ => rfl)) pa_nil))))) pa_nil))))))), ?_⟩
  refine ⟨.ref a, rfl, .int mo, rfl, _, 1, rfl, rfl, (by show 4 ≤ sizeLine; decide), fun l1 nl1 => ?_⟩
  have s1 := same_upd (o := .lst [.int (mo + 1), .int 7, .int 9, .int 8]) nl1
  refine ⟨a, l1, ns, [mo + 1, 7, 9, 8], 0, rfl, s1.seq hS, h63, .inl (.inl upd_same), by show 4 ≤ 1000; decide, fun y hy => ?_, fun H2 q2 s2 _ eq2 => ?_⟩
  · rcases List.mem_cons.mp hy with rfl | hy
    · exact ⟨by omega, log_of (b := 200) (big_abs ⟨by omega, by omega⟩) (by decide) (by decide)⟩
    rcases List.mem_cons.mp hy with rfl | hy
    · exact ⟨by decide, by decide⟩
    rcases List.mem_cons.mp hy with rfl | hy
    · exact ⟨by decide, by decide⟩
    · rw [List.mem_singleton.mp hy]; exact ⟨by decide, by decide⟩
  generalize rawF ns 0 = ra at eq2
  refine ⟨q2, [.int (ra % (mo + 1)), .int (ra / (mo + 1) % 7), .int (ra / (mo + 1) / 7 % 9), .int (ra / (mo + 1) / 7 / 9 % 8)], rfl, .inl (.inl eq2), rfl, _, _, rfl, _, _, rfl, _, _, rfl, _, _, rfl, rfl, ?_⟩
  have sH2 : Same H H2 := s1.trans s2
  have l0 := Int.emod_nonneg ra (show mo + 1 ≠ 0 by omega)
  have l1' := Int.emod_lt_of_pos ra (show 0 < mo + 1 by omega)
  generalize ra % (mo + 1) = le at *
  obtain ⟨m, hm, hm'⟩ : ∃ m : Nat, ra / (mo + 1) % 7 = (m : Int) ∧ m ≤ 6 := ⟨(ra / (mo + 1) % 7).toNat, by omega, by omega⟩
  rw [hm]
  generalize ra / (mo + 1) / 7 % 9 = od
  generalize ra / (mo + 1) / 7 / 9 % 8 = wa
  refine ⟨fun σ' H' => ∃ L : Int, σ' = [some (.ref a), some (.int mo), some (.int L), some (.int (m : Int)), some (.int od), some (.int wa)] ∧ Same H H' ∧ 0 ≤ L ∧ L ≤ mo, ?_, ?_⟩
  · refine ⟨.int od, rfl, rfl, _, rfl, ite2 (fun c => ?_) (fun c => ?_)⟩
    · refine ⟨(by show 3 ≤ sizeLine; decide), fun l2 nl2 => ?_⟩
      obtain ⟨v, hv, hv2⟩ := at3 (a := 0) (b := 1) (c := 2) (r := (m : Int))
      exact ⟨.int (m : Int), rfl, _, 3, rfl, rfl, (by show (0 : Int) < 3; decide), l2, _, _, .int v, rfl, rfl, .inl (.inl upd_same), hv, v, rfl, sH2.trans (same_upd nl2), by omega, by omega⟩
    · exact ⟨le, rfl, sH2, l0, by omega⟩
  rintro σ' H3 ⟨L, rfl, s3, L0, L1⟩
  refine ⟨.int L, rfl, .ref a, rfl, .int L, rfl, .int (m : Int), rfl, .int (m : Int), rfl, 24, _, rfl, rfl, (by show 2 ≤ sizeLine; decide), fun l3 nl3 => ?_⟩
  have s4 := same_upd (o := .lst [.int (m : Int), .int (24 - (m : Int))]) nl3
  obtain ⟨n, hn, hv⟩ : ∃ n : Nat, n ≤ 24 ∧ atI [V.int (m : Int), V.int (24 - (m : Int))] (if decide (V.int wa = V.int 0) = true then 1 else 0) = some (.int (n : Int)) := by
    cases decide (V.int wa = V.int 0) with
    | true => exact ⟨24 - m, by omega, by show some (V.int (24 - (m : Int))) = _; rw [show (24 - (m : Int)) = ((24 - m : Nat) : Int) by omega]⟩
    | false => exact ⟨m, by omega, rfl⟩
  refine ⟨.int wa, rfl, rfl, .inr ⟨_, rfl, ?_⟩⟩
  refine ⟨l3, _, _, .int (n : Int), rfl, rfl, .inl (.inl upd_same), hv, ?_⟩
  refine ⟨a, ns, 1, L, n, rfl, s4.seq (s3.seq hS), h63, L0, by omega, by omega, fun H5 o xs ss s5 no eo sl gd hl => ?_⟩
  refine ⟨(by show 2 ≤ sizeLine; decide), fun t nt => ?_⟩
  have s6 := same_upd (o := .tup [.int L, .ref o]) nt
  exact q _ t o xs ss L (((s3.trans s4).trans s5).trans s6) upd_same (Same.free (s3.trans s4) no) (s6 _ _ eo) (SL.ts (TS.of s6) sl) gd (by omega) L0 L1
end
end Rep
namespace Rep
open PySem L2
theorem cut63 {xs : List V} (h : xs.length ≤ 63) : cutV xs none (some 63) = xs := by
  unfold cutV
  rw [show HT.sIx xs.length xs.length (some 63) = min 63 xs.length from HT.sIx_nat xs.length xs.length 63, HT.sIx_none]
  show (xs.take (min 63 xs.length - 0)) = xs
  exact List.take_of_length_le (by omega)
def syD (s : Sy) : PyData := .tuple [.int s.lo, .int s.hi, .int s.n, .bool s.t]
theorem SL.dp {K : PySem.W.Frag} {H : Hp} : ∀ {vs : List V} {ss : List Sy}, SL H vs ss → DpAll K H vs (ss.map syD)
  | [], [], _ => .nil
  | [], _ :: _, h => by have := h.len; simp at this
  | _ :: _, [], h => by have := h.len; simp at this
  | v :: vs, s :: ss, h => by
    obtain ⟨t, rfl, ht⟩ := h.at_ 0 v s rfl rfl
    refine .cons (.tup (.inl (.inl ht)) (.cons (.int _) (.cons (.int _) (.cons (.int _) (.cons (.bl _) .nil))))) (SL.dp ⟨?_, fun i w u h1 h2 => h.at_ (i + 1) w u h1 h2⟩)
    have := h.len
    simpa using this
theorem canSy : ∀ ss : List Sy, PyData.canLayAll0 (ss.map syD) = true
  | [] => rfl
  | _ :: r => by
    show (true && PyData.canLayAll0 (r.map syD)) = true
    rw [canSy r]; rfl
theorem depSy : ∀ ss : List Sy, PyData.depthAll (ss.map syD) ≤ 1
  | [] => Nat.zero_le _
  | _ :: r => by
    show max 1 (PyData.depthAll (r.map syD)) ≤ 1
    have := depSy r
    omega
def bothD (ss : List Sy) (ps : List Pr) : PyData := .list [.list (ss.map syD), .list (ps.map pD)]
theorem canBoth (ss : List Sy) (ps : List Pr) : PyData.canLay0 (bothD ss ps) = true := by
  show (PyData.canLayAll0 (ss.map syD) && (PyData.canLayAll0 (ps.map pD) && true)) = true
  rw [canSy, canPr]; rfl
theorem shapedBoth (ss : List Sy) (ps : List Pr) : SeqAt.shaped (bothD ss ps) = true := by
  unfold SeqAt.shaped
  rw [canBoth]
  refine decide_eq_true ?_
  show max (PyData.depthAll (ss.map syD) + 1) (max (PyData.depthAll (ps.map pD) + 1) 0) + 1 ≤ 64
  have := depSy ss
  have := depPr ps
  omega
theorem eqvBoth (ss : List Sy) (ps : List Pr) : PyData.eqv (bothD ss ps) (bothD ss ps) = true := SeqAt.eqv_refl _ (canBoth ss ps)
theorem Good.more {e : Int} {s : Sy} (h : Good e s) : Good (e + 1) s := by
  obtain ⟨a, b, c, d, g⟩ := h
  exact ⟨a, b, c, by omega, by omega⟩
/-- walked so far -/
def walkF (ss : List Sy) : Option Int → List Pr → Option Int
  | none, _ => none
  | some p, sts => leadsF ss p sts
theorem oV_none {o : Option Int} : oV o = .non ↔ o = none := by cases o <;> simp [oV]
def spLaw25 (K : PySem.W.Frag) : Sp := fun vs H Q _ => ∃ (a : Addr) (ns : List Int), vs = [.ref a] ∧ SqL K H a (ns.map V.int) ∧ ns.length ≤ 63 ∧ ∀ H', Q (.bl true) H'
abbrev nLaw : List Str := ["_law_script", "_law_most", "_law_length", "_law_sayings_here", "_law_k", "_law_start", "_law_steps_here", "_law_due", "_law_saying_here", "_law_to", "_law_handed"]
theorem scLaw : FnScope nLaw ["_law_script"] (defScope sLaw) := ⟨rfl, rfl, rfl, by decide +kernel, rfl, by decide +kernel, by decide +kernel⟩
structure TLaw25 (Pg : Program) (w : World) (K : PySem.W.Frag) (mg : Str → Option Value) (base : Heap) (fS fE fD fW fY fA : Addr) (fdS fdE fdD fdW fdY fdA : FuncData) : Prop where
  gS : FnOk Pg w K mg base CX0 7 fS fdS ["_law_script", "_law_most"] (spSong K)
  bS : Binds K fdS ["_law_script", "_law_most"] []
  kS : PySem.W.keepIn K (.ref fS) = true
  mS : mg "_law_crowded_song" = some (.ref fS)
  gE : FnOk Pg w K mg base CX0 7 fE fdE ["_law_told", "_law_due"] (spSame 7)
  bE : Binds K fdE ["_law_told", "_law_due"] []
  kE : PySem.W.keepIn K (.ref fE) = true
  mE : mg "_law_same" = some (.ref fE)
  gD : FnOk Pg w K mg base CX0 7 fD fdD ["_law_script", "_law_k", "_law_sizes"] (spDig K)
  bD : Binds K fdD ["_law_script", "_law_k", "_law_sizes"] []
  kD : PySem.W.keepIn K (.ref fD) = true
  mD : mg "_law_digits" = some (.ref fD)
  gW : FnOk Pg w K mg base CX0 7 fW fdW ["_law_script", "_law_k", "_law_length", "_law_sayings_here"] (spStp K)
  bW : Binds K fdW ["_law_script", "_law_k", "_law_length", "_law_sayings_here"] []
  kW : PySem.W.keepIn K (.ref fW) = true
  mW : mg "_law_steps" = some (.ref fW)
  gY : FnOk Pg w K mg base CX0 7 fY fdY ["_law_saying_here", "_law_here", "_law_to"] (spLay)
  bY : Binds K fdY ["_law_saying_here", "_law_here", "_law_to"] []
  kY : PySem.W.keepIn K (.ref fY) = true
  mY : mg "_law_lays" = some (.ref fY)
  gA : FnOk Pg w K mg base CX0 7 fA fdA ["length", "sayings", "one", "steps"] (spLds K)
  bA : Binds K fdA ["length", "sayings", "one", "steps"] []
  kA : PySem.W.keepIn K (.ref fA) = true
  mA : mg "leads" = some (.ref fA)
  ml : mg "len" = none
  mL : mg "list" = none
  mR : mg "range" = none
section
variable {Pg : Program} {w : World} {K : PySem.W.Frag} {mg : Str → Option Value} {base : Heap}
theorem ok_law25 {f fS fE fD fW fY fA : Addr} {fd fdS fdE fdD fdW fdY fdA : FuncData} (F : Fun K "law" "law" sLaw f fd) (T : TLaw25 Pg w K mg base fS fE fD fW fY fA fdS fdE fdD fdW fdY fdA) : FnOk Pg w K mg base CX0 9 f fd ["_law_script"] (spLaw25 K) := by
  refine F.ok scLaw (fun vs H Q E h => ?_) (fun cdv A outer s H vs Q E hr h => ?_)
  · obtain ⟨a, ns, rfl, _⟩ := h; rfl
  obtain ⟨a, ns, rfl, hS, h63, q⟩ := h
  have r7 : Room 7 _ := hr.mono (by decide)
  refine ⟨_, (pss_cons (ps_set (i := 0) scLaw.nd rfl (.inl rfl) (pe_slice sl_list (pv 0) po_none (po_some pe_int)))
    (C8.pss_cut (ps_set (i := 1) scLaw.nd rfl (.inl rfl) (pe_ix ix_list (pe_op op_cat (pe_op op_rep (pe_lst (pa_cons pe_int pa_nil)) pe_int) (pe_lst (pa_cons pe_int pa_nil))) (pe_ix ix_list (pe_call T.gD r7 (by rfl) T.mD T.kD T.bD .nil pass0 (pa_cons (pv 0) (pa_cons pe_int (pa_cons (pe_lst (pa_cons pe_int pa_nil)) pa_nil)))) pe_int (fun _ _ => rfl)) (fun _ _ => rfl)))
    (C8.pss_cut (ps_asg (pe_call T.gS r7 (by rfl) T.mS T.kS T.bS .nil pass0 (pa_cons (pv 0) (pa_cons (pv 1) pa_nil))) (pg_tup rfl (pgs_cons (pg_name (i := 2) scLaw.nd rfl (.inl rfl)) (pgs_cons (pg_name (i := 3) scLaw.nd rfl (.inl rfl)) pgs_nil))))
    (C8.pss_cut (ps_set (i := 2) scLaw.nd rfl (.inl rfl) (pe_op op_add (pv 2) pe_int))
    (pss_cons (ps_for PassesOwn.never rfl (pi_range1 rfl T.mR (pa_cons pe_int pa_nil)) (pg_name (i := 4) scLaw.nd rfl (.inl rfl))
      (C8.pss_cut (ps_asg (pe_call T.gW r7 (by rfl) T.mW T.kW T.bW .nil pass0 (pa_cons (pv 0) (pa_cons (pe_op op_add pe_int (pv 4)) (pa_cons (pv 2) (pa_cons (pv 3) pa_nil))))) (pg_tup rfl (pgs_cons (pg_name (i := 5) scLaw.nd rfl (.inl rfl)) (pgs_cons (pg_name (i := 6) scLaw.nd rfl (.inl rfl)) pgs_nil))))
    (pss_cons (ps_set (i := 7) scLaw.nd rfl (.inl rfl) (pv 5))
    (C8.pss_cut (ps_for PassesOwn.never rfl (pi_list (pv 6)) (pg_tup rfl (pgs_cons (pg_name (i := 8) scLaw.nd rfl (.inl rfl)) (pgs_cons (pg_name (i := 9) scLaw.nd rfl (.inl rfl)) pgs_nil)))
      (pss_one (ps_if (pt_cmpR op_notN (pv 7) pe_non (nomark _)) (pss_one (ps_if (PW.pt (pw_or (pt_not (pt_chain op_le op_lt pe_int (pv 8) (pe_callB call_len_seq (by rfl) T.ml PySem.boot_len (pa_cons (pv 3) pa_nil)))) (pw_or1 (pt_not (pt_val (pe_call T.gY r7 (by rfl) T.mY T.kY T.bY .nil pass0 (pa_cons (pe_ix ix_list (pv 3) (pv 8) (fun _ _ => rfl)) (pa_cons (pv 7) (pa_cons (pv 9) pa_nil))))))))) (pss_one (ps_set (i := 7) scLaw.nd rfl (.inl rfl) pe_non)) (pss_one (ps_set (i := 7) scLaw.nd rfl (.inl rfl) (pv 9))))) pss_nil)))
    (C8.pss_cut (ps_set (i := 10) scLaw.nd rfl (.inl rfl) (pe_lst (pa_cons (pe_callTy call_list_of (by rfl) T.mL PyProof.Rows.boot_list (pa_cons (pv 3) pa_nil)) (pa_cons (pe_callTy call_list_of (by rfl) T.mL PyProof.Rows.boot_list (pa_cons (pv 6) pa_nil)) pa_nil))))
    (C8.pss_cut (ps_if (PW.pt (pw_or (pt_not (pt_val (pe_call T.gE r7 (by rfl) T.mE T.kE T.bE .nil pass0 (pa_cons (pe_call T.gA r7 (by rfl) T.mA T.kA T.bA .nil pass0 (pa_cons (pv 2) (pa_cons (pe_ix ix_list (pv 10) pe_int (fun _ _ => rfl)) (pa_cons (pv 5) (pa_cons (pe_ix ix_list (pv 10) pe_int (fun _ _ => rfl)) pa_nil))))) (pa_cons (pv 7) pa_nil))))) (pw_or1 (pt_cmpR (op_neD hr.units) (pv 10) (pe_lst (pa_cons (pv 3) (pa_cons (pv 6) pa_nil))) (nomark _))))) (pss_one (ps_ret pe_bl)) pss_nil)
    (pss_one (ps_if (pt_not (pt_val (pe_call T.gE r7 (by rfl) T.mE T.kE T.bE .nil pass0 (pa_cons (pe_call T.gA r7 (by rfl) T.mA T.kA T.bA .nil pass0 (pa_cons (pv 2) (pa_cons (pe_ix ix_list (pv 10) pe_int (fun _ _ => rfl)) (pa_cons (pv 5) (pa_cons (pe_lst pa_nil) pa_nil))))) (pa_cons (pv 5) pa_nil))))) (pss_one (ps_ret pe_bl)) pss_nil))))))))
    (pss_one (ps_ret pe_bl))))))), ?_⟩
  have hlV : (ns.map V.int).length ≤ 63 := by rw [List.length_map]; exact h63
  refine ⟨.ref a, rfl, 63, rfl, a, ns.map V.int, rfl, hS, fun a1 n1 => ?_⟩
  rw [cut63 hlV]
  have s1 := same_upd (o := .lst (ns.map V.int)) n1
  have e1 : upd H a1 (.lst (ns.map V.int)) a1 = some (.lst (ns.map V.int)) := upd_same
  generalize upd H a1 (.lst (ns.map V.int)) = H1 at *
  -- most
  refine ⟨fun σ' H' => ∃ m : Int, σ' = [some (.ref a1), some (.int m), none, none, none, none, none, none, none, none, none] ∧ Same H1 H' ∧ 2 ≤ m ∧ m ≤ 399, ?_, ?_⟩
  · refine ⟨(by show 1 ≤ sizeLine; decide), fun l1 nl1 => ?_⟩
    have q1 := same_upd (o := .lst [.int 119]) nl1
    refine ⟨l1, 7, _, rfl, rfl, upd_same, by decide, by decide, (by show 1 * 7 ≤ sizeLine; decide), fun l2 nl2 => ?_⟩
    generalize e2 : upd (upd H1 l1 (.lst [.int 119])) l2 _ = H2
    have q2 : Same (upd H1 l1 (.lst [.int 119])) H2 := by rw [← e2]; exact same_upd nl2
    have z2 : H2 l2 = some (.lst [.int 119, .int 119, .int 119, .int 119, .int 119, .int 119, .int 119]) := by rw [← e2]; exact upd_same
    refine ⟨(by show 1 ≤ sizeLine; decide), fun l3 nl3 => ?_⟩
    have q3 := same_upd (o := .lst [.int 399]) nl3
    refine ⟨l2, l3, _, _, rfl, rfl, q3 _ _ z2, upd_same, (by show 7 + 1 ≤ sizeLine; decide), fun l4 nl4 => ?_⟩
    generalize e4 : upd (upd H2 l3 (.lst [.int 399])) l4 _ = H4
    have q4 : Same (upd H2 l3 (.lst [.int 399])) H4 := by rw [← e4]; exact same_upd nl4
    have z4 : H4 l4 = some (.lst [.int 119, .int 119, .int 119, .int 119, .int 119, .int 119, .int 119, .int 399]) := by rw [← e4]; exact upd_same
    refine ⟨.ref a1, rfl, (by show 1 ≤ sizeLine; decide), fun l5 nl5 => ?_⟩
    have q5 := same_upd (o := .lst [.int 8]) nl5
    have sA := q1.trans (q2.trans (q3.trans (q4.trans q5)))
    refine ⟨a1, l5, ns, [8], 62, rfl, .inl (.inl (sA _ _ e1)), h63, .inl (.inl upd_same), by decide, ?_, fun H6 pd s6 np ep => ?_⟩
    · intro z hz
      rw [List.mem_singleton.mp hz]
      exact ⟨by decide, by decide⟩
    have ep : H6 pd = some (.lst [.int (rawF ns 62 % 8)]) := ep
    have hm0 : 0 ≤ rawF ns 62 % 8 := Int.emod_nonneg _ (by decide)
    have hm1 : rawF ns 62 % 8 < 8 := Int.emod_lt_of_pos _ (by decide)
    generalize rawF ns 62 % 8 = g at *
    refine ⟨pd, _, 0, _, rfl, rfl, .inl (.inl ep), rfl, ?_⟩
    have hg : ∃ m : Int, atI [V.int 119, .int 119, .int 119, .int 119, .int 119, .int 119, .int 119, .int 399] g = some (.int m) ∧ 2 ≤ m ∧ m ≤ 399 := by
      have : g = 0 ∨ g = 1 ∨ g = 2 ∨ g = 3 ∨ g = 4 ∨ g = 5 ∨ g = 6 ∨ g = 7 := by omega
      rcases this with rfl | rfl | rfl | rfl | rfl | rfl | rfl | rfl
      · exact ⟨119, rfl, by decide, by decide⟩
      · exact ⟨119, rfl, by decide, by decide⟩
      · exact ⟨119, rfl, by decide, by decide⟩
      · exact ⟨119, rfl, by decide, by decide⟩
      · exact ⟨119, rfl, by decide, by decide⟩
      · exact ⟨119, rfl, by decide, by decide⟩
      · exact ⟨119, rfl, by decide, by decide⟩
      · exact ⟨399, rfl, by decide, by decide⟩
    obtain ⟨m, hm, m1, m2⟩ := hg
    exact ⟨l4, _, g, .int m, rfl, rfl, .inl (.inl (s6 _ _ (q5 _ _ z4))), hm, m, rfl, sA.trans s6, m1, m2⟩
  rintro σ' H2 ⟨m, rfl, s2, m1, m2⟩
  have e12 := s2 _ _ e1
  refine ⟨fun σ' H' => ∃ (n : Nat) (o : Addr) (xs : List V) (ss : List Sy), σ' = [some (.ref a1), some (.int m), some (.int (n : Int)), some (.ref o), none, none, none, none, none, none, none] ∧ Same H2 H' ∧ H' o = some (.lst xs) ∧ SL H' xs ss ∧ (∀ s ∈ ss, Good ((n : Int) + 1) s) ∧ ss.length ≤ 24 ∧ n ≤ 399, ?_, ?_⟩
  · refine ⟨.ref a1, rfl, .int m, rfl, a1, ns, m, rfl, .inl (.inl e12), h63, m1, by omega, fun H3 t o xs ss L s3 et no eo sl gd hl hL0 hL1 => ?_⟩
    obtain ⟨n, rfl⟩ : ∃ n : Nat, L = (n : Int) := ⟨L.toNat, by omega⟩
    exact ⟨t, _, rfl, .inl (.inl et), rfl, _, _, rfl, _, _, rfl, rfl, n, o, xs, ss, rfl, s3, eo, sl, fun s hs => (gd s hs).more, hl, by omega⟩
  rintro σ' H3 ⟨n, o, xs, ss, rfl, s3, eo, sl, gd, hl, hn⟩
  have e13 := s3 _ _ e12
  refine ⟨fun σ' H' => ∃ e : Int, σ' = [some (.ref a1), some (.int m), some (.int e), some (.ref o), none, none, none, none, none, none, none] ∧ H' = H3 ∧ e = (n : Int) + 1, ?_, ?_⟩
  · exact ⟨.int (n : Int), rfl, _, 1, rfl, rfl, _, rfl, rfl, rfl⟩
  rintro σ' H' ⟨e, rfl, eH, he⟩
  have eH' := eH.symm
  subst eH'
  rw [← he] at gd
  refine ⟨10, rfl, by decide, by decide, for_range (lo := 0) (n := 10) (fun i σ H9 => ∃ y4 y5 y6 y7 y8 y9 y10, σ = [some (.ref a1), some (.int m), some (.int e), some (.ref o), y4, y5, y6, y7, y8, y9, y10] ∧ Same H3 H9) ⟨none, none, none, none, none, none, none, rfl, Same.refl _⟩ (fun i0 σ H9 hi hP => ?_) (fun σ H9 hP => q _)⟩
  obtain ⟨y4, y5, y6, y7, y8, y9, y10, rfl, s9⟩ := hP
  -- steps
  refine ⟨fun σ' H' => ∃ (st : Int) (c : Addr) (zs : List V) (ps : List Pr), σ' = [some (.ref a1), some (.int m), some (.int e), some (.ref o), some (.int (0 + (i0 : Int))), some (.int st), some (.ref c), y7, y8, y9, y10] ∧ Same H3 H' ∧ H' c = some (.lst zs) ∧ PL H' zs ps ∧ ps.length ≤ 9 ∧ 0 ≤ st ∧ st < e, ?_, ?_⟩
  · refine ⟨.ref a1, rfl, .int (0 + (i0 : Int)), rfl, _, _, rfl, rfl, .int e, rfl, .ref o, rfl, a1, o, ns, 10 + (0 + (i0 : Int)), e, xs, ss, rfl, .inl (.inl (s9 _ _ e13)), h63, s9 _ _ eo, SL.ts (TS.of s9) sl, hl, by omega, by omega, fun H10 t c zs ps st s10 et nc ec pz lp st0 st1 => ?_⟩
    exact ⟨t, _, rfl, .inl (.inl et), rfl, _, _, rfl, _, _, rfl, rfl, st, c, zs, ps, rfl, s9.trans s10, ec, pz, lp, st0, st1⟩
  rintro σ' HA ⟨st, c, zs, ps, rfl, sA, ec, pz, lp, st0, st1⟩
  refine ⟨.int st, rfl, ?_⟩
  -- due
  refine ⟨fun σ' H' => ∃ y8 y9, σ' = [some (.ref a1), some (.int m), some (.int e), some (.ref o), some (.int (0 + (i0 : Int))), some (.int st), some (.ref c), some (oV (leadsF ss st ps)), y8, y9, y10] ∧ Same HA H', ?_, ?_⟩
  · refine ⟨.ref c, rfl, c, rfl, ⟨_, .inl (.inl ec)⟩, for_list (xs := zs) (fun i σ' H' => ∃ (d : Option Int) (y8 y9 : Option V), σ' = [some (.ref a1), some (.int m), some (.int e), some (.ref o), some (.int (0 + (i0 : Int))), some (.int st), some (.ref c), some (oV d), y8, y9, y10] ∧ Same HA H' ∧ leadsF ss st ps = walkF ss d (ps.drop i)) ⟨some st, y8, y9, rfl, Same.refl _, rfl⟩ (fun i σ H5 _ hP => ?_) (fun i v σ H5 hv hP => ?_) (fun σ H5 hP => ?_)⟩
    · obtain ⟨_, _, _, _, sm, _⟩ := hP
      exact .inl (.inl (sm _ _ ec))
    · obtain ⟨d, y8, y9, rfl, sm, el⟩ := hP
      obtain ⟨tp, p, rfl, htp, hp⟩ := pz.get hv
      obtain ⟨hi2, est⟩ := List.getElem?_eq_some_iff.mp hp
      have ed : ps.drop i = p :: ps.drop (i + 1) := by rw [List.drop_eq_getElem_cons hi2, est]
      rw [ed] at el
      refine ⟨tp, [.int p.1, .int p.2], rfl, .inl (.inl (sm _ _ htp)), rfl, _, _, rfl, _, _, rfl, rfl, ?_⟩
      cases d with
      | none =>
        refine ⟨.non, rfl, rfl, _, rfl, ?_⟩
        refine iteF ?_
        exact ⟨none, _, _, rfl, sm, el⟩
      | some g =>
        refine ⟨.int g, rfl, rfl, _, rfl, ?_⟩
        refine iteT ?_
        have es : walkF ss (some g) (p :: ps.drop (i + 1)) = if 0 ≤ p.1 ∧ ∃ s, ss[p.1.toNat]? = some s ∧ p.2 ∈ besF s g then leadsF ss p.2 (ps.drop (i + 1)) else none := rfl
        rw [es] at el
        refine ⟨.int p.1, rfl, _, _, rfl, rfl, _, rfl, ite2 (fun c1 => ?_) (fun c1 => ?_)⟩
        · have c1 : 0 ≤ p.1 := of_decide_eq_true c1
          refine ⟨.ref o, rfl, o, _, rfl, .inl (.inl (.inl (sm _ _ (sA _ _ eo)))), _, _, rfl, rfl, _, rfl, ?_⟩
          by_cases c2 : p.1 < (xs.length : Int)
          · rw [decide_eq_true c2]
            refine iteF ?_
            obtain ⟨j, hj⟩ : ∃ j : Nat, p.1 = (j : Int) := ⟨p.1.toNat, by omega⟩
            obtain ⟨sv, gx⟩ : ∃ v, xs[j]? = some v := ⟨_, List.getElem?_eq_getElem (show j < xs.length by omega)⟩
            obtain ⟨s, hs, is_⟩ := sl.get gx
            refine ⟨.ref o, rfl, .int p.1, rfl, o, _, _, sv, rfl, rfl, .inl (.inl (sm _ _ (sA _ _ eo))), by rw [hj]; exact atI_nat gx, .int g, rfl, .int p.2, rfl, sv, s, g, p.2, rfl, is_.ts (TS.of (sA.trans sm)), fun H6 s6 => ⟨_, rfl, ?_⟩⟩
            by_cases c3 : p.2 ∈ besF s g
            · rw [decide_eq_true c3]
              refine iteF ?_
              refine ⟨.int p.2, rfl, some p.2, _, _, rfl, sm.trans s6, ?_⟩
              rw [el, if_pos ⟨c1, s, by rw [hj, Int.toNat_natCast]; exact hs, c3⟩]; rfl
            · rw [decide_eq_false c3]
              refine iteT ?_
              refine ⟨none, _, _, rfl, sm.trans s6, ?_⟩
              rw [el, if_neg (fun ⟨_, s', z, w⟩ => by
                rw [hj, Int.toNat_natCast, hs] at z
                cases z
                exact c3 w)]; rfl
          · rw [decide_eq_false c2]
            refine iteT ?_
            refine iteT ?_
            refine ⟨none, _, _, rfl, sm, ?_⟩
            rw [el, if_neg (fun ⟨_, s', z, _⟩ => by
              have := (List.getElem?_eq_some_iff.mp z).1
              rw [← sl.len] at this
              omega)]; rfl
        · have c1 : ¬ 0 ≤ p.1 := fun z => c1 (decide_eq_true z)
          refine ⟨false, rfl, ?_⟩
          refine iteT ?_
          refine iteT ?_
          refine ⟨none, _, _, rfl, sm, ?_⟩
          rw [el, if_neg fun z => c1 z.1]; rfl
    · obtain ⟨d, y8, y9, rfl, sm, el⟩ := hP
      rw [pz.len, List.drop_length] at el
      have : walkF ss d [] = d := by cases d <;> rfl
      rw [this] at el
      rw [el]
      exact ⟨_, _, rfl, sm⟩
  rintro σ' HB ⟨y8', y9', rfl, sB⟩
  have eoB := sB _ _ (sA _ _ eo)
  have slB := SL.ts (TS.of (sA.trans sB)) sl
  have ecB := sB _ _ ec
  have pzB := PL.ts (TS.of sB) pz
  generalize hdu : leadsF ss st ps = du
  -- handed
  refine ⟨fun σ' H' => ∃ (hA h0 h1 : Addr), σ' = [some (.ref a1), some (.int m), some (.int e), some (.ref o), some (.int (0 + (i0 : Int))), some (.int st), some (.ref c), some (oV du), y8', y9', some (.ref hA)] ∧ Same HB H' ∧ H' hA = some (.lst [.ref h0, .ref h1]) ∧ H' h0 = some (.lst xs) ∧ H' h1 = some (.lst zs), ?_, ?_⟩
  · refine ⟨.ref o, rfl, o, _, rfl, .inl (.inl (.inl eoB)), fun h0 n0 => ?_⟩
    have q0 := same_upd (o := .lst xs) n0
    refine ⟨.ref c, rfl, c, _, rfl, .inl (.inl (.inl (q0 _ _ ecB))), fun h1 n1 => ?_⟩
    have q1 := same_upd (o := .lst zs) n1
    refine ⟨(by show 2 ≤ sizeLine; decide), fun hA nA => ?_⟩
    have q2 := same_upd (o := .lst [.ref h0, .ref h1]) nA
    exact ⟨hA, h0, h1, rfl, q0.trans (q1.trans q2), upd_same, q2 _ _ (q1 _ _ upd_same), q2 _ _ upd_same⟩
  rintro σ' HC ⟨hA, h0, h1, rfl, sC, zA, z0, z1⟩
  have slC := SL.ts (TS.of sC) slB
  have pzC := PL.ts (TS.of sC) pzB
  refine ⟨fun σ' H' => σ' = [some (.ref a1), some (.int m), some (.int e), some (.ref o), some (.int (0 + (i0 : Int))), some (.int st), some (.ref c), some (oV du), y8', y9', some (.ref hA)] ∧ Same HC H', ?_, ?_⟩
  · refine ⟨.int e, rfl, .ref hA, rfl, hA, _, 0, .ref h0, rfl, rfl, .inl (.inl zA), rfl, .int st, rfl, .ref hA, rfl, hA, _, 1, .ref h1, rfl, rfl, .inl (.inl zA), rfl, e, st, h0, h1, xs, zs, ss, ps, rfl, .inl (.inl z0), slC, gd, st0, st1, by omega, .inl (.inl z1), pzC, fun HD sD => ?_⟩
    rw [hdu]
    have dN : DT HD 6 (oV du) (match du with | none => .none | some k => .int k) := by
      cases du with
      | none => exact .non
      | some k => exact .int _
    refine ⟨oV du, rfl, _, _, _, rfl, dN, dN, fun HE sE => ⟨true, rfl, ?_⟩⟩
    refine iteF ?_
    have sCE := sD.trans sE
    refine ⟨.ref hA, rfl, .ref o, rfl, .ref c, rfl, (by show 2 ≤ sizeLine; decide), fun l nl => ?_⟩
    have s5 := same_upd (o := .lst [.ref o, .ref c]) nl
    have sx := sCE.trans s5
    have slx := SL.ts (TS.of sx) slC
    have pzx := PL.ts (TS.of sx) pzC
    refine ⟨bothD ss ps, bothD ss ps, .lst (.inl (.inl (sx _ _ zA))) (.cons (.lst (.inl (.inl (sx _ _ z0))) slx.dp) (.cons (.lst (.inl (.inl (sx _ _ z1))) pzx.dp) .nil)), .lst (.inl (.inl upd_same)) (.cons (.lst (.inl (.inl (sx _ _ (sC _ _ eoB)))) slx.dp) (.cons (.lst (.inl (.inl (sx _ _ (sC _ _ ecB)))) pzx.dp) .nil)), shapedBoth _ _, shapedBoth _ _, _, rfl, ?_⟩
    rw [eqvBoth]
    refine iteF ?_
    exact ⟨rfl, sx⟩
  rintro σ' HD ⟨rfl, sD⟩
  refine ⟨.int e, rfl, .ref hA, rfl, hA, _, 0, .ref h0, rfl, rfl, .inl (.inl (sD _ _ zA)), rfl, .int st, rfl, (by show 0 ≤ sizeLine; decide), fun l nl => ?_⟩
  have s5 := same_upd (o := .lst []) nl
  refine ⟨e, st, h0, l, xs, [], ss, [], rfl, .inl (.inl (s5 _ _ (sD _ _ z0))), SL.ts (TS.of (sD.trans s5)) slC, gd, st0, st1, by omega, .inl (.inl upd_same), PL.nil, fun HE sE => ?_⟩
  refine ⟨.int st, rfl, .int st, .int st, .int st, rfl, .int st, .int st, fun HF sF => ⟨true, rfl, ?_⟩⟩
  refine iteF ?_
  exact ⟨_, _, _, _, _, _, _, rfl, sA.trans (sB.trans (sC.trans (sD.trans (s5.trans (sE.trans sF)))))⟩
end
end Rep
namespace Rep
open PySem PySem.Spec PyProof.Rows L2
/-- the end of a law with tables, from what the head knows of the top -/
theorem walk_top {l : PySem.W.OpenLaw} {n k : Nat} {q : Program} {loose : List Str} {XP : (Str → Option Value) → Heap → Prop} {YP : World → Heap → Prop} {d : DefRec} {K : Params → PySem.W.Frag} {CX : World → CXT} {x : Str}
    (hn : l.most = some n) (hn2 : n ≤ sizeLine) (hdf : d.params.defaults = []) (hr : Room k callerA) (hY : ∀ (w : World) (h : Heap), YP w h → (K w.params).In h)
    (F : ∀ (w : World) (mg mb : Str → Option Value) (mean : ExcName → Option Value) (fa : Addr) (h : Heap), (K w.params).In h → Top q (PySem.W.looseW q loose) mean mg mb h → mg d.name = some (.ref fa) → LamX.LawAtS l w (K w.params) (CX w) k n x mg fa h)
    (hCX : ∀ (w : World) (H : Hp) (s : Shared) (e : Value) (s' : Shared), CX w [] H s (fun _ _ _ => False) e s' → False) :
    PySem.W.WalkO q loose XP YP l.row.toRowW d [] (fun f vs => PySem.call f vs) := by
  refine Att.attach_callB hn hdf fun w s₀ s₁ mg mb fa o pm cd doc a vs ns G Y ho hd hcd hmg hobj hints hlen hbits hg => ?_
  have KX := hY w _ Y
  obtain ⟨fd, cs, sp, hT, nT, C, hb, hsp, hF⟩ := F w mg mb _ fa _ KX G.T hmg
  exact LamX.law_callTs KX G.T.g G.T.b G.T.builtins G.T.nolimit hg hT nT C G.T.bmain hobj hints (Nat.le_trans hlen hn2) hr hF hb (fun H hH hS => hsp H a ns hlen hbits hH hS) fun H e s' => hCX w H s₁ e s'
theorem no_tab {K : PySem.W.Frag} {h : Heap} {P : Addr} (X : K.In h) (hK : PySem.W.noTabs K = true) (hP : h.get? P = some (PySem.W.tabObj #[])) : K.lookup P = none := by
  cases e : K.lookup P with
  | none => rfl
  | some o =>
    have e1 := X P o e
    rw [hP] at e1
    cases e1
    have h2 := List.all_eq_true.mp hK (P, _) (PySem.W.mem_of_lookupK e)
    exact absurd (show false = true from h2) Bool.false_ne_true
end Rep
namespace Rep
open PySem PySem.Spec PyProof.Rows L2
theorem all_mk {l : PySem.W.OpenLaw} {w : World} {K : PySem.W.Frag} {h : Heap} {q : Program} {loose : List Str} {mean : ExcName → Option Value} {mg mb : Str → Option Value} {fa f1 f2 f3 f4 f5 f6 f7 f8 f9 f10 f11 f12 f13 f14 f15 f16 f17 f18  : Addr} (X : K.In h) (TT : Top q loose mean mg mb h) (hfa : mg "law" = some (.ref fa))
    {od1 an1 od2 an2 od3 an3 od4 an4 od5 an5 od6 an6 od7 an7 od8 an8 od9 an9 od10 an10 od11 an11 od12 an12 od13 an13 od14 an14 od15 an15 od16 an16 od17 an17 od18 an18 : Option Addr} {sl1 sl2 sl3 sl4 sl5 sl6 sl7 sl8 sl9 sl10 sl11 sl12 sl13 sl14 sl15 sl16 sl17 sl18 : Array (Option Value)} {oc1 kV1 dc1 pm1 cd1 ct1 oc2 kV2 dc2 pm2 cd2 ct2 oc3 kV3 dc3 pm3 cd3 ct3 oc4 kV4 dc4 pm4 cd4 ct4 oc5 kV5 dc5 pm5 cd5 ct5 oc6 kV6 dc6 pm6 cd6 ct6 oc7 kV7 dc7 pm7 cd7 ct7 oc8 kV8 dc8 pm8 cd8 ct8 oc9 kV9 dc9 pm9 cd9 ct9 oc10 kV10 dc10 pm10 cd10 ct10 oc11 kV11 dc11 pm11 cd11 ct11 oc12 kV12 dc12 pm12 cd12 ct12 oc13 kV13 dc13 pm13 cd13 ct13 oc14 kV14 dc14 pm14 cd14 ct14 oc15 kV15 dc15 pm15 cd15 ct15 oc16 kV16 dc16 pm16 cd16 ct16 oc17 kV17 dc17 pm17 cd17 ct17 oc18 kV18 dc18 pm18 cd18 ct18 v_TOO_LONG : Value}
    (a1 : PySem.W.nsIn K mainGlobals "check_length" = some (some (.ref f1)))
    (l1 : K.lookup f1 = some ⟨oc1, od1, .func (PySem.W.fnOf "check_length" "check_length" (defArgs sCheck_length) (defBody sCheck_length) (defScope sCheck_length) .none kV1 dc1 pm1 an1 cd1 ct1), sl1⟩)
    (c1 : PySem.W.codeIn K cd1 "check_length" = true)
    (k1 : PySem.W.keepIn K (.ref f1) = true)
    (a2 : PySem.W.nsIn K mainGlobals "check_place" = some (some (.ref f2)))
    (l2 : K.lookup f2 = some ⟨oc2, od2, .func (PySem.W.fnOf "check_place" "check_place" (defArgs sCheck_place) (defBody sCheck_place) (defScope sCheck_place) .none kV2 dc2 pm2 an2 cd2 ct2), sl2⟩)
    (c2 : PySem.W.codeIn K cd2 "check_place" = true)
    (k2 : PySem.W.keepIn K (.ref f2) = true)
    (a3 : PySem.W.nsIn K mainGlobals "check_stretch" = some (some (.ref f3)))
    (l3 : K.lookup f3 = some ⟨oc3, od3, .func (PySem.W.fnOf "check_stretch" "check_stretch" (defArgs sCheck_stretch) (defBody sCheck_stretch) (defScope sCheck_stretch) .none kV3 dc3 pm3 an3 cd3 ct3), sl3⟩)
    (c3 : PySem.W.codeIn K cd3 "check_stretch" = true)
    (k3 : PySem.W.keepIn K (.ref f3) = true)
    (a4 : PySem.W.nsIn K mainGlobals "check_sayings" = some (some (.ref f4)))
    (l4 : K.lookup f4 = some ⟨oc4, od4, .func (PySem.W.fnOf "check_sayings" "check_sayings" (defArgs sCheck_sayings) (defBody sCheck_sayings) (defScope sCheck_sayings) .none kV4 dc4 pm4 an4 cd4 ct4), sl4⟩)
    (c4 : PySem.W.codeIn K cd4 "check_sayings" = true)
    (k4 : PySem.W.keepIn K (.ref f4) = true)
    (a5 : PySem.W.nsIn K mainGlobals "met" = some (some (.ref f5)))
    (l5 : K.lookup f5 = some ⟨oc5, od5, .func (PySem.W.fnOf "met" "met" (defArgs sMet) (defBody sMet) (defScope sMet) .none kV5 dc5 pm5 an5 cd5 ct5), sl5⟩)
    (c5 : PySem.W.codeIn K cd5 "met" = true)
    (k5 : PySem.W.keepIn K (.ref f5) = true)
    (a6 : PySem.W.nsIn K mainGlobals "beside" = some (some (.ref f6)))
    (l6 : K.lookup f6 = some ⟨oc6, od6, .func (PySem.W.fnOf "beside" "beside" (defArgs sBeside) (defBody sBeside) (defScope sBeside) .none kV6 dc6 pm6 an6 cd6 ct6), sl6⟩)
    (c6 : PySem.W.codeIn K cd6 "beside" = true)
    (k6 : PySem.W.keepIn K (.ref f6) = true)
    (a7 : PySem.W.nsIn K mainGlobals "leads" = some (some (.ref f7)))
    (l7 : K.lookup f7 = some ⟨oc7, od7, .func (PySem.W.fnOf "leads" "leads" (defArgs sLeads) (defBody sLeads) (defScope sLeads) .none kV7 dc7 pm7 an7 cd7 ct7), sl7⟩)
    (c7 : PySem.W.codeIn K cd7 "leads" = true)
    (k7 : PySem.W.keepIn K (.ref f7) = true)
    (a8 : PySem.W.nsIn K mainGlobals "_law_mix" = some (some (.ref f8)))
    (l8 : K.lookup f8 = some ⟨oc8, od8, .func (PySem.W.fnOf "_law_mix" "_law_mix" (defArgs sMix) (defBody sMix) (defScope sMix) .none kV8 dc8 pm8 an8 cd8 ct8), sl8⟩)
    (c8 : PySem.W.codeIn K cd8 "_law_mix" = true)
    (k8 : PySem.W.keepIn K (.ref f8) = true)
    (a9 : PySem.W.nsIn K mainGlobals "_law_raw" = some (some (.ref f9)))
    (l9 : K.lookup f9 = some ⟨oc9, od9, .func (PySem.W.fnOf "_law_raw" "_law_raw" (defArgs sRaw) (defBody sRaw) (defScope sRaw) .none kV9 dc9 pm9 an9 cd9 ct9), sl9⟩)
    (c9 : PySem.W.codeIn K cd9 "_law_raw" = true)
    (k9 : PySem.W.keepIn K (.ref f9) = true)
    (a10 : PySem.W.nsIn K mainGlobals "_law_digits" = some (some (.ref f10)))
    (l10 : K.lookup f10 = some ⟨oc10, od10, .func (PySem.W.fnOf "_law_digits" "_law_digits" (defArgs sDig) (defBody sDig) (defScope sDig) .none kV10 dc10 pm10 an10 cd10 ct10), sl10⟩)
    (c10 : PySem.W.codeIn K cd10 "_law_digits" = true)
    (k10 : PySem.W.keepIn K (.ref f10) = true)
    (a11 : PySem.W.nsIn K mainGlobals "_law_saying" = some (some (.ref f11)))
    (l11 : K.lookup f11 = some ⟨oc11, od11, .func (PySem.W.fnOf "_law_saying" "_law_saying" (defArgs s_law_saying) (defBody s_law_saying) (defScope s_law_saying) .none kV11 dc11 pm11 an11 cd11 ct11), sl11⟩)
    (c11 : PySem.W.codeIn K cd11 "_law_saying" = true)
    (k11 : PySem.W.keepIn K (.ref f11) = true)
    (a12 : PySem.W.nsIn K mainGlobals "_law_sayings" = some (some (.ref f12)))
    (l12 : K.lookup f12 = some ⟨oc12, od12, .func (PySem.W.fnOf "_law_sayings" "_law_sayings" (defArgs s_law_sayings) (defBody s_law_sayings) (defScope s_law_sayings) .none kV12 dc12 pm12 an12 cd12 ct12), sl12⟩)
    (c12 : PySem.W.codeIn K cd12 "_law_sayings" = true)
    (k12 : PySem.W.keepIn K (.ref f12) = true)
    (a13 : PySem.W.nsIn K mainGlobals "_law_crowded_song" = some (some (.ref f13)))
    (l13 : K.lookup f13 = some ⟨oc13, od13, .func (PySem.W.fnOf "_law_crowded_song" "_law_crowded_song" (defArgs s_law_crowded_song) (defBody s_law_crowded_song) (defScope s_law_crowded_song) .none kV13 dc13 pm13 an13 cd13 ct13), sl13⟩)
    (c13 : PySem.W.codeIn K cd13 "_law_crowded_song" = true)
    (k13 : PySem.W.keepIn K (.ref f13) = true)
    (a14 : PySem.W.nsIn K mainGlobals "_law_lays" = some (some (.ref f14)))
    (l14 : K.lookup f14 = some ⟨oc14, od14, .func (PySem.W.fnOf "_law_lays" "_law_lays" (defArgs s_law_lays) (defBody s_law_lays) (defScope s_law_lays) .none kV14 dc14 pm14 an14 cd14 ct14), sl14⟩)
    (c14 : PySem.W.codeIn K cd14 "_law_lays" = true)
    (k14 : PySem.W.keepIn K (.ref f14) = true)
    (a15 : PySem.W.nsIn K mainGlobals "_law_same" = some (some (.ref f15)))
    (l15 : K.lookup f15 = some ⟨oc15, od15, .func (PySem.W.fnOf "_law_same" "_law_same" (defArgs sSame) (defBody sSame) (defScope sSame) .none kV15 dc15 pm15 an15 cd15 ct15), sl15⟩)
    (c15 : PySem.W.codeIn K cd15 "_law_same" = true)
    (k15 : PySem.W.keepIn K (.ref f15) = true)
    (a16 : PySem.W.nsIn K mainGlobals "_law_options" = some (some (.ref f16)))
    (l16 : K.lookup f16 = some ⟨oc16, od16, .func (PySem.W.fnOf "_law_options" "_law_options" (defArgs s_law_options) (defBody s_law_options) (defScope s_law_options) .none kV16 dc16 pm16 an16 cd16 ct16), sl16⟩)
    (c16 : PySem.W.codeIn K cd16 "_law_options" = true)
    (k16 : PySem.W.keepIn K (.ref f16) = true)
    (a17 : PySem.W.nsIn K mainGlobals "_law_steps" = some (some (.ref f17)))
    (l17 : K.lookup f17 = some ⟨oc17, od17, .func (PySem.W.fnOf "_law_steps" "_law_steps" (defArgs s_law_steps) (defBody s_law_steps) (defScope s_law_steps) .none kV17 dc17 pm17 an17 cd17 ct17), sl17⟩)
    (c17 : PySem.W.codeIn K cd17 "_law_steps" = true)
    (k17 : PySem.W.keepIn K (.ref f17) = true)
    (a18 : PySem.W.nsIn K mainGlobals "law" = some (some (.ref f18)))
    (l18 : K.lookup f18 = some ⟨oc18, od18, .func (PySem.W.fnOf "law" "law" (defArgs sLaw) (defBody sLaw) (defScope sLaw) .none kV18 dc18 pm18 an18 cd18 ct18), sl18⟩)
    (c18 : PySem.W.codeIn K cd18 "law" = true)
    (k18 : PySem.W.keepIn K (.ref f18) = true)
    (aI_TOO_LONG : PySem.W.nsIn K mainGlobals "TOO_LONG" = some (some v_TOO_LONG))
    (y_len : PySem.W.nsIn K mainGlobals "len" = some none)
    (y_range : PySem.W.nsIn K mainGlobals "range" = some none)
    (y_list : PySem.W.nsIn K mainGlobals "list" = some none)
    (y_isinstance : PySem.W.nsIn K mainGlobals "isinstance" = some none)
    (y_bool : PySem.W.nsIn K mainGlobals "bool" = some none)
    (y_int : PySem.W.nsIn K mainGlobals "int" = some none)
    (y_tuple : PySem.W.nsIn K mainGlobals "tuple" = some none)
    (y_str : PySem.W.nsIn K mainGlobals "str" = some none)
    (y_all : PySem.W.nsIn K mainGlobals "all" = some none)
    (y_zip : PySem.W.nsIn K mainGlobals "zip" = some none)
    (y_min : PySem.W.nsIn K mainGlobals "min" = some none)
    (y_max : PySem.W.nsIn K mainGlobals "max" = some none)
    (y_enumerate : PySem.W.nsIn K mainGlobals "enumerate" = some none)
    (r_TOO_LONG : RelV (.int (10 ^ 40)) v_TOO_LONG)
    : LamX.LawAtS l w K CX0 9 63 "_law_script" mg fa h := by
  have G := TT.g
  have e := hfa.symm.trans (PySem.W.mg_of X G a18)
  cases e
  have F1 := fun_mk (st := sCheck_length) l1 c1 k1
  have g1 := PySem.W.mg_of X G a1
  have b1 := F1.binds (ps := ["length"]) fun _ _ _ _ _ _ us hl => match us, hl with | [_], _ => rfl
  have F2 := fun_mk (st := sCheck_place) l2 c2 k2
  have g2 := PySem.W.mg_of X G a2
  have b2 := F2.binds (ps := ["length", "place"]) fun _ _ _ _ _ _ us hl => match us, hl with | [_, _], _ => rfl
  have F3 := fun_mk (st := sCheck_stretch) l3 c3 k3
  have g3 := PySem.W.mg_of X G a3
  have b3 := F3.binds (ps := ["length", "at", "many"]) fun _ _ _ _ _ _ us hl => match us, hl with | [_, _, _], _ => rfl
  have F4 := fun_mk (st := sCheck_sayings) l4 c4 k4
  have g4 := PySem.W.mg_of X G a4
  have b4 := F4.binds (ps := ["length", "sayings"]) fun _ _ _ _ _ _ us hl => match us, hl with | [_, _], _ => rfl
  have F5 := fun_mk (st := sMet) l5 c5 k5
  have g5 := PySem.W.mg_of X G a5
  have b5 := F5.binds (ps := ["saying", "i"]) fun _ _ _ _ _ _ us hl => match us, hl with | [_, _], _ => rfl
  have F6 := fun_mk (st := sBeside) l6 c6 k6
  have g6 := PySem.W.mg_of X G a6
  have b6 := F6.binds (ps := ["saying", "place"]) fun _ _ _ _ _ _ us hl => match us, hl with | [_, _], _ => rfl
  have F7 := fun_mk (st := sLeads) l7 c7 k7
  have g7 := PySem.W.mg_of X G a7
  have b7 := F7.binds (ps := ["length", "sayings", "one", "steps"]) fun _ _ _ _ _ _ us hl => match us, hl with | [_, _, _, _], _ => rfl
  have F8 := fun_mk (st := sMix) l8 c8 k8
  have g8 := PySem.W.mg_of X G a8
  have b8 := F8.binds (ps := ["_law_seed"]) fun _ _ _ _ _ _ us hl => match us, hl with | [_], _ => rfl
  have F9 := fun_mk (st := sRaw) l9 c9 k9
  have g9 := PySem.W.mg_of X G a9
  have b9 := F9.binds (ps := ["_law_script", "_law_k"]) fun _ _ _ _ _ _ us hl => match us, hl with | [_, _], _ => rfl
  have F10 := fun_mk (st := sDig) l10 c10 k10
  have g10 := PySem.W.mg_of X G a10
  have b10 := F10.binds (ps := ["_law_script", "_law_k", "_law_sizes"]) fun _ _ _ _ _ _ us hl => match us, hl with | [_, _, _], _ => rfl
  have F11 := fun_mk (st := s_law_saying) l11 c11 k11
  have g11 := PySem.W.mg_of X G a11
  have b11 := F11.binds (ps := ["_law_script", "_law_k", "_law_length"]) fun _ _ _ _ _ _ us hl => match us, hl with | [_, _, _], _ => rfl
  have F12 := fun_mk (st := s_law_sayings) l12 c12 k12
  have g12 := PySem.W.mg_of X G a12
  have b12 := F12.binds (ps := ["_law_script", "_law_k", "_law_length", "_law_many"]) fun _ _ _ _ _ _ us hl => match us, hl with | [_, _, _, _], _ => rfl
  have F13 := fun_mk (st := s_law_crowded_song) l13 c13 k13
  have g13 := PySem.W.mg_of X G a13
  have b13 := F13.binds (ps := ["_law_script", "_law_most"]) fun _ _ _ _ _ _ us hl => match us, hl with | [_, _], _ => rfl
  have F14 := fun_mk (st := s_law_lays) l14 c14 k14
  have g14 := PySem.W.mg_of X G a14
  have b14 := F14.binds (ps := ["_law_saying_here", "_law_here", "_law_to"]) fun _ _ _ _ _ _ us hl => match us, hl with | [_, _, _], _ => rfl
  have F15 := fun_mk (st := sSame) l15 c15 k15
  have g15 := PySem.W.mg_of X G a15
  have b15 := F15.binds (ps := ["_law_told", "_law_due"]) fun _ _ _ _ _ _ us hl => match us, hl with | [_, _], _ => rfl
  have F16 := fun_mk (st := s_law_options) l16 c16 k16
  have g16 := PySem.W.mg_of X G a16
  have b16 := F16.binds (ps := ["_law_sayings_here", "_law_here"]) fun _ _ _ _ _ _ us hl => match us, hl with | [_, _], _ => rfl
  have F17 := fun_mk (st := s_law_steps) l17 c17 k17
  have g17 := PySem.W.mg_of X G a17
  have b17 := F17.binds (ps := ["_law_script", "_law_k", "_law_length", "_law_sayings_here"]) fun _ _ _ _ _ _ us hl => match us, hl with | [_, _, _, _], _ => rfl
  have F18 := fun_mk (st := sLaw) l18 c18 k18
  have g18 := PySem.W.mg_of X G a18
  have z_len := PySem.W.mg_none_of X G y_len
  have z_range := PySem.W.mg_none_of X G y_range
  have z_list := PySem.W.mg_none_of X G y_list
  have z_isinstance := PySem.W.mg_none_of X G y_isinstance
  have z_bool := PySem.W.mg_none_of X G y_bool
  have z_int := PySem.W.mg_none_of X G y_int
  have z_tuple := PySem.W.mg_none_of X G y_tuple
  have z_str := PySem.W.mg_none_of X G y_str
  have z_all := PySem.W.mg_none_of X G y_all
  have z_zip := PySem.W.mg_none_of X G y_zip
  have z_min := PySem.W.mg_none_of X G y_min
  have z_max := PySem.W.mg_none_of X G y_max
  have z_enumerate := PySem.W.mg_none_of X G y_enumerate
  have m_TOO_LONG : ∃ u, mg "TOO_LONG" = some u ∧ RelV (.int (10 ^ 40)) u := ⟨_, PySem.W.mg_of X G aI_TOO_LONG, r_TOO_LONG⟩
  refine ⟨PySem.W.fnOf "law" "law" (defArgs sLaw) (defBody sLaw) (defScope sLaw) .none kV18 dc18 pm18 an18 cd18 ct18, [], spLaw25 K, ?_, ?_, ?_, fun s v => .of_eq rfl, ?_, fun base _ _ TBs => ?_⟩
  · intro p hp; cases hp
  · intro p hp; cases hp
  · intro p hp; cases hp
  · intro H a ns hl _ _ hS; exact ⟨a, ns, rfl, hS, hl, fun _ => rfl⟩
  have T : TySame mg := ⟨z_isinstance, z_bool, z_int, z_list, z_tuple, z_str, z_len, z_all, z_zip⟩
  have GS : FnOk l.prog w K mg base CX0 7 f13 _ ["_law_script", "_law_most"] (spSong K) := (ok_song F13 (ok_dig F10 (ok_raw F9 F8 b8 g8 z_len z_range) k9 b9 g9) k10 b10 g10 (ok_says F12 (ok_say F11 (ok_dig F10 (ok_raw F9 F8 b8 g8 z_len z_range) k9 b9 g9) k10 b10 g10 z_min z_max) k11 b11 g11 z_range) k12 b12 g12 z_int)
  have GD : FnOk l.prog w K mg base CX0 7 f10 _ ["_law_script", "_law_k", "_law_sizes"] (spDig K) := (ok_dig F10 (ok_raw F9 F8 b8 g8 z_len z_range) k9 b9 g9)
  have GD6 : FnOk l.prog w K mg base CX0 6 f10 _ ["_law_script", "_law_k", "_law_sizes"] (spDig K) := (ok_dig F10 (ok_raw F9 F8 b8 g8 z_len z_range) k9 b9 g9)
  have GO : FnOk l.prog w K mg base CX0 6 f16 _ ["_law_sayings_here", "_law_here"] (spOpt K) := (ok_opt F16 z_enumerate)
  have GW : FnOk l.prog w K mg base CX0 7 f17 _ ["_law_script", "_law_k", "_law_length", "_law_sayings_here"] (spStp K) := (ok_stp F17 ⟨GD6, b10, k10, g10, GO, b16, k16, g16, z_len⟩)
  have GY : FnOk l.prog w K mg base CX0 7 f14 _ ["_law_saying_here", "_law_here", "_law_to"] spLay := (ok_lay F14)
  have GA : FnOk l.prog w K mg base CX0 7 f7 _ ["length", "sayings", "one", "steps"] (spLds K) := (ok_lds F7 ⟨ok_chkl F1 m_TOO_LONG, b1, k1, g1, ok_chkss F4 (ok_chks F3) k3 b3 g3, b4, k4, g4, ok_chkp F2, b2, k2, g2, ok_bes F6 ⟨ok_met F5, b5, k5, g5⟩, b6, k6, g6, z_len⟩)
  exact ok_law25 F18 ⟨GS, b13, k13, g13, (ok_same F15 b15 g15 T 7), b15, k15, g15, GD, b10, k10, g10, GW, b17, k17, g17, GY, b14, k14, g14, GA, b7, k7, g7, z_len, z_list, z_range⟩
end Rep
open PySem PySem.W PyProof.Rows
set_option maxRecDepth 100000 in
set_option maxHeartbeats 0 in
theorem PySem.Challenge.cw_reprise_k25_steps_judged_holds : PySem.Challenge.rw_reprise_k25_steps_judged.Holds := by
  w_on; o_law; k_head; (case hw => w_witness2)
  k_fill
  refine Rep.walk_top (l := PySem.Challenge.rw_reprise_k25_steps_judged) (n := 63) (k := 9) (x := "_law_script") (CX := fun _ => L2.CX0) rfl (by decide) rfl ⟨rfl, by decide, by decide⟩ (fun w h Y => PySem.W.kIn_of Y) ?F (fun _ _ _ _ _ h => h)
  case F =>
    intro w mg mb mean fa h KX TT hmg
    refine' Rep.all_mk KX TT hmg ?a1 ?l1 ?c1 ?k1 ?a2 ?l2 ?c2 ?k2 ?a3 ?l3 ?c3 ?k3 ?a4 ?l4 ?c4 ?k4 ?a5 ?l5 ?c5 ?k5 ?a6 ?l6 ?c6 ?k6 ?a7 ?l7 ?c7 ?k7 ?a8 ?l8 ?c8 ?k8 ?a9 ?l9 ?c9 ?k9 ?a10 ?l10 ?c10 ?k10 ?a11 ?l11 ?c11 ?k11 ?a12 ?l12 ?c12 ?k12 ?a13 ?l13 ?c13 ?k13 ?a14 ?l14 ?c14 ?k14 ?a15 ?l15 ?c15 ?k15 ?a16 ?l16 ?c16 ?k16 ?a17 ?l17 ?c17 ?k17 ?a18 ?l18 ?c18 ?k18 ?aI_TOO_LONG ?y_len ?y_range ?y_list ?y_isinstance ?y_bool ?y_int ?y_tuple ?y_str ?y_all ?y_zip ?y_min ?y_max ?y_enumerate ?r_TOO_LONG
    (case a1 => k_is)
    (case l1 => k_is)
    (case c1 => k_is)
    (case k1 => k_is)
    (case a2 => k_is)
    (case l2 => k_is)
    (case c2 => k_is)
    (case k2 => k_is)
    (case a3 => k_is)
    (case l3 => k_is)
    (case c3 => k_is)
    (case k3 => k_is)
    (case a4 => k_is)
    (case l4 => k_is)
    (case c4 => k_is)
    (case k4 => k_is)
    (case a5 => k_is)
    (case l5 => k_is)
    (case c5 => k_is)
    (case k5 => k_is)
    (case a6 => k_is)
    (case l6 => k_is)
    (case c6 => k_is)
    (case k6 => k_is)
    (case a7 => k_is)
    (case l7 => k_is)
    (case c7 => k_is)
    (case k7 => k_is)
    (case a8 => k_is)
    (case l8 => k_is)
    (case c8 => k_is)
    (case k8 => k_is)
    (case a9 => k_is)
    (case l9 => k_is)
    (case c9 => k_is)
    (case k9 => k_is)
    (case a10 => k_is)
    (case l10 => k_is)
    (case c10 => k_is)
    (case k10 => k_is)
    (case a11 => k_is)
    (case l11 => k_is)
    (case c11 => k_is)
    (case k11 => k_is)
    (case a12 => k_is)
    (case l12 => k_is)
    (case c12 => k_is)
    (case k12 => k_is)
    (case a13 => k_is)
    (case l13 => k_is)
    (case c13 => k_is)
    (case k13 => k_is)
    (case a14 => k_is)
    (case l14 => k_is)
    (case c14 => k_is)
    (case k14 => k_is)
    (case a15 => k_is)
    (case l15 => k_is)
    (case c15 => k_is)
    (case k15 => k_is)
    (case a16 => k_is)
    (case l16 => k_is)
    (case c16 => k_is)
    (case k16 => k_is)
    (case a17 => k_is)
    (case l17 => k_is)
    (case c17 => k_is)
    (case k17 => k_is)
    (case a18 => k_is)
    (case l18 => k_is)
    (case c18 => k_is)
    (case k18 => k_is)
    (case aI_TOO_LONG => k_is)
    (case y_len => k_is)
    (case y_range => k_is)
    (case y_list => k_is)
    (case y_isinstance => k_is)
    (case y_bool => k_is)
    (case y_int => k_is)
    (case y_tuple => k_is)
    (case y_str => k_is)
    (case y_all => k_is)
    (case y_zip => k_is)
    (case y_min => k_is)
    (case y_max => k_is)
    (case y_enumerate => k_is)
    (case r_TOO_LONG => exact ⟨_, rfl⟩)
