import PyProof.Rows.All
import Wide.All
import OpenK.AllK
import Wide.FinOn
import HandS.ForMost
import HandS.Wide
import HandS.SortRule
import HandS.SortInts
import HandS.IsInst
import HandS.Zip
import HandS.TryOnly
import HandS.More
import HandS.Walk
import HandS.Codes
import HandS.Conv
import HandS.Style
import HandS.Flow
import HandS.SortKw
import HandS.Lambda
import HandS.EndTab
import KE.DataMinKey
import KE.DataFind
import KE.SortData
import HandS.HotCalls
import HandS.ExcIs
import HandS.CallSlots
import HandS.WordsExc
import PySem.Challenge.RW_reprise_k24_whole_ways
set_option Elab.async false
set_option linter.all false
set_option maxRecDepth 100000
set_option maxHeartbeats 4000000
namespace Rep
abbrev Pr := Int × Int
def cov (ps : List Pr) (x : Int) : Prop := ∃ p ∈ ps, p.1 ≤ x ∧ x < p.2
structure Tdy (ps : List Pr) : Prop where
  ok : ∀ p ∈ ps, p.1 < p.2
  gap : ps.Pairwise (fun p q => p.2 < q.1)
theorem cov_cons {p : Pr} {ps : List Pr} {x : Int} : cov (p :: ps) x ↔ (p.1 ≤ x ∧ x < p.2) ∨ cov ps x := by
  unfold cov
  constructor
  · rintro ⟨q, hq, h⟩
    rcases List.mem_cons.mp hq with e | hq
    · subst e; exact .inl h
    · exact .inr ⟨q, hq, h⟩
  · rintro (h | ⟨q, hq, h⟩)
    · exact ⟨p, List.mem_cons_self, h⟩
    · exact ⟨q, List.mem_cons_of_mem _ hq, h⟩
theorem cov_nil {x : Int} : ¬ cov [] x := by
  rintro ⟨q, hq, _⟩; cases hq
theorem Tdy.tail {p : Pr} {ps : List Pr} (h : Tdy (p :: ps)) : Tdy ps :=
  ⟨fun q hq => h.ok q (List.mem_cons_of_mem _ hq), (List.pairwise_cons.mp h.gap).2⟩
theorem Tdy.behind {p : Pr} {ps : List Pr} (h : Tdy (p :: ps)) {x : Int} (c : cov ps x) : p.2 < x := by
  obtain ⟨q, hq, h1, h2⟩ := c
  have := (List.pairwise_cons.mp h.gap).1 q hq
  omega
theorem Tdy.uniq : ∀ {a b : List Pr}, Tdy a → Tdy b → (∀ x, cov a x ↔ cov b x) → a = b
  | [], [], _, _, _ => rfl
  | [], q :: b, _, hb, h => by
    have h1 := hb.ok q List.mem_cons_self
    exact absurd ((h q.1).mpr (cov_cons.mpr (.inl ⟨Int.le_refl _, h1⟩))) cov_nil
  | p :: a, [], ha, _, h => by
    have h1 := ha.ok p List.mem_cons_self
    exact absurd ((h p.1).mp (cov_cons.mpr (.inl ⟨Int.le_refl _, h1⟩))) cov_nil
  | p :: a, q :: b, ha, hb, h => by
    have hp := ha.ok p List.mem_cons_self
    have hq := hb.ok q List.mem_cons_self
    have e1 : p.1 = q.1 := by
      have x1 := (h p.1).mp (cov_cons.mpr (.inl ⟨Int.le_refl _, hp⟩))
      have x2 := (h q.1).mpr (cov_cons.mpr (.inl ⟨Int.le_refl _, hq⟩))
      rcases cov_cons.mp x1 with x1 | x1 <;> rcases cov_cons.mp x2 with x2 | x2
      · omega
      · have := ha.behind x2; omega
      · have := hb.behind x1; omega
      · have := ha.behind x2; have := hb.behind x1; omega
    have e2 : p.2 = q.2 := by
      rcases Int.lt_trichotomy p.2 q.2 with l | l | l
      · have x1 := (h p.2).mpr (cov_cons.mpr (.inl ⟨by omega, l⟩))
        rcases cov_cons.mp x1 with x1 | x1
        · omega
        · have := ha.behind x1; omega
      · exact l
      · have x1 := (h q.2).mp (cov_cons.mpr (.inl ⟨by omega, l⟩))
        rcases cov_cons.mp x1 with x1 | x1
        · omega
        · have := hb.behind x1; omega
    have e : p = q := Prod.ext e1 e2
    subst e
    have et : a = b := by
      refine Tdy.uniq ha.tail hb.tail fun x => ⟨fun c => ?_, fun c => ?_⟩
      · have l := ha.behind c
        rcases cov_cons.mp ((h x).mp (cov_cons.mpr (.inr c))) with z | z
        · omega
        · exact z
      · have l := hb.behind c
        rcases cov_cons.mp ((h x).mpr (cov_cons.mpr (.inr c))) with z | z
        · omega
        · exact z
    rw [et]
/-- one turn of tidy, what is made so far held the wrong way round -/
def tStep (acc : List Pr) (p : Pr) : List Pr :=
  if p.2 ≤ p.1 then acc else match acc with
    | [] => [p]
    | q :: r => if q.2 < p.1 then p :: q :: r else if q.2 < p.2 then (q.1, p.2) :: r else q :: r
structure RT (acc : List Pr) : Prop where
  ok : ∀ p ∈ acc, p.1 < p.2
  gap : acc.Pairwise (fun p q => q.2 < p.1)
theorem RT.tdy {acc : List Pr} (h : RT acc) : Tdy acc.reverse :=
  ⟨fun p hp => h.ok p (List.mem_reverse.mp hp), List.pairwise_reverse.mpr h.gap⟩
theorem cov_rev {acc : List Pr} {x : Int} : cov acc.reverse x ↔ cov acc x := by
  unfold cov
  constructor
  · rintro ⟨q, hq, h⟩; exact ⟨q, List.mem_reverse.mp hq, h⟩
  · rintro ⟨q, hq, h⟩; exact ⟨q, List.mem_reverse.mpr hq, h⟩
theorem RT.step {acc : List Pr} {p : Pr} (h : RT acc) (hh : ∀ q ∈ acc, q.1 ≤ p.1) :
    RT (tStep acc p) ∧ (∀ x, cov (tStep acc p) x ↔ cov acc x ∨ (p.1 ≤ x ∧ x < p.2)) ∧ ∀ q ∈ tStep acc p, q.1 ≤ p.1 := by
  unfold tStep
  by_cases e : p.2 ≤ p.1
  · rw [if_pos e]
    refine ⟨h, fun x => ⟨.inl, fun z => ?_⟩, hh⟩
    rcases z with z | z
    · exact z
    · omega
  · rw [if_neg e]
    cases acc with
    | nil =>
      refine ⟨⟨fun q hq => ?_, List.pairwise_singleton _ _⟩, fun x => ?_, fun q hq => ?_⟩
      · rw [List.mem_singleton.mp hq]; omega
      · show cov [p] x ↔ _
        rw [cov_cons]
        exact ⟨fun z => z.elim .inr .inl, fun z => z.elim .inr .inl⟩
      · rw [List.mem_singleton.mp hq]; exact Int.le_refl _
    | cons q r =>
      have hq1 := h.ok q List.mem_cons_self
      have hr : RT r := ⟨fun z hz => h.ok z (List.mem_cons_of_mem _ hz), (List.pairwise_cons.mp h.gap).2⟩
      have hg := (List.pairwise_cons.mp h.gap).1
      have hl := hh q List.mem_cons_self
      show RT (if q.2 < p.1 then p :: q :: r else if q.2 < p.2 then (q.1, p.2) :: r else q :: r) ∧ (∀ x, cov (if q.2 < p.1 then p :: q :: r else if q.2 < p.2 then (q.1, p.2) :: r else q :: r) x ↔ _) ∧ ∀ z ∈ (if q.2 < p.1 then p :: q :: r else if q.2 < p.2 then (q.1, p.2) :: r else q :: r), _
      by_cases c1 : q.2 < p.1
      · rw [if_pos c1]
        refine ⟨⟨fun z hz => ?_, List.pairwise_cons.mpr ⟨fun z hz => ?_, h.gap⟩⟩, fun x => ?_, fun z hz => ?_⟩
        · rcases List.mem_cons.mp hz with rfl | hz
          · omega
          · exact h.ok z hz
        · rcases List.mem_cons.mp hz with rfl | hz
          · exact c1
          · have := hg z hz; omega
        · rw [cov_cons]; exact Or.comm
        · rcases List.mem_cons.mp hz with rfl | hz
          · exact Int.le_refl _
          · exact hh z hz
      · rw [if_neg c1]
        by_cases c2 : q.2 < p.2
        · rw [if_pos c2]
          refine ⟨⟨fun z hz => ?_, List.pairwise_cons.mpr ⟨fun z hz => hg z hz, hr.gap⟩⟩, fun x => ?_, fun z hz => ?_⟩
          · rcases List.mem_cons.mp hz with rfl | hz
            · show q.1 < p.2; omega
            · exact hr.ok z hz
          · rw [cov_cons, cov_cons]
            show (q.1 ≤ x ∧ x < p.2) ∨ cov r x ↔ _
            constructor
            · rintro (z | z)
              · by_cases x < q.2
                · exact .inl (.inl ⟨z.1, by assumption⟩)
                · exact .inr ⟨by omega, z.2⟩
              · exact .inl (.inr z)
            · rintro ((z | z) | z)
              · exact .inl ⟨z.1, by omega⟩
              · exact .inr z
              · exact .inl ⟨by omega, z.2⟩
          · rcases List.mem_cons.mp hz with rfl | hz
            · exact hl
            · exact hh z (List.mem_cons_of_mem _ hz)
        · rw [if_neg c2]
          refine ⟨h, fun x => ⟨.inl, fun z => ?_⟩, hh⟩
          rcases z with z | z
          · exact z
          · exact cov_cons.mpr (.inl ⟨by omega, by omega⟩)
theorem fold_tidy : ∀ (ys acc : List Pr), RT acc → ys.Pairwise (fun p q => p.1 ≤ q.1) → (∀ q ∈ acc, ∀ p ∈ ys, q.1 ≤ p.1) →
    RT (ys.foldl tStep acc) ∧ ∀ x, cov (ys.foldl tStep acc) x ↔ cov acc x ∨ cov ys x
  | [], acc, h, _, _ => ⟨h, fun x => ⟨.inl, fun z => z.elim id fun z => absurd z cov_nil⟩⟩
  | p :: ys, acc, h, hs, hh => by
    obtain ⟨h1, h2, h3⟩ := h.step (p := p) fun q hq => hh q hq p List.mem_cons_self
    have hs' := List.pairwise_cons.mp hs
    obtain ⟨k1, k2⟩ := fold_tidy ys (tStep acc p) h1 hs'.2 fun q hq z hz => Int.le_trans (h3 q hq) (hs'.1 z hz)
    refine ⟨k1, fun x => ?_⟩
    show cov (ys.foldl tStep (tStep acc p)) x ↔ _
    rw [k2, h2, cov_cons, or_assoc]
/-- what tidy makes of rows in order -/
def tidyF (ys : List Pr) : List Pr := (ys.foldl tStep []).reverse
theorem tidyF_tdy {ys : List Pr} (hs : ys.Pairwise (fun p q => p.1 ≤ q.1)) : Tdy (tidyF ys) ∧ ∀ x, cov (tidyF ys) x ↔ cov ys x := by
  obtain ⟨h1, h2⟩ := fold_tidy ys [] ⟨fun p hp => (by cases hp), List.Pairwise.nil⟩ hs (fun q hq => by cases hq)
  refine ⟨h1.tdy, fun x => ?_⟩
  unfold tidyF
  rw [cov_rev, h2]
  exact ⟨fun z => z.elim (fun z => absurd z cov_nil) id, .inr⟩
/-- how many places -/
def wid (ps : List Pr) : Int := (ps.map fun p => p.2 - p.1).sum
theorem wid_cons {p : Pr} {r : List Pr} : wid (p :: r) = p.2 - p.1 + wid r := by
  unfold wid; rw [List.map_cons, List.sum_cons]
theorem wid_append {a b : List Pr} : wid (a ++ b) = wid a + wid b := by
  unfold wid; rw [List.map_append, List.sum_append]
theorem wid_rev : ∀ (a : List Pr), wid a.reverse = wid a
  | [] => rfl
  | p :: r => by
    rw [List.reverse_cons, wid_append, wid_rev r, wid_cons, wid_cons]
    show wid r + (p.2 - p.1 + 0) = _
    omega
/-- one turn of the law's own rows -/
def rStep (acc : List Pr) (x : Int) : List Pr := match acc with
  | [] => [(x, x + 1)]
  | q :: r => if q.2 = x then (q.1, x + 1) :: r else (x, x + 1) :: q :: r
theorem rStep_wid (acc : List Pr) (x : Int) : wid (rStep acc x) = wid acc + 1 := by
  cases acc with
  | nil => unfold rStep; rw [wid_cons]; show x + 1 - x + 0 = 0 + 1; omega
  | cons q r =>
    show wid (if q.2 = x then (q.1, x + 1) :: r else (x, x + 1) :: q :: r) = _
    by_cases c : q.2 = x
    · rw [if_pos c, wid_cons, wid_cons]; show x + 1 - q.1 + wid r = _; omega
    · rw [if_neg c, wid_cons]; show x + 1 - x + wid (q :: r) = _; omega
theorem rStep_eq {acc : List Pr} {x : Int} (h : ∀ q ∈ acc, q.2 ≤ x) : rStep acc x = tStep acc (x, x + 1) := by
  unfold tStep
  rw [if_neg (show ¬ (x + 1 ≤ x) by omega)]
  cases acc with
  | nil => rfl
  | cons q r =>
    have := h q List.mem_cons_self
    show (if q.2 = x then (q.1, x + 1) :: r else (x, x + 1) :: q :: r) = (if q.2 < x then (x, x + 1) :: q :: r else if q.2 < x + 1 then (q.1, x + 1) :: r else q :: r)
    by_cases c : q.2 = x
    · rw [if_pos c, if_neg (by omega), if_pos (by omega)]
    · rw [if_neg c, if_pos (by omega)]
theorem rStep_le {acc : List Pr} {x : Int} (h : ∀ q ∈ acc, q.2 ≤ x) : ∀ q ∈ rStep acc x, q.2 ≤ x + 1 := by
  intro q hq
  cases acc with
  | nil =>
    have e : q = (x, x + 1) := List.mem_singleton.mp hq
    rw [e]; exact Int.le_refl _
  | cons p r =>
    have hq : q ∈ (if p.2 = x then (p.1, x + 1) :: r else (x, x + 1) :: p :: r) := hq
    by_cases c : p.2 = x
    · rw [if_pos c] at hq
      rcases List.mem_cons.mp hq with e | hq
      · rw [e]; exact Int.le_refl _
      · have := h q (List.mem_cons_of_mem _ hq); omega
    · rw [if_neg c] at hq
      rcases List.mem_cons.mp hq with e | hq
      · rw [e]; exact Int.le_refl _
      · have := h q hq; omega
def ones (xs : List Int) : List Pr := xs.map fun x => (x, x + 1)
theorem fold_rows : ∀ (xs : List Int) (acc : List Pr), xs.Pairwise (· < ·) → (∀ q ∈ acc, ∀ x ∈ xs, q.2 ≤ x) →
    xs.foldl rStep acc = (ones xs).foldl tStep acc ∧ wid (xs.foldl rStep acc) = wid acc + xs.length
  | [], acc, _, _ => ⟨rfl, by show wid acc = wid acc + 0; omega⟩
  | x :: xs, acc, hs, hh => by
    have hs' := List.pairwise_cons.mp hs
    have h1 : ∀ q ∈ acc, q.2 ≤ x := fun q hq => hh q hq x List.mem_cons_self
    obtain ⟨k1, k2⟩ := fold_rows xs (rStep acc x) hs'.2 fun q hq z hz => by
      have a := rStep_le h1 q hq
      have b := hs'.1 z hz
      omega
    constructor
    · show xs.foldl rStep (rStep acc x) = (ones xs).foldl tStep (tStep acc (x, x + 1))
      rw [k1, rStep_eq h1]
    · show wid (xs.foldl rStep (rStep acc x)) = _
      rw [k2, rStep_wid, List.length_cons]
      omega
theorem cov_ones {xs : List Int} {x : Int} : cov (ones xs) x ↔ x ∈ xs := by
  unfold cov ones
  constructor
  · rintro ⟨q, hq, h⟩
    obtain ⟨y, hy, e⟩ := List.mem_map.mp hq
    subst e
    have h1 : y ≤ x := h.1
    have h2 : x < y + 1 := h.2
    have e : x = y := by omega
    rw [e]; exact hy
  · intro h
    exact ⟨(x, x + 1), List.mem_map.mpr ⟨x, h, rfl⟩, Int.le_refl _, by show x < x + 1; omega⟩
/-- the law's own rows of places in order -/
def rowsF (xs : List Int) : List Pr := (xs.foldl rStep []).reverse
theorem rowsF_tdy {xs : List Int} (hs : xs.Pairwise (· < ·)) : Tdy (rowsF xs) ∧ (∀ x, cov (rowsF xs) x ↔ x ∈ xs) ∧ wid (rowsF xs) = xs.length := by
  obtain ⟨k1, k2⟩ := fold_rows xs [] hs fun q hq => by cases hq
  have e : rowsF xs = tidyF (ones xs) := by unfold rowsF tidyF; rw [k1]
  have hp : (ones xs).Pairwise (fun p q => p.1 ≤ q.1) := by
    unfold ones
    rw [List.pairwise_map]
    exact hs.imp fun h => Int.le_of_lt h
  obtain ⟨t1, t2⟩ := tidyF_tdy hp
  refine ⟨e ▸ t1, fun x => ?_, ?_⟩
  · rw [e, t2, cov_ones]
  · unfold rowsF; rw [wid_rev, k2]; show (0 : Int) + _ = _; omega
/-- times by, and moved -/
def sc (by_ high : Int) (p : Pr) : Pr := (p.1 * by_ + high, p.2 * by_ + high)
theorem cov_sc {by_ high : Int} (hb : 0 < by_) {ps : List Pr} {x : Int} : cov (ps.map (sc by_ high)) x ↔ cov ps ((x - high) / by_) := by
  have key : ∀ a : Int, a * by_ + high ≤ x ↔ a ≤ (x - high) / by_ := fun a => by
    rw [Int.le_ediv_iff_mul_le hb]; omega
  unfold cov
  constructor
  · rintro ⟨q, hq, h1, h2⟩
    obtain ⟨p, hp, rfl⟩ := List.mem_map.mp hq
    have k1 := key p.1
    have k2 := key p.2
    have h1 : p.1 * by_ + high ≤ x := h1
    have h2 : x < p.2 * by_ + high := h2
    refine ⟨p, hp, k1.mp h1, ?_⟩
    have : ¬ p.2 ≤ (x - high) / by_ := fun z => by have := k2.mpr z; omega
    omega
  · rintro ⟨p, hp, h1, h2⟩
    have k1 := key p.1
    have k2 := key p.2
    refine ⟨sc by_ high p, List.mem_map.mpr ⟨p, hp, rfl⟩, k1.mpr h1, ?_⟩
    show x < p.2 * by_ + high
    have : ¬ p.2 * by_ + high ≤ x := fun z => by have := k2.mp z; omega
    omega
theorem sc_lt {by_ a b : Int} (high : Int) (hb : 0 < by_) (h : a < b) : a * by_ + high < b * by_ + high := by
  have := Int.mul_lt_mul_of_pos_right h hb
  omega
theorem Tdy.scale {by_ high : Int} (hb : 0 < by_) {ps : List Pr} (h : Tdy ps) : Tdy (ps.map (sc by_ high)) := by
  refine ⟨fun q hq => ?_, ?_⟩
  · obtain ⟨p, hp, rfl⟩ := List.mem_map.mp hq
    exact sc_lt high hb (h.ok p hp)
  · rw [List.pairwise_map]
    exact h.gap.imp fun z => sc_lt high hb z
theorem wid_sc {by_ high : Int} : ∀ ps : List Pr, wid (ps.map (sc by_ high)) = wid ps * by_
  | [] => by show (0 : Int) = 0 * by_; rw [Int.zero_mul]
  | p :: r => by
    rw [List.map_cons, wid_cons, wid_cons, wid_sc r, Int.add_mul, Int.sub_mul]
    show p.2 * by_ + high - (p.1 * by_ + high) + _ = _
    omega
end Rep
namespace Rep
open PySem L2
/-! pairs on the heap -/
def kOf (H : Hp) (v : V) : Pr := match v with
  | .ref t => (match H t with
    | some (.tup [.int a, .int b]) => (a, b)
    | _ => (0, 0))
  | _ => (0, 0)
def IsPr (H : Hp) (v : V) : Prop := ∃ t, v = .ref t ∧ H t = some (.tup [.int (kOf H v).1, .int (kOf H v).2])
theorem kOf_at {H : Hp} {t : Addr} {a b : Int} (h : H t = some (.tup [.int a, .int b])) : kOf H (.ref t) = (a, b) := by
  show (match H t with
    | some (.tup [.int a, .int b]) => (a, b)
    | _ => (0, 0)) = (a, b)
  rw [h]
theorem IsPr.of {H : Hp} {t : Addr} {a b : Int} (h : H t = some (.tup [.int a, .int b])) : IsPr H (.ref t) :=
  ⟨t, rfl, by rw [kOf_at h]; exact h⟩
/-- tuples stay -/
def TS (H H' : Hp) : Prop := ∀ t xs, H t = some (.tup xs) → H' t = some (.tup xs)
theorem TS.of {H H' : Hp} (h : Same H H') : TS H H' := fun t xs e => h t _ e
theorem TS.refl (H : Hp) : TS H H := fun _ _ e => e
theorem TS.trans {H H1 H2 : Hp} (a : TS H H1) (b : TS H1 H2) : TS H H2 := fun t xs e => b t xs (a t xs e)
theorem TS.lst {H : Hp} {o : Addr} {zs : List V} {u : HO} (h : H o = some (.lst zs)) : TS H (upd H o u) := fun t xs e => by
  rw [upd_ne (ne_of e h (by intro z; cases z))]
  exact e
theorem TS.dict {H : Hp} {o : Addr} {zs : List (Key × V)} {u : HO} (h : H o = some (.dK zs)) : TS H (upd H o u) := fun t xs e => by
  rw [upd_ne (ne_of e h (by intro z; cases z))]
  exact e
theorem same_upd {H : Hp} {p : Addr} {o : HO} (h : H p = none) : Same H (upd H p o) := fun b x e => by
  rw [upd_ne (ne_of_none e h)]
  exact e
theorem TS.new {H : Hp} {p : Addr} {o : HO} (h : H p = none) : TS H (upd H p o) := TS.of (same_upd h)
theorem same_over {H H' : Hp} {o : Addr} {u : HO} (h : Same H H') (n : H o = none) : Same H (upd H' o u) := fun b x e => by
  rw [upd_ne (ne_of_none e n)]
  exact h b x e
theorem kOf_ts {H H' : Hp} (s : TS H H') {v : V} (h : IsPr H v) : kOf H' v = kOf H v := by
  obtain ⟨t, e, h⟩ := h
  have h2 := s _ _ h
  subst e
  rw [kOf_at h2]
theorem IsPr.ts {H H' : Hp} (s : TS H H') {v : V} (h : IsPr H v) : IsPr H' v := by
  have e := kOf_ts s h
  obtain ⟨t, rfl, h⟩ := h
  exact ⟨t, rfl, by rw [e]; exact s _ _ h⟩
structure PL (H : Hp) (vs : List V) (ps : List Pr) : Prop where
  all : ∀ v ∈ vs, IsPr H v
  eq : vs.map (kOf H) = ps
theorem PL.nil {H : Hp} : PL H [] [] := ⟨fun v h => (by cases h), rfl⟩
theorem PL.len {H : Hp} {vs : List V} {ps : List Pr} (h : PL H vs ps) : vs.length = ps.length := by rw [← h.eq, List.length_map]
theorem PL.ts {H H' : Hp} (s : TS H H') {vs : List V} {ps : List Pr} (h : PL H vs ps) : PL H' vs ps := by
  refine ⟨fun v hv => (h.all v hv).ts s, ?_⟩
  rw [← h.eq]
  exact List.map_congr_left fun v hv => kOf_ts s (h.all v hv)
theorem PL.snoc {H : Hp} {vs : List V} {ps : List Pr} {t : Addr} {a b : Int} (h : PL H vs ps) (ht : H t = some (.tup [.int a, .int b])) : PL H (vs ++ [.ref t]) (ps ++ [(a, b)]) := by
  refine ⟨fun v hv => ?_, ?_⟩
  · rcases List.mem_append.mp hv with hv | hv
    · exact h.all v hv
    · rw [List.mem_singleton.mp hv]; exact .of ht
  · rw [List.map_append, h.eq]
    show ps ++ [kOf H (.ref t)] = _
    rw [kOf_at ht]
theorem PL.get {H : Hp} {vs : List V} {ps : List Pr} (h : PL H vs ps) {i : Nat} {v : V} (e : vs[i]? = some v) : ∃ t p, v = .ref t ∧ H t = some (.tup [.int p.1, .int p.2]) ∧ ps[i]? = some p := by
  obtain ⟨t, et, ht⟩ := h.all v (List.mem_of_getElem? e)
  refine ⟨t, kOf H v, et, ht, ?_⟩
  rw [← h.eq, List.getElem?_map, e]
  rfl
theorem PL.cut {H : Hp} {vs : List V} {ps : List Pr} {p : Pr} (h : PL H vs (ps ++ [p])) : ∃ ws t, vs = ws ++ [.ref t] ∧ PL H ws ps ∧ H t = some (.tup [.int p.1, .int p.2]) := by
  have hl := h.len
  rw [List.length_append, List.length_singleton] at hl
  have hn : vs ≠ [] := fun e => by rw [e] at hl; simp at hl
  refine ⟨vs.dropLast, ?_⟩
  have e := (List.dropLast_concat_getLast hn).symm
  obtain ⟨t, et, ht⟩ := h.all _ (List.getLast_mem hn)
  have q := h.eq
  rw [e, List.map_append] at q
  have q2 : vs.dropLast.map (kOf H) = ps ∧ [kOf H (vs.getLast hn)] = [p] := List.append_inj' q rfl
  refine ⟨t, by rw [← et]; exact e, ⟨fun v hv => h.all v (List.dropLast_subset _ hv), q2.1⟩, ?_⟩
  have q3 : kOf H (vs.getLast hn) = p := by simpa using q2.2
  rw [← q3]; exact ht
theorem PL.perm {H : Hp} {vs ys : List V} {ps : List Pr} (h : PL H vs ps) (p : ys.Perm vs) : PL H ys (ys.map (kOf H)) ∧ (ys.map (kOf H)).Perm ps :=
  ⟨⟨fun v hv => h.all v (p.mem_iff.mp hv), rfl⟩, by rw [← h.eq]; exact p.map _⟩
theorem cov_perm {a b : List Pr} (h : a.Perm b) {x : Int} : cov a x ↔ cov b x := by
  unfold cov
  constructor
  · rintro ⟨q, hq, z⟩; exact ⟨q, h.mem_iff.mp hq, z⟩
  · rintro ⟨q, hq, z⟩; exact ⟨q, h.mem_iff.mpr hq, z⟩
theorem tYes_ok {σ : L2.St} {H : Hp} {A : Bool → Hp → Prop} (h : A true H) : tYes σ H A := h
/-! data at a depth -/
inductive DT (H : Hp) : Nat → V → PyData → Prop
  | non {n : Nat} : DT H n .non .none
  | bl {n : Nat} (b : Bool) : DT H n (.bl b) (.bool b)
  | int {n : Nat} (i : Int) : DT H n (.int i) (.int i)
  | str {n : Nat} (x : Str) : DT H n (.str x) (.str x)
  | lst {n : Nat} {a : Addr} {xs : List V} {ds : List PyData} : H a = some (.lst xs) → xs.length = ds.length → xs.length ≤ 14000000 → (∀ (i : Nat) (x : V) (d : PyData), xs[i]? = some x → ds[i]? = some d → DT H n x d) → DT H (n + 1) (.ref a) (.list ds)
  | tup {n : Nat} {a : Addr} {xs : List V} {ds : List PyData} : H a = some (.tup xs) → xs.length = ds.length → xs.length ≤ 14000000 → (∀ (i : Nat) (x : V) (d : PyData), xs[i]? = some x → ds[i]? = some d → DT H n x d) → DT H (n + 1) (.ref a) (.tuple ds)
theorem DT.same {H H' : Hp} (s : Same H H') {n : Nat} {v : V} {d : PyData} (h : DT H n v d) : DT H' n v d := by
  induction h with
  | non => exact .non
  | bl b => exact .bl b
  | int i => exact .int i
  | str x => exact .str x
  | lst e l b _ ih => exact .lst (s _ _ e) l b ih
  | tup e l b _ ih => exact .tup (s _ _ e) l b ih
def pD (p : Pr) : PyData := .tuple [.int p.1, .int p.2]
theorem DT.pair {H : Hp} {n : Nat} {t : Addr} {p : Pr} (h : H t = some (.tup [.int p.1, .int p.2])) : DT H (n + 1) (.ref t) (pD p) := by
  refine .tup h rfl (by show 2 ≤ 14000000; decide) fun i x d hx hd => ?_
  match i, hx, hd with
  | 0, hx, hd => cases hx; cases hd; exact .int _
  | 1, hx, hd => cases hx; cases hd; exact .int _
theorem PL.dt {H : Hp} {n : Nat} {a : Addr} {vs : List V} {ps : List Pr} (h : PL H vs ps) (ha : H a = some (.lst vs)) (hl : ps.length ≤ 14000000) : DT H (n + 2) (.ref a) (.list (ps.map pD)) := by
  refine .lst ha (by rw [h.len, List.length_map]) (by rw [h.len]; exact hl) fun i x d hx hd => ?_
  obtain ⟨t, p, rfl, ht, hp⟩ := h.get hx
  rw [List.getElem?_map, hp] at hd
  cases hd
  exact .pair ht
/-- as the layer's deep data -/
theorem PL.dp {K : PySem.W.Frag} {H : Hp} : ∀ {vs : List V} {ps : List Pr}, PL H vs ps → DpAll K H vs (ps.map pD)
  | [], ps, h => by
    have := h.eq
    subst this
    exact .nil
  | v :: vs, ps, h => by
    have e := h.eq
    subst e
    obtain ⟨t, et, ht⟩ := h.all v List.mem_cons_self
    refine .cons ?_ (PL.dp ⟨fun w hw => h.all w (List.mem_cons_of_mem _ hw), rfl⟩)
    rw [et] at ht ⊢
    exact .tup (.inl (.inl ht)) (.cons (.int _) (.cons (.int _) .nil))
theorem canAll : ∀ ps : List Pr, PyData.canLayAll0 (ps.map pD) = true
  | [] => rfl
  | _ :: r => by
    show (true && PyData.canLayAll0 (r.map pD)) = true
    rw [canAll r]; rfl
end Rep
namespace Rep
/-! likeness by steps in either direction -/
inductive Eqv (R : Int → Int → Prop) : Int → Int → Prop
  | refl (x : Int) : Eqv R x x
  | of {x y : Int} : R x y → Eqv R x y
  | symm {x y : Int} : Eqv R x y → Eqv R y x
  | trans {x y z : Int} : Eqv R x y → Eqv R y z → Eqv R x z
theorem Eqv.bind {R S : Int → Int → Prop} (h : ∀ x y, R x y → Eqv S x y) {x y : Int} (e : Eqv R x y) : Eqv S x y := by
  induction e with
  | refl x => exact .refl x
  | of r => exact h _ _ r
  | symm _ ih => exact .symm ih
  | trans _ _ a b => exact .trans a b
theorem Eqv.mono {R S : Int → Int → Prop} (h : ∀ x y, R x y → S x y) {x y : Int} (e : Eqv R x y) : Eqv S x y := e.bind fun x y r => .of (h x y r)
/-- a saying: the lesser start, the greater, how many, turned -/
structure Sy where
  lo : Int
  hi : Int
  n : Int
  t : Bool
  deriving DecidableEq
def Sy.en (s : Sy) : Int := s.hi + s.n
/-- the place that a place of the first stretch is said alike to -/
def mate (lo hi n : Int) (t : Bool) (x : Int) : Int := if t then lo + hi + n - 1 - x else x - lo + hi
def says (lo hi n : Int) (t : Bool) (x y : Int) : Prop := lo ≤ x ∧ x < lo + n ∧ y = mate lo hi n t x
def rel (s : Sy) (x y : Int) : Prop := says s.lo s.hi s.n s.t x y
def relL (K : List Sy) (x y : Int) : Prop := ∃ s ∈ K, rel s x y
/-- a saying of what is left of the song, below e -/
structure Ok (e : Int) (s : Sy) : Prop where
  lo0 : 0 ≤ s.lo
  lt : s.lo < s.hi
  n1 : 1 ≤ s.n
  le : s.hi + s.n ≤ e
  ov : s.t = true → s.lo + s.n ≤ s.hi
theorem Ok.mono {e e' : Int} {s : Sy} (h : Ok e s) (l : s.hi + s.n ≤ e') : Ok e' s := ⟨h.lo0, h.lt, h.n1, l, h.ov⟩
theorem says_t {lo hi n x y : Int} : says lo hi n true x y ↔ lo ≤ x ∧ x < lo + n ∧ y = lo + hi + n - 1 - x := Iff.rfl
theorem says_f {lo hi n x y : Int} : says lo hi n false x y ↔ lo ≤ x ∧ x < lo + n ∧ y = x - lo + hi := Iff.rfl
/-! as it is kept -/
def keptF (a b n : Int) (t : Bool) : Option Sy :=
  let lo := min a b
  let hi := max a b
  if t = true ∧ hi < lo + n then
    let r := hi + n - lo
    if r / 2 < 1 ∨ lo = lo + r - r / 2 then none else some ⟨lo, lo + r - r / 2, r / 2, t⟩
  else if n < 1 ∨ lo = hi then none else some ⟨lo, hi, n, t⟩
/-- what a kept form says, if there is one -/
def relO (o : Option Sy) (x y : Int) : Prop := ∃ s, o = some s ∧ rel s x y
theorem says_swap {a b n : Int} {t : Bool} {x y : Int} (h : says a b n t x y) : says b a n t y x := by
  cases t with
  | true => rw [says_t] at *; omega
  | false => rw [says_f] at *; omega
theorem says_minmax {a b n : Int} {t : Bool} {x y : Int} (h : says a b n t x y) : Eqv (says (min a b) (max a b) n t) x y := by
  rcases Int.le_total a b with l | l
  · rw [Int.min_eq_left l, Int.max_eq_right l]; exact .of h
  · rw [Int.min_eq_right l, Int.max_eq_left l]; exact .symm (.of (says_swap h))
theorem minmax_says {a b n : Int} {t : Bool} {x y : Int} (h : says (min a b) (max a b) n t x y) : Eqv (says a b n t) x y := by
  rcases Int.le_total a b with l | l
  · rw [Int.min_eq_left l, Int.max_eq_right l] at h; exact .of h
  · rw [Int.min_eq_right l, Int.max_eq_left l] at h; exact .symm (.of (says_swap h))
theorem kept_ok {a b n e : Int} {t : Bool} {s : Sy} (ha : 0 ≤ a) (hb : 0 ≤ b) (hae : a + n ≤ e) (hbe : b + n ≤ e) (h : keptF a b n t = some s) : Ok e s ∧ s.hi + s.n = max a b + n := by
  unfold keptF at h
  have h0 : 0 ≤ min a b := by omega
  have h1 : max a b + n ≤ e := by omega
  have h2 : min a b ≤ max a b := by omega
  generalize min a b = lo at *
  generalize max a b = hi at *
  by_cases c : t = true ∧ hi < lo + n
  · rw [if_pos c] at h
    by_cases d : (hi + n - lo) / 2 < 1 ∨ lo = lo + (hi + n - lo) - (hi + n - lo) / 2
    · rw [if_pos d] at h; cases h
    · rw [if_neg d] at h
      cases h
      refine ⟨⟨h0, ?_, ?_, ?_, fun _ => ?_⟩, ?_⟩
      · show lo < lo + (hi + n - lo) - (hi + n - lo) / 2; omega
      · show 1 ≤ (hi + n - lo) / 2; omega
      · show lo + (hi + n - lo) - (hi + n - lo) / 2 + (hi + n - lo) / 2 ≤ e; omega
      · show lo + (hi + n - lo) / 2 ≤ lo + (hi + n - lo) - (hi + n - lo) / 2; omega
      · show lo + (hi + n - lo) - (hi + n - lo) / 2 + (hi + n - lo) / 2 = _; omega
  · rw [if_neg c] at h
    by_cases d : n < 1 ∨ lo = hi
    · rw [if_pos d] at h; cases h
    · rw [if_neg d] at h
      cases h
      refine ⟨⟨h0, by show lo < hi; omega, by show 1 ≤ n; omega, h1, fun ht => ?_⟩, rfl⟩
      show lo + n ≤ hi
      have ht : t = true := ht
      have : ¬ hi < lo + n := fun z => c ⟨ht, z⟩
      omega
/-- nothing is lost and nothing is added -/
theorem kept_eq {a b n : Int} {t : Bool} : (∀ x y, says a b n t x y → Eqv (relO (keptF a b n t)) x y) ∧ ∀ x y, relO (keptF a b n t) x y → Eqv (says a b n t) x y := by
  have key : (∀ x y, says (min a b) (max a b) n t x y → Eqv (relO (keptF a b n t)) x y) ∧ ∀ x y, relO (keptF a b n t) x y → Eqv (says (min a b) (max a b) n t) x y := by
    unfold keptF
    have h2 : min a b ≤ max a b := by omega
    generalize min a b = lo at *
    generalize max a b = hi at *
    by_cases c : t = true ∧ hi < lo + n
    · simp only [if_pos c]
      obtain ⟨rfl, c⟩ := c
      by_cases d : (hi + n - lo) / 2 < 1 ∨ lo = lo + (hi + n - lo) - (hi + n - lo) / 2
      · rw [if_pos d]
        refine ⟨fun x y h => ?_, fun x y h => ?_⟩
        · rw [says_t] at h
          have e : x = y := by omega
          rw [e]; exact .refl y
        · obtain ⟨s, hs, _⟩ := h; cases hs
      · rw [if_neg d]
        refine ⟨fun x y h => ?_, fun x y h => ?_⟩
        · rw [says_t] at h
          by_cases c1 : x < lo + (hi + n - lo) / 2
          · refine .of ⟨_, rfl, ?_⟩
            show says lo (lo + (hi + n - lo) - (hi + n - lo) / 2) ((hi + n - lo) / 2) true x y
            rw [says_t]; omega
          · by_cases c2 : x = y
            · rw [c2]; exact .refl y
            · refine .symm (.of ⟨_, rfl, ?_⟩)
              show says lo (lo + (hi + n - lo) - (hi + n - lo) / 2) ((hi + n - lo) / 2) true y x
              rw [says_t]; omega
        · obtain ⟨s, hs, h⟩ := h
          cases hs
          have h : says lo (lo + (hi + n - lo) - (hi + n - lo) / 2) ((hi + n - lo) / 2) true x y := h
          refine .of ?_
          rw [says_t] at *
          omega
    · simp only [if_neg c]
      by_cases d : n < 1 ∨ lo = hi
      · rw [if_pos d]
        refine ⟨fun x y h => ?_, fun x y h => ?_⟩
        · cases t with
          | true =>
            rw [says_t] at h
            have : ¬ hi < lo + n := fun z => c ⟨rfl, z⟩
            omega
          | false =>
            rw [says_f] at h
            have e : x = y := by omega
            rw [e]; exact .refl y
        · obtain ⟨s, hs, _⟩ := h; cases hs
      · rw [if_neg d]
        refine ⟨fun x y h => .of ⟨_, rfl, h⟩, fun x y h => ?_⟩
        obtain ⟨s, hs, h⟩ := h
        cases hs
        exact .of h
  exact ⟨fun x y h => (says_minmax h).bind key.1, fun x y h => (key.2 x y h).bind fun x y h => minmax_says h⟩
/-! two beats -/
/-- each two places of [a, b) that are t apart are alike -/
def Beat (E : Int → Int → Prop) (a b t : Int) : Prop := ∀ x, a ≤ x → x + t < b → E x (x + t)
theorem beat_sub {R : Int → Int → Prop} {a b t u : Int} (ht : 0 < t) (hu : t < u) (hl : t + u ≤ b - a) (h1 : Beat (Eqv R) a b t) (h2 : Beat (Eqv R) a b u) : Beat (Eqv R) a b (u - t) := by
  intro x hx hb
  by_cases c : x + u < b
  · have e1 := h2 x hx c
    have e2 := h1 (x + (u - t)) (by omega) (by omega)
    rw [show x + (u - t) + t = x + u by omega] at e2
    exact .trans e1 (.symm e2)
  · have e1 := h1 (x - t) (by omega) (by omega)
    rw [show x - t + t = x by omega] at e1
    have e2 := h2 (x - t) (by omega) (by omega)
    rw [show x - t + u = x + (u - t) by omega] at e2
    exact .trans (.symm e1) e2
theorem beat_gcd {R : Int → Int → Prop} {a b : Int} : ∀ (k : Nat) (t u : Nat), t + u ≤ k → 0 < t → 0 < u → (t : Int) + u ≤ b - a → Beat (Eqv R) a b t → Beat (Eqv R) a b u → Beat (Eqv R) a b (Nat.gcd t u : Nat)
  | 0, t, u, hk, ht, hu, _, _, _ => by omega
  | k + 1, t, u, hk, ht, hu, hl, h1, h2 => by
    rcases Nat.lt_trichotomy t u with c | c | c
    · have h3 : Beat (Eqv R) a b ((u - t : Nat) : Int) := by
        have := beat_sub (by omega) (by omega) hl h1 h2
        rw [show ((u - t : Nat) : Int) = (u : Int) - (t : Int) by omega]
        exact this
      have := beat_gcd k t (u - t) (by omega) ht (by omega) (by omega) h1 h3
      rw [Nat.gcd_sub_self_right (Nat.le_of_lt c)] at this
      exact this
    · subst c
      rw [Nat.gcd_self]
      exact h1
    · have h3 : Beat (Eqv R) a b ((t - u : Nat) : Int) := by
        have := beat_sub (R := R) (a := a) (b := b) (t := u) (u := t) (by omega) (by omega) (by omega) h2 h1
        rw [show ((t - u : Nat) : Int) = (t : Int) - (u : Int) by omega]
        exact this
      have := beat_gcd k (t - u) u (by omega) (by omega) hu (by omega) h3 h2
      rw [Nat.gcd_sub_self_left (Nat.le_of_lt c)] at this
      exact this
/-- a beat, many times -/
theorem beat_mul {R : Int → Int → Prop} {a b t : Int} (ht : 0 < t) (h : Beat (Eqv R) a b t) : ∀ (k : Nat) (x : Int), a ≤ x → x + (k : Int) * t < b → Eqv R x (x + (k : Int) * t)
  | 0, x, _, _ => by
    rw [show x + ((0 : Nat) : Int) * t = x by rw [Int.natCast_zero, Int.zero_mul]; omega]
    exact .refl x
  | k + 1, x, hx, hb => by
    have e : ((k + 1 : Nat) : Int) * t = (k : Int) * t + t := by rw [Int.natCast_add, Int.add_mul]; omega
    rw [e] at hb ⊢
    have hk : 0 ≤ (k : Int) * t := Int.mul_nonneg (by omega) (by omega)
    have h1 := beat_mul ht h k x hx (by omega)
    have h2 := h (x + (k : Int) * t) (by omega) (by omega)
    rw [show x + (k : Int) * t + t = x + ((k : Int) * t + t) by omega] at h2
    exact .trans h1 h2
/-- from a part to the whole: a beat t of the whole carries each place into the part -/
theorem into_part {R : Int → Int → Prop} {a b a' b' t : Int} (ht : 0 < t) (h : Beat (Eqv R) a b t) (h1 : a ≤ a') (h2 : b' ≤ b) (h3 : t ≤ b' - a') {x : Int} (hx : a ≤ x) (hb : x < b) :
    ∃ y, Eqv R x y ∧ a' ≤ y ∧ y < a' + t ∧ ∃ k : Int, y = x + k * t := by
  -- the place of [a', a' + t) that is a number of beats away
  have e := Int.emod_add_mul_ediv (x - a') t
  have m0 : 0 ≤ (x - a') % t := Int.emod_nonneg _ (by omega)
  have m1 : (x - a') % t < t := Int.emod_lt_of_pos _ ht
  generalize hr : (x - a') % t = r at *
  generalize hk : (x - a') / t = k at *
  have ey : a' + r = x + (-k) * t := by rw [Int.neg_mul, Int.mul_comm k t]; omega
  refine ⟨a' + r, ?_, by omega, by omega, -k, ey⟩
  rcases Int.le_total 0 k with c | c
  · obtain ⟨j, rfl⟩ : ∃ j : Nat, k = (j : Int) := ⟨k.toNat, by omega⟩
    have hx' : x = a' + r + (j : Int) * t := by rw [Int.mul_comm]; omega
    have := beat_mul ht h j (a' + r) (by omega) (by rw [← hx']; exact hb)
    rw [← hx'] at this
    exact .symm this
  · obtain ⟨j, rfl⟩ : ∃ j : Nat, k = -(j : Int) := ⟨(-k).toNat, by omega⟩
    have hx' : a' + r = x + (j : Int) * t := by rw [ey, Int.neg_neg]
    have := beat_mul ht h j x hx (by rw [← hx']; omega)
    rw [← hx'] at this
    exact this
theorem beat_spread {R : Int → Int → Prop} {a b a' b' t g : Int} (ht : 0 < t) (hg : 0 < g) (h : Beat (Eqv R) a b t) (h1 : a ≤ a') (h2 : b' ≤ b) (h3 : t + g ≤ b' - a') (hp : Beat (Eqv R) a' b' g) : Beat (Eqv R) a b g := by
  intro x hx hb
  obtain ⟨y, e1, l1, l2, k, ek⟩ := into_part ht h h1 h2 (by omega) hx (by omega)
  have e2 := hp y l1 (by omega)
  -- and x + g comes to y + g by as many beats
  have e3 : Eqv R (x + g) (y + g) := by
    have ey : y + g = x + g + k * t := by omega
    rcases Int.le_total 0 k with c | c
    · obtain ⟨j, rfl⟩ : ∃ j : Nat, k = (j : Int) := ⟨k.toNat, by omega⟩
      have := beat_mul ht h j (x + g) (by omega) (by rw [← ey]; omega)
      rw [← ey] at this
      exact this
    · obtain ⟨j, rfl⟩ : ∃ j : Nat, k = -(j : Int) := ⟨(-k).toNat, by omega⟩
      have ey' : x + g = y + g + (j : Int) * t := by rw [ey, Int.neg_mul]; omega
      have := beat_mul ht h j (y + g) (by omega) (by rw [← ey']; exact hb)
      rw [← ey'] at this
      exact .symm this
  exact .trans e1 (.trans e2 (.symm e3))
end Rep
namespace Rep
/-! two lists of sayings that say the same -/
structure EqR (R S : Int → Int → Prop) : Prop where
  to : ∀ x y, R x y → Eqv S x y
  back : ∀ x y, S x y → Eqv R x y
theorem EqR.refl (R : Int → Int → Prop) : EqR R R := ⟨fun _ _ h => .of h, fun _ _ h => .of h⟩
theorem EqR.symm {R S : Int → Int → Prop} (h : EqR R S) : EqR S R := ⟨h.back, h.to⟩
theorem EqR.trans {R S T : Int → Int → Prop} (h : EqR R S) (k : EqR S T) : EqR R T := ⟨fun x y r => (h.to x y r).bind k.to, fun x y r => (k.back x y r).bind h.back⟩
theorem EqR.iff {R S : Int → Int → Prop} (h : EqR R S) {x y : Int} : Eqv R x y ↔ Eqv S x y := ⟨fun e => e.bind h.to, fun e => e.bind h.back⟩
theorem EqR.of_iff {R S : Int → Int → Prop} (h : ∀ x y, R x y ↔ S x y) : EqR R S := ⟨fun x y r => .of ((h x y).mp r), fun x y r => .of ((h x y).mpr r)⟩
def orR (R S : Int → Int → Prop) (x y : Int) : Prop := R x y ∨ S x y
theorem EqR.orl {R S : Int → Int → Prop} (T : Int → Int → Prop) (h : EqR R S) : EqR (orR R T) (orR S T) :=
  ⟨fun x y r => r.elim (fun r => (h.to x y r).mono fun _ _ z => .inl z) fun r => .of (.inr r), fun x y r => r.elim (fun r => (h.back x y r).mono fun _ _ z => .inl z) fun r => .of (.inr r)⟩
theorem EqR.orr {R S : Int → Int → Prop} (T : Int → Int → Prop) (h : EqR R S) : EqR (orR T R) (orR T S) :=
  ⟨fun x y r => r.elim (fun r => .of (.inl r)) fun r => (h.to x y r).mono fun _ _ z => .inr z, fun x y r => r.elim (fun r => .of (.inl r)) fun r => (h.back x y r).mono fun _ _ z => .inr z⟩
/-- what is added follows -/
theorem EqR.more {R S T : Int → Int → Prop} (h : ∀ x y, S x y → Eqv (orR R T) x y) (k : ∀ x y, T x y → Eqv (orR R S) x y) : EqR (orR R S) (orR R T) :=
  ⟨fun x y r => r.elim (fun r => .of (.inl r)) fun r => h x y r, fun x y r => r.elim (fun r => .of (.inl r)) fun r => k x y r⟩
theorem relL_cons {s : Sy} {K : List Sy} {x y : Int} : relL (s :: K) x y ↔ orR (rel s) (relL K) x y := by
  unfold relL orR
  constructor
  · rintro ⟨u, hu, h⟩
    rcases List.mem_cons.mp hu with rfl | hu
    · exact .inl h
    · exact .inr ⟨u, hu, h⟩
  · rintro (h | ⟨u, hu, h⟩)
    · exact ⟨s, List.mem_cons_self, h⟩
    · exact ⟨u, List.mem_cons_of_mem _ hu, h⟩
theorem relL_append {K L : List Sy} {x y : Int} : relL (K ++ L) x y ↔ orR (relL K) (relL L) x y := by
  unfold relL orR
  constructor
  · rintro ⟨u, hu, h⟩
    rcases List.mem_append.mp hu with hu | hu
    · exact .inl ⟨u, hu, h⟩
    · exact .inr ⟨u, hu, h⟩
  · rintro (⟨u, hu, h⟩ | ⟨u, hu, h⟩)
    · exact ⟨u, List.mem_append_left _ hu, h⟩
    · exact ⟨u, List.mem_append_right _ hu, h⟩
theorem relL_mem {K L : List Sy} (h : ∀ s, s ∈ K ↔ s ∈ L) : EqR (relL K) (relL L) :=
  .of_iff fun x y => ⟨fun ⟨s, hs, r⟩ => ⟨s, (h s).mp hs, r⟩, fun ⟨s, hs, r⟩ => ⟨s, (h s).mpr hs, r⟩⟩
theorem relL_nil {x y : Int} : ¬ relL [] x y := fun ⟨_, h, _⟩ => by cases h
/-! joining -/
def lead (s : Sy) : Int := s.hi - s.lo
def gcdI (a b : Int) : Int := (Nat.gcd a.toNat b.toNat : Nat)
def shared (s o : Sy) : Int := min (s.hi + s.n) (o.hi + o.n) - max s.lo o.lo
def joinF (s o : Sy) : Sy := ⟨min s.lo o.lo, min s.lo o.lo + gcdI (lead s) (lead o), max (s.hi + s.n) (o.hi + o.n) - min s.lo o.lo - gcdI (lead s) (lead o), false⟩
theorem gcd_facts {a b : Int} (ha : 0 < a) (hb : 0 < b) : 0 < gcdI a b ∧ gcdI a b ≤ a ∧ gcdI a b ≤ b ∧ (∃ k : Nat, a = (k : Int) * gcdI a b) ∧ ∃ k : Nat, b = (k : Int) * gcdI a b := by
  unfold gcdI
  have h0 : 0 < Nat.gcd a.toNat b.toNat := Nat.gcd_pos_of_pos_left _ (by omega)
  have h1 : Nat.gcd a.toNat b.toNat ≤ a.toNat := Nat.gcd_le_left _ (by omega)
  have h2 : Nat.gcd a.toNat b.toNat ≤ b.toNat := Nat.gcd_le_right _ (by omega)
  obtain ⟨k, hk⟩ := Nat.gcd_dvd_left a.toNat b.toNat
  obtain ⟨j, hj⟩ := Nat.gcd_dvd_right a.toNat b.toNat
  refine ⟨by omega, by omega, by omega, ⟨k, ?_⟩, ⟨j, ?_⟩⟩
  · have e := congrArg (fun n : Nat => (n : Int)) hk
    simp only [Int.natCast_mul] at e
    rw [Int.mul_comm]
    omega
  · have e := congrArg (fun n : Nat => (n : Int)) hj
    simp only [Int.natCast_mul] at e
    rw [Int.mul_comm]
    omega
theorem rel_straight {s : Sy} (h : s.t = false) {x y : Int} : rel s x y ↔ s.lo ≤ x ∧ x < s.lo + s.n ∧ y = x + lead s := by
  unfold rel
  rw [h, says_f]
  unfold lead
  constructor
  · intro z; omega
  · intro z; omega
theorem rel_beat {s : Sy} (h : s.t = false) {R : Int → Int → Prop} (hr : ∀ x y, rel s x y → Eqv R x y) : Beat (Eqv R) s.lo (s.hi + s.n) (lead s) := by
  intro x hx hb
  refine hr _ _ ((rel_straight h).mpr ⟨hx, ?_, rfl⟩)
  unfold lead at hb
  omega
theorem join_ok {e : Int} {s o : Sy} (hs : Ok e s) (ho : Ok e o) (hsh : lead s + lead o ≤ shared s o) : Ok e (joinF s o) := by
  have l1 : 0 < lead s := by have := hs.lt; unfold lead; omega
  have l2 : 0 < lead o := by have := ho.lt; unfold lead; omega
  obtain ⟨g0, g1, g2, _, _⟩ := gcd_facts l1 l2
  have a1 := hs.lo0
  have a2 := ho.lo0
  have a3 := hs.le
  have a4 := ho.le
  unfold shared at hsh
  unfold joinF
  generalize gcdI (lead s) (lead o) = g at *
  refine ⟨?_, ?_, ?_, ?_, fun h => (by cases h)⟩
  · show 0 ≤ min s.lo o.lo; omega
  · show min s.lo o.lo < min s.lo o.lo + g; omega
  · show 1 ≤ max (s.hi + s.n) (o.hi + o.n) - min s.lo o.lo - g; omega
  · show min s.lo o.lo + g + (max (s.hi + s.n) (o.hi + o.n) - min s.lo o.lo - g) ≤ e; omega
theorem join_eq {e : Int} {s o : Sy} (hs : Ok e s) (ho : Ok e o) (ts : s.t = false) (to : o.t = false) (hsh : lead s + lead o ≤ shared s o) : EqR (orR (rel s) (rel o)) (rel (joinF s o)) := by
  have l1 : 0 < lead s := by have := hs.lt; unfold lead; omega
  have l2 : 0 < lead o := by have := ho.lt; unfold lead; omega
  obtain ⟨g0, g1, g2, ⟨k1, e1⟩, ⟨k2, e2⟩⟩ := gcd_facts l1 l2
  have jl : lead (joinF s o) = gcdI (lead s) (lead o) := by unfold lead joinF; show min s.lo o.lo + _ - min s.lo o.lo = _; unfold lead; omega
  have je : (joinF s o).hi + (joinF s o).n = max (s.hi + s.n) (o.hi + o.n) := by
    show min s.lo o.lo + gcdI (lead s) (lead o) + (max (s.hi + s.n) (o.hi + o.n) - min s.lo o.lo - gcdI (lead s) (lead o)) = _
    omega
  have jb := rel_beat (s := joinF s o) rfl (R := rel (joinF s o)) fun x y h => .of h
  rw [jl, je] at jb
  have jb : Beat (Eqv (rel (joinF s o))) (min s.lo o.lo) (max (s.hi + s.n) (o.hi + o.n)) (gcdI (lead s) (lead o)) := jb
  have sb := rel_beat ts (R := orR (rel s) (rel o)) fun x y h => .of (.inl h)
  have ob := rel_beat to (R := orR (rel s) (rel o)) fun x y h => .of (.inr h)
  have d1 := hs.n1
  have d2 := ho.n1
  refine ⟨fun x y h => ?_, fun x y h => ?_⟩
  · rcases h with h | h
    · have h := (rel_straight ts).mp h
      have := beat_mul g0 jb k1 x (by omega) (by rw [← e1]; unfold lead; omega)
      rw [← e1, ← h.2.2] at this
      exact this
    · have h := (rel_straight to).mp h
      have := beat_mul g0 jb k2 x (by omega) (by rw [← e2]; unfold lead; omega)
      rw [← e2, ← h.2.2] at this
      exact this
  · have h := (rel_straight (s := joinF s o) rfl).mp h
    rw [jl] at h
    have hx : min s.lo o.lo ≤ x := h.1
    have hb : x + gcdI (lead s) (lead o) < max (s.hi + s.n) (o.hi + o.n) := by
      have := h.2.1
      have h2 : x < min s.lo o.lo + (max (s.hi + s.n) (o.hi + o.n) - min s.lo o.lo - gcdI (lead s) (lead o)) := this
      omega
    -- the beat within what both have
    have ib : Beat (Eqv (orR (rel s) (rel o))) (max s.lo o.lo) (min (s.hi + s.n) (o.hi + o.n)) (gcdI (lead s) (lead o)) := by
      have b1 : Beat (Eqv (orR (rel s) (rel o))) (max s.lo o.lo) (min (s.hi + s.n) (o.hi + o.n)) ((lead s).toNat : Int) := fun z h1 h2 => by
        rw [show ((lead s).toNat : Int) = lead s by omega] at h2 ⊢
        exact sb z (by omega) (by omega)
      have b2 : Beat (Eqv (orR (rel s) (rel o))) (max s.lo o.lo) (min (s.hi + s.n) (o.hi + o.n)) ((lead o).toNat : Int) := fun z h1 h2 => by
        rw [show ((lead o).toNat : Int) = lead o by omega] at h2 ⊢
        exact ob z (by omega) (by omega)
      unfold shared at hsh
      exact beat_gcd _ (lead s).toNat (lead o).toNat (Nat.le_refl _) (by omega) (by omega) (by omega) b1 b2
    unfold shared at hsh
    rw [h.2.2]
    generalize gcdI (lead s) (lead o) = g at *
    by_cases c : s.lo ≤ x ∧ x + g < s.hi + s.n
    · exact beat_spread l1 g0 sb (by omega) (by omega) (by omega) ib x c.1 c.2
    · exact beat_spread l2 g0 ob (by omega) (by omega) (by omega) ib x (by omega) (by omega)
/-! taking in -/
def fits (s o : Sy) : Bool := !o.t && decide (lead s + lead o ≤ shared s o)
def partnerF (K : List Sy) (s : Sy) : Option Nat := if s.t = true then none else K.findIdx? (fits s)
theorem partner_some {K : List Sy} {s : Sy} {k : Nat} (h : partnerF K s = some k) : s.t = false ∧ ∃ o, K[k]? = some o ∧ o.t = false ∧ lead s + lead o ≤ shared s o := by
  unfold partnerF at h
  by_cases c : s.t = true
  · rw [if_pos c] at h; cases h
  · rw [if_neg c] at h
    obtain ⟨hk, hf, _⟩ := List.findIdx?_eq_some_iff_getElem.mp h
    unfold fits at hf
    rw [Bool.and_eq_true] at hf
    refine ⟨by cases e : s.t with | false => rfl | true => exact absurd e c, K[k], List.getElem?_eq_getElem hk, ?_, of_decide_eq_true hf.2⟩
    have := hf.1
    cases e : K[k].t with
    | false => rfl
    | true => rw [e] at this; cases this
def takenF : Nat → List Sy → List Sy → List Sy
  | 0, out, _ => out
  | _ + 1, out, [] => out
  | f + 1, out, s :: w => match partnerF out s with
    | none => takenF f (out ++ [s]) w
    | some k => match out[k]? with
      | none => out
      | some o => takenF f (out.eraseIdx k) (joinF o s :: w)
theorem shared_comm (s o : Sy) : shared s o = shared o s := by
  unfold shared
  rw [Int.min_comm, Int.max_comm]
theorem mem_erase {α : Type} {l : List α} {k : Nat} {o : α} (h : l[k]? = some o) (x : α) : x ∈ l ↔ x = o ∨ x ∈ l.eraseIdx k := by
  obtain ⟨hk, e⟩ := List.getElem?_eq_some_iff.mp h
  rw [List.eraseIdx_eq_take_drop_succ]
  conv => lhs; rw [← List.take_append_drop k l, List.drop_eq_getElem_cons hk, e]
  rw [List.mem_append, List.mem_append, List.mem_cons]
  constructor
  · rintro (h | h | h)
    · exact .inr (.inl h)
    · exact .inl h
    · exact .inr (.inr h)
  · rintro (h | h | h)
    · exact .inr (.inl h)
    · exact .inl h
    · exact .inr (.inr h)
theorem taken_ok {e : Int} : ∀ (f : Nat) (out w : List Sy), 2 * w.length + out.length ≤ f → (∀ s ∈ out, Ok e s) → (∀ s ∈ w, Ok e s) →
    (∀ s ∈ takenF f out w, Ok e s) ∧ EqR (relL (takenF f out w)) (orR (relL out) (relL w)) ∧ (takenF f out w).length ≤ out.length + w.length
  | 0, out, w, hf, ho, hw => by
    have e0 : w = [] := List.length_eq_zero_iff.mp (by omega)
    subst e0
    refine ⟨ho, .of_iff fun x y => ⟨.inl, fun h => h.elim id fun h => absurd h relL_nil⟩, by show out.length ≤ _; omega⟩
  | f + 1, out, [], hf, ho, hw => ⟨ho, .of_iff fun x y => ⟨.inl, fun h => h.elim id fun h => absurd h relL_nil⟩, by show out.length ≤ _; omega⟩
  | f + 1, out, s :: w, hf, ho, hw => by
    have hs := hw s List.mem_cons_self
    have hw' : ∀ u ∈ w, Ok e u := fun u hu => hw u (List.mem_cons_of_mem _ hu)
    rw [List.length_cons] at hf
    show (∀ u ∈ (match partnerF out s with | none => takenF f (out ++ [s]) w | some k => match out[k]? with | none => out | some o => takenF f (out.eraseIdx k) (joinF o s :: w)), Ok e u) ∧ EqR (relL (match partnerF out s with | none => takenF f (out ++ [s]) w | some k => match out[k]? with | none => out | some o => takenF f (out.eraseIdx k) (joinF o s :: w))) _ ∧ (match partnerF out s with | none => takenF f (out ++ [s]) w | some k => match out[k]? with | none => out | some o => takenF f (out.eraseIdx k) (joinF o s :: w)).length ≤ _
    cases hp : partnerF out s with
    | none =>
      obtain ⟨a, b, c⟩ := taken_ok f (out ++ [s]) w (by rw [List.length_append, List.length_singleton]; omega) (fun u hu => by
        rcases List.mem_append.mp hu with hu | hu
        · exact ho u hu
        · rw [List.mem_singleton.mp hu]; exact hs) hw'
      refine ⟨a, b.trans (.of_iff fun x y => ?_), ?_⟩
      · unfold orR
        rw [relL_append, relL_cons]
        unfold orR
        rw [relL_cons]
        unfold orR
        constructor
        · rintro ((h | h | h) | h)
          · exact .inl h
          · exact .inr (.inl h)
          · exact absurd h relL_nil
          · exact .inr (.inr h)
        · rintro (h | h | h)
          · exact .inl (.inl h)
          · exact .inl (.inr (.inl h))
          · exact .inr h
      · rw [List.length_append, List.length_singleton] at c
        rw [List.length_cons]
        simp only
        omega
    | some k =>
      obtain ⟨ts, o, hk, to, hsh⟩ := partner_some hp
      have hoo := ho o (List.mem_of_getElem? hk)
      have hsh' : lead o + lead s ≤ shared o s := by rw [shared_comm]; omega
      have hkl : k < out.length := (List.getElem?_eq_some_iff.mp hk).1
      have hlen : (out.eraseIdx k).length = out.length - 1 := by rw [List.length_eraseIdx, if_pos hkl]
      simp only [hk]
      obtain ⟨a, b, c⟩ := taken_ok f (out.eraseIdx k) (joinF o s :: w) (by rw [List.length_cons, hlen]; omega) (fun u hu => ho u ((mem_erase hk u).mpr (.inr hu))) (fun u hu => by
        rcases List.mem_cons.mp hu with rfl | hu
        · exact join_ok hoo hs hsh'
        · exact hw' u hu)
      refine ⟨a, b.trans ?_, ?_⟩
      · have j := (join_eq hoo hs to ts hsh').symm
        have e1 : EqR (orR (relL (out.eraseIdx k)) (relL (joinF o s :: w))) (orR (rel (joinF o s)) (orR (relL (out.eraseIdx k)) (relL w))) := .of_iff fun x y => by
          unfold orR; rw [relL_cons]; unfold orR
          constructor
          · rintro (h | h | h)
            · exact .inr (.inl h)
            · exact .inl h
            · exact .inr (.inr h)
          · rintro (h | h | h)
            · exact .inr (.inl h)
            · exact .inl h
            · exact .inr (.inr h)
        refine e1.trans ((j.orl _).trans (.of_iff fun x y => ?_))
        unfold orR
        rw [relL_cons]
        unfold orR
        have em : relL out x y ↔ rel o x y ∨ relL (out.eraseIdx k) x y := by
          unfold relL
          constructor
          · rintro ⟨u, hu, h⟩
            rcases (mem_erase hk u).mp hu with rfl | hu
            · exact .inl h
            · exact .inr ⟨u, hu, h⟩
          · rintro (h | ⟨u, hu, h⟩)
            · exact ⟨o, (mem_erase hk o).mpr (.inl rfl), h⟩
            · exact ⟨u, (mem_erase hk u).mpr (.inr hu), h⟩
        rw [em]
        constructor
        · rintro ((h | h) | h | h)
          · exact .inl (.inl h)
          · exact .inr (.inl h)
          · exact .inl (.inr h)
          · exact .inr (.inr h)
        · rintro ((h | h) | h | h)
          · exact .inl (.inl h)
          · exact .inr (.inl h)
          · exact .inl (.inr h)
          · exact .inr (.inr h)
      · rw [List.length_cons, hlen] at c
        rw [List.length_cons]
        omega
end Rep
namespace Rep
/-! carrying by the leader -/
/-- the places of (st, n) are, by R, those of (st', n), the one way round or the other -/
def Mv (R : Int → Int → Prop) (st st' n : Int) (f : Bool) : Prop := ∀ i, 0 ≤ i → i < n → Eqv R (st + i) (if f = true then st' + n - 1 - i else st' + i)
theorem Mv.id (R : Int → Int → Prop) (st n : Int) : Mv R st st n false := fun i _ _ => by
  rw [if_neg (by decide)]; exact .refl _
theorem carry_eq {R : Int → Int → Prop} {a a' b b' n : Int} {t f g : Bool} (ha : Mv R a a' n f) (hb : Mv R b b' n g) : EqR (orR R (says a b n t)) (orR R (says a' b' n ((t ^^ f) ^^ g))) := by
  refine .more (fun x y h => ?_) (fun x y h => ?_)
  · -- x = a + i
    obtain ⟨i, hi0, hi1, rfl⟩ : ∃ i, 0 ≤ i ∧ i < n ∧ x = a + i := ⟨x - a, by have := h.1; omega, by have := h.2.1; omega, by omega⟩
    have hy : y = b + (if t = true then n - 1 - i else i) := by
      cases t with
      | true => rw [says_t] at h; rw [if_pos rfl]; omega
      | false => rw [says_f] at h; rw [if_neg (by decide)]; omega
    have e1 := (ha i hi0 hi1).mono (S := orR R (says a' b' n ((t ^^ f) ^^ g))) fun _ _ z => .inl z
    have e2 : Eqv (orR R (says a' b' n ((t ^^ f) ^^ g))) y (if g = true then b' + n - 1 - (if t = true then n - 1 - i else i) else b' + (if t = true then n - 1 - i else i)) := by
      rw [hy]
      refine (hb _ ?_ ?_).mono fun _ _ z => .inl z
      · split <;> omega
      · split <;> omega
    refine .trans e1 (.trans (.of (.inr ?_)) (.symm e2))
    cases t <;> cases f <;> cases g <;> simp only [Bool.true_xor, Bool.false_xor, Bool.not_true, Bool.not_false, if_true, if_false, Bool.false_eq_true] <;> first | (rw [says_t]; omega) | (rw [says_f]; omega)
  · obtain ⟨j, hj0, hj1, rfl⟩ : ∃ j, 0 ≤ j ∧ j < n ∧ x = a' + j := ⟨x - a', by have := h.1; omega, by have := h.2.1; omega, by omega⟩
    -- the place of the stretch that was carried there
    have hi : ∃ i, 0 ≤ i ∧ i < n ∧ (if f = true then a' + n - 1 - i else a' + i) = a' + j ∧ (if g = true then b' + n - 1 - (if t = true then n - 1 - i else i) else b' + (if t = true then n - 1 - i else i)) = y := by
      cases f with
      | true =>
        refine ⟨n - 1 - j, by omega, by omega, by rw [if_pos rfl]; omega, ?_⟩
        cases t <;> cases g <;> simp only [Bool.true_xor, Bool.false_xor, Bool.not_true, Bool.not_false, if_true, if_false, Bool.false_eq_true] at h ⊢ <;> first | (rw [says_t] at h; omega) | (rw [says_f] at h; omega)
      | false =>
        refine ⟨j, hj0, hj1, by rw [if_neg (by decide)], ?_⟩
        cases t <;> cases g <;> simp only [Bool.true_xor, Bool.false_xor, Bool.not_true, Bool.not_false, if_true, if_false, Bool.false_eq_true] at h ⊢ <;> first | (rw [says_t] at h; omega) | (rw [says_f] at h; omega)
    obtain ⟨i, h0, h1, ex, ey⟩ := hi
    have e1 := (ha i h0 h1).mono (S := orR R (says a b n t)) fun _ _ z => .inl z
    have e2 : Eqv (orR R (says a b n t)) (b + (if t = true then n - 1 - i else i)) y := by
      rw [← ey]
      refine (hb _ ?_ ?_).mono fun _ _ z => .inl z
      · split <;> omega
      · split <;> omega
    rw [ex] at e1
    refine .trans (.symm e1) (.trans (.of (.inr ?_)) e2)
    cases t with
    | true => rw [says_t, if_pos rfl]; omega
    | false => rw [says_f, if_neg (by decide)]; omega
/-- where a stretch within the leader's high one starts when it is carried -/
def cstart (l : Sy) (st n : Int) : Int := if l.t = true then l.lo + l.hi + l.n - st - n else st - ((st - l.hi) / (l.hi - l.lo) + 1) * (l.hi - l.lo)
theorem mul_le_of {q d x : Int} (hd : 0 < d) : q * d ≤ x ↔ q ≤ x / d := (Int.le_ediv_iff_mul_le hd).symm
theorem div_bounds {x d : Int} (hd : 0 < d) : x / d * d ≤ x ∧ x < (x / d + 1) * d := by
  have h1 := Int.emod_nonneg x (show d ≠ 0 by omega)
  have h2 := Int.emod_lt_of_pos x hd
  have h3 := Int.emod_add_mul_ediv x d
  rw [Int.mul_comm] at h3
  rw [Int.add_mul]
  omega
theorem cstart_mv {e : Int} {l : Sy} (hl : Ok e l) (he : l.hi + l.n = e) {st n : Int} (h1 : l.hi ≤ st) (h2 : st + n ≤ e) (hn : 1 ≤ n) :
    Mv (rel l) st (cstart l st n) n l.t ∧ 0 ≤ cstart l st n ∧ cstart l st n < st := by
  have hlt := hl.lt
  have h0 := hl.lo0
  unfold cstart
  by_cases c : l.t = true
  · rw [if_pos c]
    have hov := hl.ov c
    refine ⟨fun i hi0 hi1 => ?_, by omega, by omega⟩
    rw [if_pos c]
    refine .symm (.of ?_)
    unfold rel
    rw [c, says_t]
    omega
  · rw [if_neg c]
    have c' : l.t = false := by cases e : l.t with | false => rfl | true => exact absurd e c
    have hd : 0 < l.hi - l.lo := by omega
    obtain ⟨b1, b2⟩ := div_bounds (x := st - l.hi) hd
    have hq : 0 ≤ (st - l.hi) / (l.hi - l.lo) := Int.ediv_nonneg (by omega) (by omega)
    have hB := rel_beat c' (R := rel l) fun x y h => .of h
    rw [he] at hB
    have eL : lead l = l.hi - l.lo := rfl
    obtain ⟨k, hk⟩ : ∃ k : Nat, (st - l.hi) / (l.hi - l.lo) + 1 = (k : Int) := ⟨((st - l.hi) / (l.hi - l.lo) + 1).toNat, by omega⟩
    rw [hk] at b2 ⊢
    have b3 : (k : Int) * (l.hi - l.lo) ≤ st - l.hi + (l.hi - l.lo) := by
      rw [← hk, Int.add_mul]
      omega
    have b4 : l.hi - l.lo ≤ (k : Int) * (l.hi - l.lo) := by
      rw [← hk, Int.add_mul]
      have := Int.mul_nonneg hq (show 0 ≤ l.hi - l.lo by omega)
      omega
    refine ⟨fun i hi0 hi1 => ?_, by omega, by omega⟩
    rw [if_neg c]
    have := beat_mul (R := rel l) (t := lead l) hd hB k (st - (k : Int) * (l.hi - l.lo) + i) (by omega) (by rw [eL]; omega)
    rw [eL, show st - (k : Int) * (l.hi - l.lo) + i + (k : Int) * (l.hi - l.lo) = st + i by omega] at this
    exact .symm this
/-- a saying, each of its stretches carried that lies within the leader's high one: not yet as it is kept -/
def carryF (l s : Sy) : Int × Int × Int × Bool :=
  (if l.hi ≤ s.lo then cstart l s.lo s.n else s.lo, if l.hi ≤ s.hi then cstart l s.hi s.n else s.hi, s.n, (s.t ^^ (decide (l.hi ≤ s.lo) && l.t)) ^^ (decide (l.hi ≤ s.hi) && l.t))
def saysQ (q : Int × Int × Int × Bool) (x y : Int) : Prop := says q.1 q.2.1 q.2.2.1 q.2.2.2 x y
theorem carryF_ok {e : Int} {l s : Sy} (hl : Ok e l) (he : l.hi + l.n = e) (hs : Ok e s) (hh : l.hi ≤ s.hi) :
    EqR (orR (rel l) (rel s)) (orR (rel l) (saysQ (carryF l s))) ∧ 0 ≤ (carryF l s).1 ∧ 0 ≤ (carryF l s).2.1 ∧ (carryF l s).1 + s.n < e ∧ (carryF l s).2.1 + s.n < e := by
  have a1 := hs.lo0
  have a2 := hs.lt
  have a3 := hs.n1
  have a4 := hs.le
  obtain ⟨m2, c2, d2⟩ := cstart_mv hl he hh a4 a3
  have eh : (if l.hi ≤ s.hi then cstart l s.hi s.n else s.hi) = cstart l s.hi s.n := if_pos hh
  have fh : (decide (l.hi ≤ s.hi) && l.t) = l.t := by rw [decide_eq_true hh]; rfl
  unfold carryF saysQ
  simp only [eh, fh]
  by_cases c : l.hi ≤ s.lo
  · obtain ⟨m1, c1, d1⟩ := cstart_mv hl he c (show s.lo + s.n ≤ e by omega) a3
    rw [if_pos c, decide_eq_true c]
    simp only [Bool.true_and]
    exact ⟨carry_eq m1 m2, c1, c2, by omega, by omega⟩
  · rw [if_neg c, decide_eq_false c]
    simp only [Bool.false_and]
    exact ⟨carry_eq (Mv.id _ _ _) m2, a1, c2, by omega, by omega⟩
/-! the cut -/
structure Ct where
  lo : Int
  be : Int
  by_ : Int
  t : Bool
def led (c : Ct) (x : Int) : Int := if c.t = true then c.by_ - x else x - ((x - c.lo) / c.by_ + 1) * c.by_
def link (c : Ct) (x y : Int) : Prop := 0 < c.by_ ∧ c.lo ≤ x ∧ x < c.be ∧ y = led c x
def shortF (l : Sy) (e' : Int) : Int × Int × Int × Bool := if l.t = true then (l.lo + (l.hi + l.n - e'), l.hi, l.n - (l.hi + l.n - e'), true) else (l.lo, l.hi, l.n - (l.hi + l.n - e'), false)
def cutF (l : Sy) (e' : Int) : Ct := ⟨e', l.hi + l.n, if l.t = true then l.lo + l.hi + l.n - 1 else l.hi - l.lo, l.t⟩
theorem cut_by_pos {e : Int} {l : Sy} (hl : Ok e l) (e' : Int) : 0 < (cutF l e').by_ := by
  have := hl.lt
  have := hl.lo0
  have := hl.n1
  unfold cutF
  show 0 < if l.t = true then _ else _
  split <;> omega
theorem cut_led {e e' : Int} {l : Sy} (hl : Ok e l) (h1 : l.hi ≤ e') {x : Int} (hx : e' ≤ x) (hb : x < l.hi + l.n) : 0 ≤ led (cutF l e') x ∧ led (cutF l e') x < e' ∧ Eqv (rel l) x (led (cutF l e') x) := by
  have hlt := hl.lt
  have h0 := hl.lo0
  unfold led cutF
  by_cases c : l.t = true
  · simp only [if_pos c]
    have hov := hl.ov c
    refine ⟨by omega, by omega, .symm (.of ?_)⟩
    unfold rel
    rw [c, says_t]
    omega
  · simp only [if_neg c]
    have c' : l.t = false := by cases e : l.t with | false => rfl | true => exact absurd e c
    have hd : 0 < l.hi - l.lo := by omega
    obtain ⟨b1, b2⟩ := div_bounds (x := x - e') hd
    have hq : 0 ≤ (x - e') / (l.hi - l.lo) := Int.ediv_nonneg (by omega) (by omega)
    have hB := rel_beat c' (R := rel l) fun x y h => .of h
    have eL : lead l = l.hi - l.lo := rfl
    obtain ⟨k, hk⟩ : ∃ k : Nat, (x - e') / (l.hi - l.lo) + 1 = (k : Int) := ⟨((x - e') / (l.hi - l.lo) + 1).toNat, by omega⟩
    rw [hk] at b2 ⊢
    have b3 : (k : Int) * (l.hi - l.lo) ≤ x - e' + (l.hi - l.lo) := by
      rw [← hk, Int.add_mul]
      omega
    refine ⟨by omega, by omega, ?_⟩
    have := beat_mul (R := rel l) (t := lead l) hd hB k (x - (k : Int) * (l.hi - l.lo)) (by omega) (by rw [eL]; omega)
    rw [eL, show x - (k : Int) * (l.hi - l.lo) + (k : Int) * (l.hi - l.lo) = x by omega] at this
    exact .symm this
theorem cut_eq {e e' : Int} {l : Sy} (hl : Ok e l) (h1 : l.hi ≤ e') (h2 : e' ≤ l.hi + l.n) : EqR (rel l) (orR (saysQ (shortF l e')) (link (cutF l e'))) := by
  have hlt := hl.lt
  have h0 := hl.lo0
  refine ⟨fun x y h => ?_, fun x y h => ?_⟩
  · by_cases c : l.t = true
    · have hs : saysQ (shortF l e') = says (l.lo + (l.hi + l.n - e')) l.hi (l.n - (l.hi + l.n - e')) true := by unfold saysQ shortF; rw [if_pos c]
      have hov := hl.ov c
      unfold rel at h
      rw [c, says_t] at h
      by_cases d : y < e'
      · refine .of (.inl ?_)
        rw [hs, says_t]
        omega
      · refine .symm (.of (.inr ⟨cut_by_pos hl e', ?_, ?_, ?_⟩))
        · show e' ≤ y; omega
        · show y < l.hi + l.n; omega
        · unfold led cutF
          simp only [if_pos c]
          omega
    · have c' : l.t = false := by cases e : l.t with | false => rfl | true => exact absurd e c
      have hs : saysQ (shortF l e') = says l.lo l.hi (l.n - (l.hi + l.n - e')) false := by unfold saysQ shortF; rw [if_neg c]
      have h := (rel_straight c').mp h
      have eL : lead l = l.hi - l.lo := rfl
      rw [eL] at h
      have hd : 0 < l.hi - l.lo := by omega
      by_cases d : y < e'
      · refine .of (.inl ?_)
        rw [hs, says_f]
        omega
      · have hy : Eqv (orR (saysQ (shortF l e')) (link (cutF l e'))) y (led (cutF l e') y) := .of (.inr ⟨cut_by_pos hl e', by show e' ≤ y; omega, by show y < l.hi + l.n; omega, rfl⟩)
        have ly : led (cutF l e') y = y - ((y - e') / (l.hi - l.lo) + 1) * (l.hi - l.lo) := by
          unfold led cutF; simp only [if_neg c]
        by_cases g : x < e'
        · have e0 : (y - e') / (l.hi - l.lo) = 0 := Int.ediv_eq_zero_of_lt (by omega) (by omega)
          rw [ly, e0] at hy
          rw [show y - (0 + 1) * (l.hi - l.lo) = x by omega] at hy
          exact .symm hy
        · have hx : Eqv (orR (saysQ (shortF l e')) (link (cutF l e'))) x (led (cutF l e') x) := .of (.inr ⟨cut_by_pos hl e', by show e' ≤ x; omega, by show x < l.hi + l.n; omega, rfl⟩)
          have lx : led (cutF l e') x = x - ((x - e') / (l.hi - l.lo) + 1) * (l.hi - l.lo) := by
            unfold led cutF; simp only [if_neg c]
          have e0 : (y - e') / (l.hi - l.lo) = (x - e') / (l.hi - l.lo) + 1 := by
            have : y - e' = (x - e') + (l.hi - l.lo) := by omega
            rw [this, Int.add_ediv_of_dvd_right (Int.dvd_refl _), Int.ediv_self (by omega)]
          have ee : led (cutF l e') y = led (cutF l e') x := by
            rw [ly, lx, e0, Int.add_mul, Int.add_mul]
            omega
          rw [ee] at hy
          exact .trans hx (.symm hy)
  · rcases h with h | h
    · by_cases c : l.t = true
      · have hs : saysQ (shortF l e') = says (l.lo + (l.hi + l.n - e')) l.hi (l.n - (l.hi + l.n - e')) true := by unfold saysQ shortF; rw [if_pos c]
        rw [hs, says_t] at h
        refine .of ?_
        unfold rel
        rw [c, says_t]
        omega
      · have c' : l.t = false := by cases e : l.t with | false => rfl | true => exact absurd e c
        have hs : saysQ (shortF l e') = says l.lo l.hi (l.n - (l.hi + l.n - e')) false := by unfold saysQ shortF; rw [if_neg c]
        rw [hs, says_f] at h
        refine .of ?_
        unfold rel
        rw [c', says_f]
        omega
    · obtain ⟨_, hx, hb, rfl⟩ := h
      exact (cut_led hl h1 hx hb).2.2
/-! following -/
def fOf : List Ct → Int → Int
  | [], x => x
  | c :: r, x => if c.lo ≤ x then (if 0 < c.by_ then fOf r (led c x) else x) else fOf r x
/-- what the cuts of a song below e are to the sayings that are left: told from the song's end -/
inductive Stg : Int → List Sy → List Ct → Prop
  | nil {K : List Sy} : (∀ s ∈ K, Ok 0 s) → Stg 0 K []
  | free {e e' : Int} {K : List Sy} {C : List Ct} : 0 ≤ e' → e' < e → (∀ s ∈ K, Ok e' s) → Stg e' K C → Stg e K (⟨e', e, 0, false⟩ :: C)
  | led {e e' : Int} {K K' : List Sy} {c : Ct} {C : List Ct} : 0 ≤ e' → e' < e → (∀ s ∈ K, Ok e s) → (∀ s ∈ K', Ok e' s) → c.lo = e' → c.be = e → 0 < c.by_ → (∀ x, e' ≤ x → x < e → 0 ≤ led c x ∧ led c x < e') →
      EqR (relL K) (orR (relL K') (link c)) → Stg e' K' C → Stg e K (c :: C)
theorem Ok.both {e : Int} {s : Sy} (h : Ok e s) {x y : Int} (r : rel s x y) : (0 ≤ x ∧ x < e) ∧ 0 ≤ y ∧ y < e := by
  have a1 := h.lo0
  have a2 := h.lt
  have a4 := h.le
  unfold rel at r
  cases c : s.t with
  | true => rw [c, says_t] at r; omega
  | false => rw [c, says_f] at r; omega
theorem fOf_ok {e : Int} {K : List Sy} {C : List Ct} (h : Stg e K C) :
    (∀ x, 0 ≤ x → x < e → 0 ≤ fOf C x ∧ fOf C x ≤ x ∧ Eqv (relL K) x (fOf C x)) ∧ ∀ x y, Eqv (relL K) x y → (x = y ∨ (0 ≤ x ∧ x < e ∧ 0 ≤ y ∧ y < e ∧ fOf C x = fOf C y)) := by
  -- a relation within [0, e) that f keeps is kept along any number of steps
  have along : ∀ {R : Int → Int → Prop} {e : Int} {F : Int → Int}, (∀ x y, R x y → 0 ≤ x ∧ x < e ∧ 0 ≤ y ∧ y < e ∧ F x = F y) → ∀ x y, Eqv R x y → (x = y ∨ (0 ≤ x ∧ x < e ∧ 0 ≤ y ∧ y < e ∧ F x = F y)) := by
    intro R e F hR x y h
    induction h with
    | refl x => exact .inl rfl
    | of r => exact .inr (hR _ _ r)
    | symm _ ih =>
      rcases ih with e | ⟨a, b, c, d, e⟩
      · exact .inl e.symm
      · exact .inr ⟨c, d, a, b, e.symm⟩
    | trans _ _ i1 i2 =>
      rcases i1 with e1 | ⟨a, b, c, d, e1⟩
      · rw [e1]; exact i2
      · rcases i2 with e2 | ⟨_, _, c', d', e2⟩
        · rw [← e2]; exact .inr ⟨a, b, c, d, e1⟩
        · exact .inr ⟨a, b, c', d', e1.trans e2⟩
  induction h with
  | nil hK =>
    refine ⟨fun x h0 h1 => by omega, along fun x y ⟨s, hs, r⟩ => ?_⟩
    have := (hK s hs).both r
    omega
  | @free e e' K C h0 h1 hK _ ih =>
    obtain ⟨i1, i2⟩ := ih
    have f1 : ∀ x, e' ≤ x → fOf (⟨e', e, 0, false⟩ :: C) x = x := fun x hx => by
      show (if e' ≤ x then (if (0 : Int) < 0 then _ else x) else _) = x
      rw [if_pos hx, if_neg (by decide)]
    have f2 : ∀ x, x < e' → fOf (⟨e', e, 0, false⟩ :: C) x = fOf C x := fun x hx => by
      show (if e' ≤ x then _ else fOf C x) = _
      rw [if_neg (by omega)]
    refine ⟨fun x hx hb => ?_, along fun x y ⟨s, hs, r⟩ => ?_⟩
    · by_cases c : e' ≤ x
      · rw [f1 x c]; exact ⟨hx, Int.le_refl _, .refl x⟩
      · rw [f2 x (by omega)]; exact i1 x hx (by omega)
    · have hb := (hK s hs).both r
      refine ⟨hb.1.1, by omega, hb.2.1, by omega, ?_⟩
      rw [f2 x (by omega), f2 y (by omega)]
      rcases i2 x y (.of ⟨s, hs, r⟩) with e | e
      · rw [e]
      · exact e.2.2.2.2
  | @led e e' K K' c C h0 h1 hK hK' hlo hbe hby hled heq _ ih =>
    obtain ⟨i1, i2⟩ := ih
    have f1 : ∀ x, e' ≤ x → fOf (c :: C) x = fOf C (led c x) := fun x hx => by
      show (if c.lo ≤ x then (if 0 < c.by_ then _ else x) else _) = _
      rw [hlo, if_pos hx, if_pos hby]
    have f2 : ∀ x, x < e' → fOf (c :: C) x = fOf C x := fun x hx => by
      show (if c.lo ≤ x then _ else fOf C x) = _
      rw [hlo, if_neg (by omega)]
    have up : ∀ {x y}, Eqv (relL K') x y → Eqv (relL K) x y := fun {x y} h => heq.iff.mpr (h.mono fun _ _ z => .inl z)
    refine ⟨fun x hx hb => ?_, fun x y h => ?_⟩
    · by_cases d : e' ≤ x
      · obtain ⟨l0, l1⟩ := hled x d hb
        obtain ⟨a, b, g⟩ := i1 _ l0 l1
        rw [f1 x d]
        refine ⟨a, by omega, .trans (heq.iff.mpr (.of (.inr ⟨hby, by rw [hlo]; exact d, by rw [hbe]; exact hb, rfl⟩))) (up g)⟩
      · rw [f2 x (by omega)]
        obtain ⟨a, b, g⟩ := i1 x hx (by omega)
        exact ⟨a, b, up g⟩
    · refine along (R := orR (relL K') (link c)) (fun x y r => ?_) x y (heq.iff.mp h)
      rcases r with ⟨s, hs, r⟩ | ⟨_, hx, hb, rfl⟩
      · have hb := (hK' s hs).both r
        refine ⟨hb.1.1, by omega, hb.2.1, by omega, ?_⟩
        rw [f2 x (by omega), f2 y (by omega)]
        rcases i2 x y (.of ⟨s, hs, r⟩) with e | e
        · rw [e]
        · exact e.2.2.2.2
      · rw [hlo] at hx
        rw [hbe] at hb
        obtain ⟨l0, l1⟩ := hled x hx hb
        refine ⟨by omega, hb, l0, by omega, ?_⟩
        rw [f1 x hx, f2 _ l1]
/-- so what is come to is the least place alike -/
theorem fOf_least {e : Int} {K : List Sy} {C : List Ct} (h : Stg e K C) {x y : Int} (hx : 0 ≤ x) (hb : x < e) (hy : Eqv (relL K) x y) : fOf C x ≤ y := by
  obtain ⟨a, b⟩ := fOf_ok h
  rcases b x y hy with e | ⟨_, _, c, d, e⟩
  · rw [← e]; exact (a x hx hb).2.1
  · rw [e]; exact (a y c d).2.1
end Rep
namespace Rep
/-! the whole reckoning -/
def keptL (qs : List (Int × Int × Int × Bool)) : List Sy := qs.filterMap fun q => keptF q.1 q.2.1 q.2.2.1 q.2.2.2
def relQ (qs : List (Int × Int × Int × Bool)) (x y : Int) : Prop := ∃ q ∈ qs, saysQ q x y
theorem keptL_eq (qs : List (Int × Int × Int × Bool)) : EqR (relQ qs) (relL (keptL qs)) := by
  refine ⟨fun x y ⟨q, hq, h⟩ => ?_, fun x y ⟨s, hs, h⟩ => ?_⟩
  · refine ((kept_eq (a := q.1) (b := q.2.1) (n := q.2.2.1) (t := q.2.2.2)).1 x y h).mono fun x y ⟨s, e, r⟩ => ⟨s, ?_, r⟩
    exact List.mem_filterMap.mpr ⟨q, hq, e⟩
  · obtain ⟨q, hq, e⟩ := List.mem_filterMap.mp hs
    exact ((kept_eq (a := q.1) (b := q.2.1) (n := q.2.2.1) (t := q.2.2.2)).2 x y ⟨s, e, h⟩).mono fun x y r => ⟨q, hq, r⟩
def gE (K : List Sy) : Int := K.foldl (fun a s => max a (s.hi + s.n)) 0
theorem gE_fold : ∀ (K : List Sy) (a : Int), a ≤ K.foldl (fun a s => max a (s.hi + s.n)) a ∧ (∀ s ∈ K, s.hi + s.n ≤ K.foldl (fun a s => max a (s.hi + s.n)) a) ∧ ∀ e, a < e → (∀ s ∈ K, s.hi + s.n < e) → K.foldl (fun a s => max a (s.hi + s.n)) a < e
  | [], a => ⟨Int.le_refl _, fun s h => (by cases h), fun e h _ => h⟩
  | s :: K, a => by
    obtain ⟨h1, h2, h3⟩ := gE_fold K (max a (s.hi + s.n))
    refine ⟨?_, fun u hu => ?_, fun e ha hK => ?_⟩
    · show a ≤ K.foldl _ (max a (s.hi + s.n)); omega
    · show u.hi + u.n ≤ K.foldl _ (max a (s.hi + s.n))
      rcases List.mem_cons.mp hu with rfl | hu
      · omega
      · exact h2 u hu
    · refine h3 e ?_ fun u hu => hK u (List.mem_cons_of_mem _ hu)
      have := hK s List.mem_cons_self
      omega
theorem gE_nonneg (K : List Sy) : 0 ≤ gE K := (gE_fold K 0).1
theorem gE_ge {K : List Sy} {s : Sy} (h : s ∈ K) : s.hi + s.n ≤ gE K := (gE_fold K 0).2.1 s h
theorem gE_lt {K : List Sy} {e : Int} (h0 : 0 < e) (h : ∀ s ∈ K, s.hi + s.n < e) : gE K < e := (gE_fold K 0).2.2 e h0 h
/-- ends later, or as late with longer stretches -/
def better (a b : Sy) : Bool := decide (b.hi + b.n < a.hi + a.n ∨ (b.hi + b.n = a.hi + a.n ∧ b.n < a.n))
def bestF (s : Sy) (K : List Sy) : Sy := K.foldl (fun b s => if better s b = true then s else b) s
theorem best_ok : ∀ (K : List Sy) (s : Sy), bestF s K ∈ s :: K ∧ ∀ u ∈ s :: K, better u (bestF s K) = false
  | [], s => ⟨List.mem_cons_self, fun u hu => by
    have e : u = s := List.mem_singleton.mp hu
    rw [e]
    show better s s = false
    unfold better
    exact decide_eq_false (by omega)⟩
  | v :: K, s => by
    show (K.foldl _ (if better v s = true then v else s)) ∈ _ ∧ ∀ u ∈ _, better u (K.foldl _ (if better v s = true then v else s)) = false
    have hv : ∀ u, u = s ∨ u = v → better u (if better v s = true then v else s) = false := by
      intro u hu
      unfold better
      by_cases c : v.hi + v.n > s.hi + s.n ∨ (s.hi + s.n = v.hi + v.n ∧ s.n < v.n)
      · rw [if_pos (decide_eq_true (by omega))]
        rcases hu with rfl | rfl
        · exact decide_eq_false (by omega)
        · exact decide_eq_false (by omega)
      · rw [if_neg (fun z => c (by have := of_decide_eq_true z; omega))]
        rcases hu with rfl | rfl
        · exact decide_eq_false (by omega)
        · exact decide_eq_false (by omega)
    obtain ⟨a, b⟩ := best_ok K (if better v s = true then v else s)
    unfold bestF at a b
    refine ⟨?_, fun u hu => ?_⟩
    · rcases List.mem_cons.mp a with a | a
      · rw [a]
        by_cases c : better v s = true
        · rw [if_pos c]; exact List.mem_cons_of_mem _ List.mem_cons_self
        · rw [if_neg c]; exact List.mem_cons_self
      · exact List.mem_cons_of_mem _ (List.mem_cons_of_mem _ a)
    · rcases List.mem_cons.mp hu with h | hu
      · have h1 := hv u (.inl h)
        have h2 := b _ List.mem_cons_self
        unfold better at *
        have h1 := of_decide_eq_false h1
        have h2 := of_decide_eq_false h2
        exact decide_eq_false (by omega)
      · rcases List.mem_cons.mp hu with h | hu
        · have h1 := hv u (.inr h)
          have h2 := b _ List.mem_cons_self
          unfold better at *
          have h1 := of_decide_eq_false h1
          have h2 := of_decide_eq_false h2
          exact decide_eq_false (by omega)
        · exact b u (List.mem_cons_of_mem _ hu)
def leadF : List Sy → Option Sy
  | [] => none
  | s :: K => some (bestF s K)
/-- what is left behind the leader's cut, and where the song ends then -/
def stillF (l : Sy) (O : List Sy) : List Sy := O.filter fun s => decide (s.hi < l.hi)
def freshF (l : Sy) (O : List Sy) : List Sy := keptL ((O.filter fun s => decide (l.hi ≤ s.hi)).map (carryF l))
def endF (l : Sy) (O : List Sy) : Int := max (max l.hi (gE (stillF l O))) (gE (freshF l O))
def nextF (l : Sy) (O : List Sy) : List Sy :=
  let fr := freshF l O ++ keptL [shortF l (endF l O)]
  takenF (2 * fr.length + (stillF l O).length) (stillF l O) fr.reverse
structure Leads (e : Int) (l : Sy) (O : List Sy) : Prop where
  ok : Ok e l
  en : l.hi + l.n = e
  oth : ∀ s ∈ O, Ok e s
  best : ∀ s ∈ O, better s l = false
theorem Leads.still {e : Int} {l : Sy} {O : List Sy} (h : Leads e l O) : ∀ s ∈ stillF l O, Ok e s ∧ s.hi + s.n < e := by
  intro s hs
  obtain ⟨h1, h2⟩ := List.mem_filter.mp hs
  have h2 := of_decide_eq_true h2
  have h3 := h.oth s h1
  have h4 := of_decide_eq_false (h.best s h1)
  have h5 := h3.le
  have h6 := h.en
  exact ⟨h3, by omega⟩
theorem Leads.fresh {e : Int} {l : Sy} {O : List Sy} (h : Leads e l O) : ∀ s ∈ freshF l O, Ok e s ∧ s.hi + s.n < e := by
  intro s hs
  obtain ⟨q, hq, e1⟩ := List.mem_filterMap.mp hs
  obtain ⟨u, hu, rfl⟩ := List.mem_map.mp hq
  obtain ⟨h1, h2⟩ := List.mem_filter.mp hu
  have h2 := of_decide_eq_true h2
  obtain ⟨_, c1, c2, c3, c4⟩ := carryF_ok h.ok h.en (h.oth u h1) h2
  have en : (carryF l u).2.2.1 = u.n := rfl
  rw [en] at e1
  obtain ⟨k1, k2⟩ := kept_ok c1 c2 (show (carryF l u).1 + u.n ≤ e by omega) (show (carryF l u).2.1 + u.n ≤ e by omega) e1
  exact ⟨k1, by omega⟩
theorem Leads.end_ {e : Int} {l : Sy} {O : List Sy} (h : Leads e l O) : l.hi ≤ endF l O ∧ endF l O < e := by
  have h1 := h.ok.lo0
  have h2 := h.ok.lt
  have h3 := h.ok.n1
  have h4 := h.en
  have g1 := gE_lt (K := stillF l O) (e := e) (by omega) fun s hs => (h.still s hs).2
  have g2 := gE_lt (K := freshF l O) (e := e) (by omega) fun s hs => (h.fresh s hs).2
  unfold endF
  omega
theorem Leads.stage {e : Int} {l : Sy} {O : List Sy} (h : Leads e l O) :
    (∀ s ∈ nextF l O, Ok (endF l O) s) ∧ EqR (orR (rel l) (relL O)) (orR (relL (nextF l O)) (link (cutF l (endF l O)))) ∧ (nextF l O).length ≤ O.length + 1 := by
  obtain ⟨e1, e2⟩ := h.end_
  have en := h.en
  have l0 := h.ok.lo0
  have l1 := h.ok.lt
  have l2 := h.ok.n1
  -- the shortened leader
  have hsh : ∀ s ∈ keptL [shortF l (endF l O)], Ok (endF l O) s := fun s hs => by
    obtain ⟨q, hq, k⟩ := List.mem_filterMap.mp hs
    have eq_ : q = shortF l (endF l O) := List.mem_singleton.mp hq
    subst eq_
    by_cases c : l.t = true
    · have es : shortF l (endF l O) = (l.lo + (l.hi + l.n - endF l O), l.hi, l.n - (l.hi + l.n - endF l O), true) := if_pos c
      rw [es] at k
      have hov := h.ok.ov c
      exact (kept_ok (by show 0 ≤ l.lo + (l.hi + l.n - endF l O); omega) (by show 0 ≤ l.hi; omega) (by show l.lo + (l.hi + l.n - endF l O) + (l.n - (l.hi + l.n - endF l O)) ≤ endF l O; omega) (by show l.hi + (l.n - (l.hi + l.n - endF l O)) ≤ endF l O; omega) k).1
    · have es : shortF l (endF l O) = (l.lo, l.hi, l.n - (l.hi + l.n - endF l O), false) := if_neg c
      rw [es] at k
      exact (kept_ok (by show 0 ≤ l.lo; omega) (by show 0 ≤ l.hi; omega) (by show l.lo + (l.n - (l.hi + l.n - endF l O)) ≤ endF l O; omega) (by show l.hi + (l.n - (l.hi + l.n - endF l O)) ≤ endF l O; omega) k).1
  have hst : ∀ s ∈ stillF l O, Ok (endF l O) s := fun s hs => (h.still s hs).1.mono (by have := gE_ge hs; unfold endF; omega)
  have hfr : ∀ s ∈ freshF l O, Ok (endF l O) s := fun s hs => (h.fresh s hs).1.mono (by have := gE_ge hs; unfold endF; omega)
  have hw : ∀ s ∈ (freshF l O ++ keptL [shortF l (endF l O)]).reverse, Ok (endF l O) s := fun s hs => by
    rcases List.mem_append.mp (List.mem_reverse.mp hs) with hs | hs
    · exact hfr s hs
    · exact hsh s hs
  obtain ⟨t1, t2, t3⟩ := taken_ok (e := endF l O) (2 * (freshF l O ++ keptL [shortF l (endF l O)]).length + (stillF l O).length) (stillF l O) (freshF l O ++ keptL [shortF l (endF l O)]).reverse (by rw [List.length_reverse]; omega) hst hw
  refine ⟨t1, ?_, ?_⟩
  · -- the others, carried
    have c1 : EqR (orR (rel l) (relL O)) (orR (rel l) (orR (relL (stillF l O)) (relQ ((O.filter fun s => decide (l.hi ≤ s.hi)).map (carryF l))))) := by
      refine .more (fun x y ⟨s, hs, r⟩ => ?_) (fun x y r => ?_)
      · by_cases c : l.hi ≤ s.hi
        · refine ((carryF_ok h.ok en (h.oth s hs) c).1.to x y (.inr r)).mono fun x y z => ?_
          rcases z with z | z
          · exact .inl z
          · exact .inr (.inr ⟨_, List.mem_map.mpr ⟨s, List.mem_filter.mpr ⟨hs, decide_eq_true c⟩, rfl⟩, z⟩)
        · exact .of (.inr (.inl ⟨s, List.mem_filter.mpr ⟨hs, decide_eq_true (by omega)⟩, r⟩))
      · rcases r with ⟨s, hs, r⟩ | ⟨q, hq, r⟩
        · exact .of (.inr ⟨s, (List.mem_filter.mp hs).1, r⟩)
        · obtain ⟨s, hs, rfl⟩ := List.mem_map.mp hq
          obtain ⟨h1, h2⟩ := List.mem_filter.mp hs
          refine ((carryF_ok h.ok en (h.oth s h1) (of_decide_eq_true h2)).1.back x y (.inr r)).mono fun x y z => ?_
          rcases z with z | z
          · exact .inl z
          · exact .inr ⟨s, h1, z⟩
    have c2 : EqR (relQ ((O.filter fun s => decide (l.hi ≤ s.hi)).map (carryF l))) (relL (freshF l O)) := keptL_eq _
    have c3 : EqR (rel l) (orR (relL (keptL [shortF l (endF l O)])) (link (cutF l (endF l O)))) := by
      refine (cut_eq h.ok e1 (by omega)).trans (EqR.orl _ ?_)
      refine EqR.trans (.of_iff fun x y => ?_) (keptL_eq [shortF l (endF l O)])
      constructor
      · intro r; exact ⟨_, List.mem_singleton.mpr rfl, r⟩
      · rintro ⟨q, hq, r⟩
        rw [List.mem_singleton.mp hq] at r
        exact r
    refine (c1.trans (((c2.orr _).orr _).trans (c3.orl _))).trans ?_
    refine EqR.trans (.of_iff fun x y => ?_) (EqR.orl _ (t2.symm))
    unfold orR
    have em : relL (freshF l O ++ keptL [shortF l (endF l O)]).reverse x y ↔ relL (freshF l O) x y ∨ relL (keptL [shortF l (endF l O)]) x y := by
      have e0 : relL (freshF l O ++ keptL [shortF l (endF l O)]).reverse x y ↔ relL (freshF l O ++ keptL [shortF l (endF l O)]) x y :=
        ⟨fun ⟨s, hs, r⟩ => ⟨s, List.mem_reverse.mp hs, r⟩, fun ⟨s, hs, r⟩ => ⟨s, List.mem_reverse.mpr hs, r⟩⟩
      rw [e0, relL_append]
      rfl
    rw [em]
    constructor
    · rintro ((h | h) | h | h)
      · exact .inl (.inr (.inr h))
      · exact .inr h
      · exact .inl (.inl h)
      · exact .inl (.inr (.inl h))
    · rintro ((h | h | h) | h)
      · exact .inr (.inl h)
      · exact .inr (.inr h)
      · exact .inl (.inl h)
      · exact .inl (.inr h)
  · refine Nat.le_trans t3 ?_
    rw [List.length_reverse, List.length_append]
    have f1 : (freshF l O).length ≤ (O.filter fun s => decide (l.hi ≤ s.hi)).length := by
      unfold freshF keptL
      refine Nat.le_trans (List.length_filterMap_le _ _) ?_
      rw [List.length_map]
      exact Nat.le_refl _
    have f2 : (keptL [shortF l (endF l O)]).length ≤ 1 := List.length_filterMap_le _ _
    have f3 : (stillF l O).length + (O.filter fun s => decide (l.hi ≤ s.hi)).length = O.length := by
      unfold stillF
      clear t1 t2 t3 hw hfr hst hsh f1 f2 h en e1 e2
      induction O with
      | nil => rfl
      | cons s O ih =>
        by_cases c : s.hi < l.hi
        · have e1 : (s :: O).filter (fun s => decide (s.hi < l.hi)) = s :: O.filter (fun s => decide (s.hi < l.hi)) := by simp [c]
          have e2 : (s :: O).filter (fun s => decide (l.hi ≤ s.hi)) = O.filter (fun s => decide (l.hi ≤ s.hi)) := by
            have c' : ¬ l.hi ≤ s.hi := by omega
            simp [c']
          rw [e1, e2, List.length_cons, List.length_cons]
          omega
        · have e1 : (s :: O).filter (fun s => decide (s.hi < l.hi)) = O.filter (fun s => decide (s.hi < l.hi)) := by simp [c]
          have e2 : (s :: O).filter (fun s => decide (l.hi ≤ s.hi)) = s :: O.filter (fun s => decide (l.hi ≤ s.hi)) := by
            have c' : l.hi ≤ s.hi := by omega
            simp [c']
          rw [e1, e2, List.length_cons, List.length_cons]
          omega
    omega
/-- one cut of what is left -/
def cutBy (K : List Sy) : Option (Ct × List Sy) := match leadF K with
  | none => none
  | some l => some (cutF l (endF l (K.erase l)), nextF l (K.erase l))
theorem lead_leads {e : Int} {K : List Sy} {l : Sy} (hK : ∀ s ∈ K, Ok e s) (he : e ≤ gE K) (h0 : 0 < e) (hl : leadF K = some l) : Leads e l (K.erase l) ∧ l ∈ K := by
  cases K with
  | nil => cases hl
  | cons s K =>
    cases hl
    obtain ⟨a, b⟩ := best_ok K s
    refine ⟨⟨hK _ a, ?_, fun u hu => hK u (List.mem_of_mem_erase hu), fun u hu => b u (List.mem_of_mem_erase hu)⟩, a⟩
    -- it ends last
    have h1 := (hK _ a).le
    by_cases c : (bestF s K).hi + (bestF s K).n < e
    · have : gE (s :: K) < e := gE_lt h0 fun u hu => by
        have := of_decide_eq_false (b u hu)
        omega
      omega
    · omega
theorem lead_some {K : List Sy} (h : 0 < gE K) : ∃ l, leadF K = some l := by
  cases K with
  | nil => exact absurd h (by decide)
  | cons s K => exact ⟨_, rfl⟩
theorem relL_erase {K : List Sy} {l : Sy} (h : l ∈ K) : EqR (relL K) (orR (rel l) (relL (K.erase l))) := .of_iff fun x y => by
  constructor
  · rintro ⟨s, hs, r⟩
    by_cases c : s = l
    · subst c; exact .inl r
    · exact .inr ⟨s, (List.mem_erase_of_ne c).mpr hs, r⟩
  · rintro (r | ⟨s, hs, r⟩)
    · exact ⟨l, h, r⟩
    · exact ⟨s, List.mem_of_mem_erase hs, r⟩
/-- all cuts, from the song's end -/
def cutsF : Nat → Int → List Sy → List Ct
  | 0, _, _ => []
  | f + 1, e, K => if e ≤ 0 then [] else if gE K < e then ⟨gE K, e, 0, false⟩ :: cutsF f (gE K) K else match cutBy K with
    | none => []
    | some (c, K') => c :: cutsF f c.lo K'
theorem cuts_stg : ∀ (f : Nat) (e : Int) (K : List Sy), e ≤ (f : Int) → 0 ≤ e → (∀ s ∈ K, Ok e s) → Stg e K (cutsF f e K)
  | 0, e, K, hf, h0, hK => by
    have e0 : e = 0 := by omega
    subst e0
    exact .nil hK
  | f + 1, e, K, hf, h0, hK => by
    show Stg e K (if e ≤ 0 then [] else if gE K < e then ⟨gE K, e, 0, false⟩ :: cutsF f (gE K) K else match cutBy K with | none => [] | some (c, K') => c :: cutsF f c.lo K')
    by_cases c : e ≤ 0
    · have e0 : e = 0 := by omega
      subst e0
      rw [if_pos c]
      exact .nil hK
    · rw [if_neg c]
      by_cases d : gE K < e
      · rw [if_pos d]
        have hK' : ∀ s ∈ K, Ok (gE K) s := fun s hs => (hK s hs).mono (gE_ge hs)
        exact .free (gE_nonneg K) d hK' (cuts_stg f (gE K) K (by omega) (gE_nonneg K) hK')
      · rw [if_neg d]
        obtain ⟨l, hl⟩ := lead_some (K := K) (by omega)
        obtain ⟨L, hm⟩ := lead_leads hK (by omega) (by omega) hl
        obtain ⟨s1, s2, s3⟩ := L.stage
        obtain ⟨e1, e2⟩ := L.end_
        have en := L.en
        have b0 := L.ok.lo0
        have b1 := L.ok.lt
        have ec : cutBy K = some (cutF l (endF l (K.erase l)), nextF l (K.erase l)) := by unfold cutBy; rw [hl]
        rw [ec]
        refine .led (e' := endF l (K.erase l)) (by omega) e2 hK s1 rfl (by show l.hi + l.n = e; exact en) (cut_by_pos L.ok _) (fun x hx hb => ?_) ((relL_erase hm).trans s2) (cuts_stg f (endF l (K.erase l)) _ (by omega) (by omega) s1)
        have := cut_led L.ok e1 hx (by rw [en]; exact hb)
        exact ⟨this.1, this.2.1⟩
end Rep
namespace Rep
open PySem PySem.Spec PyProof.Rows L2
/-! rules that the layer lacks: max(ints, default=d), xs.remove(tuple) -/
theorem dp_ints {K : PySem.W.Frag} {H : Hp} : ∀ ns : List Int, DpAll K H (ns.map V.int) (ns.map PyData.int)
  | [] => .nil
  | n :: r => .cons (.int n) (dp_ints r)
theorem depth_ints : ∀ ns : List Int, PyData.depthAll (ns.map PyData.int) = 0
  | [] => rfl
  | n :: r => by
    show max 0 (PyData.depthAll (r.map PyData.int)) = 0
    rw [depth_ints r]; rfl
def maxI : List Int → Int → Int
  | [], d => d
  | n :: r, _ => r.foldl max n
theorem cr_maxD {X : Cx} (hc : X.calm = true) (hu : X.A.units + 64 < cLine) : CallRK X (.builtin "max") [Str.ofString "default"] (fun vs zs H Q => ∃ (a : Addr) (ns : List Int) (d : Int), vs = [.ref a] ∧ zs = [.int d] ∧ SqL X.K H a (ns.map V.int) ∧ Q (.int (maxI ns d)) H) := by
  intro pins s σ H vs zs us ws Q I r rz h
  obtain ⟨a, ns, d, rfl, rfl, hs, q⟩ := h
  obtain rfl := Vals.ref1 r
  obtain ⟨w1, rfl, e1⟩ := vals1 rz
  obtain ⟨t1, rfl⟩ := e1
  obtain ⟨its, rv, hl, hz⟩ := I.list hs
  obtain ⟨as, hr⟩ := Dp.readsAll I _ _ its (dp_ints ns) rv
  refine PySem.W.max_list_default (xs := ns.map PyData.int) (I.ok.hd hc) hl.isList (by simpa using hr) ⟨fun x hx y hy => ?_, fun x hx => ?_⟩ (by rw [depth_ints]; omega) (fun e h' tk k => ?_) (fun y ys i v h' tk bs e hv rd k => ?_)
  · obtain ⟨i, _, rfl⟩ := List.mem_map.mp hx
    obtain ⟨j, _, rfl⟩ := List.mem_map.mp hy
    rfl
  · obtain ⟨i, _, rfl⟩ := List.mem_map.mp hx
    intro z; cases z
  · have e0 : ns = [] := List.map_eq_nil_iff.mp e
    subst e0
    exact ⟨.int d, H, I.kept k, ⟨t1, rfl⟩, q⟩
  · cases ns with
    | nil => cases e
    | cons n rr =>
      cases e
      rw [PySem.W.maxD_ints] at rd
      cases rd
      exact ⟨.int _, H, I.kept k, ⟨_, rfl⟩, q⟩
/-- xs.remove(v), the items and v data: the first that is == v goes -/
theorem mt_removeD {X : Cx} (hu : X.A.units + 200 < cLine) : MtM X "list.remove" (fun x xs H Q => ∃ (l : Addr) (ys : List V) (y : V) (ds : List PyData) (d : PyData) (j : Nat), x = .ref l ∧ xs = [y] ∧ H l = some (.lst ys) ∧ DpAll X.K H ys ds ∧ Dp X.K H y d ∧ PyData.plainAll ds = true ∧ d.plain = true ∧ d.depth ≤ 64 ∧
    SeqAt.dataPlace ds d = some j ∧ Q .non (upd H l (.lst (ys.eraseIdx j)))) := by
  intro pins s σ H x xs v us Q I rx rxs h
  obtain ⟨l, ys, y, ds, d, j, rfl, rfl, hH, hds, hd, p1, p2, p3, hj, q⟩ := h
  cases rx
  obtain ⟨u, rfl, ru⟩ := vals1 rxs
  obtain ⟨z, its, n, r, hl, e⟩ := I.lstM hH
  obtain ⟨as, hr⟩ := Dp.readsAll I _ _ its hds r
  obtain ⟨bs, hr2⟩ := Dp.reads I d y u hd ru
  refine SeqAt.remove_list_data (vs := its.toArray) ⟨_, e, rfl, n, rfl⟩ (by simpa using hr) hr2 p1 p2 (by have := Nat.min_le_right (PyData.depthAll ds) d.depth; omega) hj (by rw [List.size_toArray]; omega) ?_
  refine ⟨.non, _, I.lset (its' := its.eraseIdx j) hH e ?_ (r.eraseIdx j) ?_, rfl, q⟩
  · show its.toArray.eraseIdxIfInBounds j = (its.eraseIdx j).toArray
    rw [List.eraseIdxIfInBounds_toArray]
  · have := len_erase ys j
    omega
end Rep
namespace Rep
open PySem PySem.Spec PyProof.Rows L2
/-! a lambda of one parameter that captures nothing, called -/
theorem lam1_run {P : Program} {w : World} {K : PySem.W.Frag} {mg : Str → Option Value} {base : Heap} {A : Around} {outer : List Env} {s : Shared} {H : Hp} {f c' : Addr} {q x : Str} {params : Arguments} {body : Expr} {scope : Scope} {pm ctv u : Value} {v : V} {N : List Str} {k : Nat} {Q : VK} {t : TE}
    (S : FnScope N [x] scope) (hf : s.heap.get? f = some (PySem.W.kla_obj "<lambda>" q params body scope [] pm c' ctv)) (hco : H c' = some (LamX.CodeO c' q)) (hr : Room (k + 1) A) (e0 : Env0 P w K mg base A outer s H)
    (hb : bindArgs (PySem.W.kla_fn "<lambda>" q params body scope [] pm (.ref c') ctv) ⟨[u], []⟩ = pure [(x, u)]) (rv : RelV v u)
    (hbody : Room k (A.deeper (envOfC q scope s.heap.objs.size f (.ref c'))) → PE (cxOf CX0 P w K mg base N q scope f (.ref c') A outer s H E0).nox body t) (hq : t (L2.start N [v]) H Q) :
    codeAny (model P w) A (.call (.ref f) ⟨[u], []⟩) (CR CX0 outer P w H s Q E0) s := by
  have lim : s.heap.NoLimit := e0.mod.nolimit.keeps fun b o e => (e0.bs b o e).1
  obtain ⟨⟨oc, vs, tq, hoc, hdc, hvc⟩, _, _⟩ := e0.hok c' _ hco
  refine PySem.W.kla_callFunE hr.depth hf rfl S.co S.gen rfl ⟨c', oc, vs, tq, rfl, hoc, hdc, hvc⟩ ?_
  rw [hb]
  have hkind : ∀ y ∈ [(x, u)], scope.names.lookup y.1 = some .local ∨ (scope.names.lookup y.1 = some .cell ∧ ((cellsFrom (s.heap.objs.size + 1) scope.names []).lookup y.1).isSome = true) := fun y hy => by
    rw [List.mem_singleton.mp hy]
    rcases S.par x List.mem_cons_self with h | h
    · exact .inl h
    · exact .inr ⟨h, PySem.W.cellsFrom_some _ _ _ (.inl h)⟩
  refine wpAny_pure (wpAny_newFunctionEnv_cells S.kind hkind fun env he s1 xc => ?_)
  subst he
  refine ⟨lim.keeps xc.toInCall.keep, ?_⟩
  have I : Inv (cxOf CX0 P w K mg base N q scope f (.ref c') A outer s H E0) [] (L2.start N [v]) H s1 := inv_start (us := [u]) S hr.hd e0 rfl (.cons rv .nil) xc
  refine PySem.W.kla_codeExpr (wpAny_mono (((hbody (hr.deeper _)).nox).run [] s1 (L2.start N [v]) H Q I hq) (fun v' s' hs => ?_) fun e s' hs => hs)
  obtain ⟨w', H', J, rv', q'⟩ := hs
  exact ⟨w', H', J.os, J.bare, J.base, J.hok, rv', q'⟩
end Rep
namespace Rep
open PySem PySem.W PySem.Spec PyProof.Rows L2
section
variable {X : Cx} {pins : List (Addr × Obj)} {σ : L2.St} {H H2 : Hp} {s s0 : Shared}
theorem no_frame (I : Inv X pins σ H s) {f : Addr} (hf : s.heap.objs.size ≤ f) : f ∉ frs X.stack := fun z => by
  rcases List.mem_cons.mp (I.stkSub _ z) with e | e
  · have h1 := I.lt
    rw [← e] at h1
    exact Nat.lt_irrefl _ (Nat.lt_of_lt_of_le h1 hf)
  · exact I.nofs hf e
theorem relV_int {a : V} {i : Int} {t : Tok} (h : RelV a (.int i t)) : a = .int i := by
  cases a with
  | int j => obtain ⟨t', e⟩ := h; cases e; rfl
  | non => cases h
  | bl b => cases h
  | str x => obtain ⟨_, e⟩ := h; cases e
  | byt x => obtain ⟨_, e⟩ := h; cases e
  | flt x => obtain ⟨_, e⟩ := h; cases e
  | ref x => cases h
  | ty x => cases h
/-- H' is H2 and, besides, tuples -/
structure Grown (H2 H' : Hp) : Prop where
  all : ∀ b o, H2 b = some o → H' b = some o
  new : ∀ b o, H2 b = none → H' b = some o → ∃ xs, o = .tup xs
theorem Grown.refl (H : Hp) : Grown H H := ⟨fun _ _ h => h, fun b o h h' => by rw [h] at h'; cases h'⟩
theorem Grown.tup {H2 H' : Hp} (g : Grown H2 H') {p : Addr} {xs : List V} (n : H' p = none) : Grown H2 (upd H' p (.tup xs)) := by
  refine ⟨fun b o h => ?_, fun b o h h' => ?_⟩
  · have h1 := g.all b o h
    rw [upd_ne (ne_of_none h1 n)]
    exact h1
  · by_cases e : b = p
    · subst e
      rw [upd_same] at h'
      exact ⟨xs, (Option.some.inj h').symm⟩
    · rw [upd_ne e] at h'
      exact g.new b o h h'
/-- what stays while max asks for its keys -/
structure Asks (X : Cx) (pins : List (Addr × Obj)) (σ : L2.St) (H2 : Hp) (f I S : Addr) (fo : Obj) (s : Shared) : Prop where
  ex : ∃ H', Inv X pins σ H' s ∧ Grown H2 H' ∧ H' I = none ∧ H' S = none ∧ H' f = none
  fn : s.heap.get? f = some fo
/-- the key of an item, as it lies on the heap -/
def KeyAt (H2 : Hp) (S I : Addr) (k : Int × Int) (v : Value) (s : Shared) : Prop := ∃ (t : Addr) (o : Obj) (n : Nat) (t1 t2 : Tok), v = .ref t ∧ H2 t = none ∧ t ∉ [S, I] ∧ s.heap.get? t = some o ∧ o.cls = .type "tuple" ∧ o.data = .seq #[.int k.1 t1, .int k.2 t2] n
theorem KeyAt.reads {S I : Addr} {k : Int × Int} {v : Value} (h : KeyAt H2 S I k v s) : Reads s.heap v (.tuple [.int k.1, .int k.2]) [] := by
  obtain ⟨t, o, n, t1, t2, rfl, _, _, e, c, d⟩ := h
  exact .tuple (as := []) e c d (.cons (.int _ _) (.cons (.int _ _) .nil))
end
/-- max(xs, key=lambda x: body), xs locked: the keys are pairs of ints -/
theorem key_run {X : Cx} {pins : List (Addr × Obj)} {σ : L2.St} {H2 : Hp} {s0 : Shared} {l f c' : Addr} {lo : Obj} {ys : List V} {vs : Array Value} {q x : Str} {params : Arguments} {body : Expr} {scope : Scope} {pm ctv : Value} {N : List Str} {k : Nat} {t : TE} {kk : V → Int × Int}
    (I0 : Inv X pins σ H2 s0) (hl : H2 l = some (.frz lo (.lst ys))) (hv : Vals ys vs.toList) (Sc : FnScope N [x] scope) (hf : s0.heap.get? f = some (PySem.W.kla_obj "<lambda>" q params body scope [] pm c' ctv)) (hfn : H2 f = none) (hfr : f ∉ frs X.stack) (hco : H2 c' = some (LamX.CodeO c' q)) (hr : Room (k + 2) X.A)
    (hb : ∀ u : Value, bindArgs (PySem.W.kla_fn "<lambda>" q params body scope [] pm (.ref c') ctv) ⟨[u], []⟩ = pure [(x, u)])
    (hbody : ∀ (A : Around) (outer : List Env) (s : Shared) (H : Hp) (g : Addr) (cd : Value), Room k (A.deeper (envOfC q scope s.heap.objs.size g cd)) → PE (cxOf CX0 X.prog X.w X.K X.mg X.base N q scope g cd A outer s H E0).nox body t)
    (hq : ∀ y ∈ ys, ∀ (H' : Hp) (Q : VK), Grown H2 H' → (∀ p, H' p = none → Q (.ref p) (upd H' p (.tup [.int (kk y).1, .int (kk y).2]))) → t (L2.start N [y]) H' Q)
    (hS : s0.heap.objs.size + 1 = S) :
    KeyRun X.prog X.w X.A.in1 (.ref f) .Gt S [s0.heap.objs.size] (fun a b => b = a) vs.size (fun i v => vs[i]? = some v) (fun i s' => s'.heap.IsListIter s0.heap.objs.size l i ∧ s'.heap.IsList l vs)
      (Asks X pins σ H2 f s0.heap.objs.size S (PySem.W.kla_obj "<lambda>" q params body scope [] pm c' ctv)) (fun i v s' => KeyAt H2 S s0.heap.objs.size (kk (ys.getD i .non)) v s')
      (fun i j => dataLt (.tuple [.int (kk (ys.getD j .non)).1, .int (kk (ys.getD j .non)).2]) (.tuple [.int (kk (ys.getD i .non)).1, .int (kk (ys.getD i .non)).2])) := by
  have fI : f ≠ s0.heap.objs.size := Nat.ne_of_lt (Heap.lt_size hf)
  have fS : f ≠ S := Nat.ne_of_lt (by rw [← hS]; exact Nat.lt_succ_of_lt (Heap.lt_size hf))
  have iS : s0.heap.objs.size ≠ S := by rw [← hS]; exact Nat.ne_of_lt (Nat.lt_succ_self _)
  have hSge : s0.heap.objs.size ≤ S := by rw [← hS]; exact Nat.le_succ _
  refine ⟨fun s s' J m => ?_, fun i v s s' V m => ?_, fun i v s o Q E hi hP J st hSo hQ => ?_, fun i j ki kj s Q E J Vi Vj h => ?_⟩
  · obtain ⟨⟨H', I, g, n1, n2, n3⟩, fn⟩ := J
    have fn' := m.heap f _ (by simp [fI, fS]) fn
    refine ⟨⟨H', ?_, g, n1, n2, n3⟩, fn'⟩
    have I' := I.turnedL (t' := s'.toks) (h' := s'.heap) (ch := [S, s0.heap.objs.size]) (fun b o hb e => m.heap b o hb e) (fun b hb => by
      rcases List.mem_cons.mp hb with rfl | hb
      · exact I0.fpOk hSge n2
      · rw [List.mem_singleton.mp hb]; exact I0.fpOk (Nat.le_refl _) n1)
    have es : s' = { s with heap := s'.heap, toks := s'.toks } := by
      obtain ⟨a1, a2, a3, a4, a5⟩ := s'
      have g1 : a2 = s.gens := m.gens
      have g2 : a3 = s.drawn := m.drawn
      have g3 := m.os
      simp only at g3
      subst g1 g2 g3
      rfl
    rw [es]
    exact I'
  · obtain ⟨t', o, n, t1, t2, e, a1, a2, a3, a4, a5⟩ := V
    exact ⟨t', o, n, t1, t2, e, a1, a2, m.heap t' o (by simpa using a2) a3, a4, a5⟩
  · obtain ⟨⟨H', I, g, n1, n2, n3⟩, fn⟩ := J
    -- the item
    have hvi : vs.toList[i]? = some v := by rw [Array.getElem?_toList]; exact hP
    have hyl : i < ys.length := by
      rw [hv.length]
      exact (List.getElem?_eq_some_iff.mp hvi).1
    obtain ⟨u, hu, ru⟩ := hv.get (List.getElem?_eq_getElem hyl)
    rw [hvi] at hu
    cases hu
    have eg : ys.getD i .non = ys[i] := by rw [List.getD_eq_getElem?_getD, List.getElem?_eq_getElem hyl]; rfl
    have r1 : Room (k + 1) X.A.in1 := hr.in1
    have rc := lam1_run (P := X.prog) (w := X.w) (K := X.K) (mg := X.mg) (base := X.base) (A := X.A.in1) (outer := X.stack) (s := s) (H := H') (k := k) (Q := fun w' H'' => ∃ p, w' = .ref p ∧ H' p = none ∧ H'' = upd H' p (.tup [.int (kk ys[i]).1, .int (kk ys[i]).2])) Sc fn (g.all _ _ hco) r1 I.env0.in1 (hb v) ru (fun hr' => hbody _ _ _ _ _ _ hr') (hq _ (List.getElem_mem hyl) H' _ g fun p np => ⟨p, rfl, np, rfl⟩)
    refine wpAny_call (codeAny_mono rc fun r s' hr' => ?_)
    cases r with
    | error e => exact (show False from hr').elim
    | ok fl =>
      cases fl with
      | next => exact (show False from hr').elim
      | brk => exact (show False from hr').elim
      | cont => exact (show False from hr').elim
      | ret w' =>
        obtain ⟨y', H'', os, bare, un, hok, rw', p, rfl, np, rfl⟩ := hr'
        obtain rfl : w' = Value.ref p := rw'
        have I' : Inv X pins σ (upd H' p (.tup [.int (kk ys[i]).1, .int (kk ys[i]).2])) s' := by
          obtain ⟨hh, gg, d, tt, os'⟩ := s'
          obtain rfl : os' = s.os := os
          exact I.call (h' := hh) (g' := gg) (d' := d) (t' := tt) (ch := []) un hok bare (fun b z => absurd z (by simp))
        have kS := un.keep S o hSo n2 (no_frame I0 hSge) (by simp)
        have kf := un.keep f _ fn n3 hfr (by simp)
        have pS : p ≠ S := fun e => by
          have := un.free S o hSo n2 (by simp)
          rw [← e, upd_same] at this
          cases this
        obtain ⟨⟨oi, ei, ci, di⟩, hls⟩ := st
        have kI := un.keep _ oi ei n1 (no_frame I0 (Nat.le_refl _)) (by simp)
        have pI : p ≠ s0.heap.objs.size := fun e => by
          have := un.free _ oi ei n1 (by simp)
          rw [← e, upd_same] at this
          cases this
        have pf : p ≠ f := fun e => by
          have := un.free f _ fn n3 (by simp)
          rw [← e, upd_same] at this
          cases this
        have p2 : H2 p = none := by
          cases h2 : H2 p with
          | none => rfl
          | some o2 => rw [g.all _ _ h2] at np; cases np
        have nu : ∀ b, b ≠ p → H' b = none → upd H' p (.tup [.int (kk ys[i]).1, .int (kk ys[i]).2]) b = none := fun b hb hn => by rw [upd_ne hb]; exact hn
        -- the list is the very object that it was
        have l1 : s.heap.get? l = some lo := (I.hok l _ (g.all _ _ hl)).1
        have l2' : upd H' p (.tup [.int (kk ys[i]).1, .int (kk ys[i]).2]) l = some (.frz lo (.lst ys)) := by rw [upd_ne (ne_of_none (g.all _ _ hl) np)]; exact g.all _ _ hl
        have l2 : s'.heap.get? l = some lo := (hok l _ l2').1
        have hls' : s'.heap.IsList l vs := by
          obtain ⟨ol, el, cl, nl, dl⟩ := hls
          rw [l1] at el
          cases el
          exact ⟨lo, l2, cl, nl, dl⟩
        refine hQ (.ref p) s' ⟨⟨_, I', g.tup np, nu _ pI.symm n1, nu _ pS.symm n2, nu _ pf.symm n3⟩, kf⟩ ⟨⟨oi, kI, ci, di⟩, hls'⟩ kS ?_ (fun j k' V => ?_)
        · -- the new key
          obtain ⟨_, its, rits, ot, eo, co, nt, dt⟩ := hok p _ upd_same
          obtain ⟨u1, u2, rfl, q1, q2⟩ := vals2 rits
          obtain ⟨t1, rfl⟩ := q1
          obtain ⟨t2, rfl⟩ := q2
          rw [eg]
          exact ⟨p, ot, nt, t1, t2, rfl, p2, by simp [pS, pI], eo, co, dt⟩
        · obtain ⟨t', o', n', t1, t2, e1, a1, a2, a3, a4, a5⟩ := V
          cases ht : H' t' with
          | none =>
            obtain ⟨sl, e2⟩ := un.any a3 ht (by simp)
            exact ⟨t', _, n', t1, t2, e1, a1, a2, e2, a4, a5⟩
          | some ob =>
            obtain ⟨xs, rfl⟩ := g.new _ _ a1 ht
            obtain ⟨_, its, rits, ot, eo, co, nt, dt⟩ := I.hok t' _ ht
            rw [a3] at eo
            cases eo
            rw [a5] at dt
            have ed : its.toArray = #[.int (kk (ys.getD j .non)).1 t1, .int (kk (ys.getD j .non)).2 t2] := by
              injection dt with d1 d2
              exact d1.symm
            have ei' : its = [.int (kk (ys.getD j .non)).1 t1, .int (kk (ys.getD j .non)).2 t2] := by
              have := congrArg Array.toList ed
              simpa using this
            subst ei'
            have t3 := un.tups _ _ ht
            obtain ⟨_, its2, rits2, ot2, eo2, co2, nt2, dt2⟩ := hok t' _ t3
            cases rits with
            | cons b1 rr =>
              cases rr with
              | cons b2' rr2 =>
                cases rr2
                have x1 := relV_int b1
                have x2 := relV_int b2'
                subst x1 x2
                obtain ⟨u1, u2, rfl, q1, q2⟩ := vals2 rits2
                obtain ⟨t5, rfl⟩ := q1
                obtain ⟨t6, rfl⟩ := q2
                exact ⟨t', ot2, nt2, t5, t6, e1, a1, a2, eo2, co2, dt2⟩
  · have r1 := Vi.reads
    have r2 := Vj.reads
    obtain ⟨⟨H', I, _⟩, _⟩ := J
    exact rcGt_alike _ _ X.A.in1 s ki kj _ _ r1 r2 rfl (by intro z; cases z) (by
      have := hr.un
      show X.A.units + 1 + min 1 1 < cLine
      omega) X.prog X.w E Q h
end Rep
namespace Rep
open PySem PySem.W PySem.Spec PyProof.Rows L2
def kD (k : Int × Int) : PyData := .tuple [.int k.1, .int k.2]
/-- the place of the first item whose key is the greatest -/
def topAt (kk : V → Int × Int) (ys : List V) : Nat := argBest (fun i j => dataLt (.tuple [.int (kk (ys.getD j .non)).1, .int (kk (ys.getD j .non)).2]) (.tuple [.int (kk (ys.getD i .non)).1, .int (kk (ys.getD i .non)).2])) (ys.length - 1)
def rMaxLam (T : List (Addr × Str)) (N : List Str) (t : TE) (Q : VK) (vs : List V) (H1 : Hp) : Prop := ∃ (l : Addr) (ys : List V) (kk : V → Int × Int), vs = [.ref l] ∧ H1 l = some (.lst ys) ∧ ys ≠ [] ∧ LamX.Tabs T H1 ∧
  (∀ y ∈ ys, ∀ (H' : Hp) (Q' : VK), (∀ b xs, H1 b = some (.tup xs) → H' b = some (.tup xs)) → (∀ p, H' p = none → Q' (.ref p) (upd H' p (.tup [.int (kk y).1, .int (kk y).2]))) → t (L2.start N [y]) H' Q') ∧
  ∀ H3 y, LamX.ExtN H1 H3 → LamX.Tabs T H3 → ys[topAt kk ys]? = some y → Q y H3
def tMaxLam (T : List (Addr × Str)) (N : List Str) (t : TE) (ta : TA) : TE := fun σ H Q => ta σ H (rMaxLam T N t Q)
theorem pe_maxLam {X : Cx} {T : List (Addr × Str)} {c P : Addr} {k : Nat} {x : Str} {params : Arguments} {body : Expr} {scope : Scope} {lpos p pos kpos : Pos} {e : Expr} {t : TE} {ta : TA} {N : List Str}
    (hg : Gl X "max") (hm : X.mg "max" = none) (ha : PA X [e] ta) (TB : LamX.TabB X.base X.mg c P) (hcode : X.env.code = .ref c) (hmT : (P, X.env.qual ++ "<lambda>") ∈ T) (hu : ∀ p ∈ T, p.1 = P → p.2 = X.env.qual ++ "<lambda>")
    (hdef : defaultsOf params X.env = ([], [])) (hnf : ∀ y ∈ scope.names, y.2 ≠ .free) (hclo : cloFrom X.env.cells scope.names [] = []) (hr : Room (k + 2) X.A) (Sc : FnScope N [x] scope)
    (hb : ∀ (q : Str) (pm cv ctv u : Value), bindArgs (kla_fn "<lambda>" q params body scope [] pm cv ctv) ⟨[u], []⟩ = pure [(x, u)])
    (hbody : ∀ (A : Around) (outer : List Env) (s : Shared) (H : Hp) (g : Addr) (cd : Value), Room k (A.deeper (envOfC (X.env.qual ++ "<lambda>") scope s.heap.objs.size g cd)) → PE (cxOf CX0 X.prog X.w X.K X.mg X.base N (X.env.qual ++ "<lambda>") scope g cd A outer s H E0).nox body t)
    (hs : backTo pos (starEach [e] X.env) = (false, eval e X.env) :: backTo pos (starEach [] X.env) := by rfl) (hpl : (backTo pos (starEach [e] X.env)).any (·.1) = false := by rfl) :
    PE X (.Call (.Name "max" p) [e] [⟨some "key", .Lambda params body scope lpos, kpos⟩] pos) (tMaxLam T N t ta) := by
  refine ⟨fun pins s σ H Q I h => ?_⟩
  refine wpAny_Call_Name_kw (ld_blt I hg hm (show bootBuiltins "max" = some (.builtin "max") by decide +kernel) ?_)
  refine PyProof.Rows.callWith_kw (thn (ha.run pos pins s σ H (rMaxLam T N t Q) I h) fun us s1 ⟨vs, H1, I1, r1, q1⟩ => ?_) hs hpl
  obtain ⟨l, ys, kk, rfl, hl, hne, hT, hk, hfin⟩ := q1
  obtain rfl := Vals.ref1 r1
  show wpAny _ _ (evalAll ((do let v ← eval (.Lambda params body scope lpos) X.env; standAt pos; pure v) :: [])) _ _ s1
  refine wpAny_evalAll_cons (wpAny_bind (LamX.lam_make2 I1 TB hcode hmT hu hT hdef (fun y hy e => absurd e (hnf y hy)) fun f c' pm ctv H2 s2 I2 eN T2 hf hfn hfr hco => wpAny_bind (wpAny_standAt (wpAny_pure ?_))))
  refine wpAny_evalAll_nil ?_
  rw [hclo] at hf
  have hl2 : H2 l = some (.lst ys) := eN l _ hl (fun ps z => by cases z)
  obtain ⟨od, I3⟩ := I2.lock hl2 trivial
  have nfl : f ≠ l := fun z => by rw [z, hl2] at hfn; cases hfn
  have ncl : c' ≠ l := fun z => by rw [z, hl2] at hco; unfold LamX.CodeO at hco; cases hco
  have hl3 : upd H2 l (.frz od (.lst ys)) l = some (.frz od (.lst ys)) := upd_same
  obtain ⟨_, _, its, n, rv, el⟩ := I3.hok l _ hl3
  have hlt : its.length = ys.length := rv.length.symm
  have hn0 : 0 < ys.length := List.length_pos_iff.mpr hne
  have hf3 : upd H2 l (.frz od (.lst ys)) f = none := by rw [upd_ne nfl]; exact hfn
  have hco3 : upd H2 l (.frz od (.lst ys)) c' = some (LamX.CodeO c' (X.env.qual ++ "<lambda>")) := by rw [upd_ne ncl]; exact hco
  have hh : X.A.in1.handled = none := hr.hd
  have tups : ∀ b xs, H1 b = some (.tup xs) → upd H2 l (.frz od (.lst ys)) b = some (.tup xs) := fun b xs hx => by
    have hb2 : H2 b = some (.tup xs) := eN b _ hx (fun ps z => by cases z)
    rw [upd_ne (ne_of hb2 hl2 (by intro z; cases z))]
    exact hb2
  refine call_max_walkK (PySem.W.iter_listW (A := X.A.in1) (vs := its.toArray) hh ⟨_, el, rfl, n, rfl⟩ fun s₃ e3 W st hfp hw hkp => ?_)
  have hsz : s₃.heap.objs.size = s2.heap.objs.size + 1 := by rw [e3]; exact Heap.size_push _ _
  have KR := key_run (S := s₃.heap.objs.size) (vs := its.toArray) (kk := kk) I3 hl3 (by simpa using rv) Sc hf hf3 hfr hco3 hr (fun u => hb _ _ _ _ u) hbody (fun y hy H' Q' g hq => hk y hy H' Q' (fun b xs hx => g.all _ _ (tups b xs hx)) hq) hsz.symm
  · have I4 : Inv X pins σ (upd H2 l (.frz od (.lst ys))) s₃ := by
      rw [e3]
      exact I3.kept (t' := s2.toks) (h' := s2.heap.push _) fun b o q => Heap.get?_push_of_some _ q
    refine ⟨_, _, _, _, _, _, _, _, _, _, rfl, W, st, hfp, by rw [List.size_toArray, hlt]; exact hn0, KR, ⟨⟨_, I4, Grown.refl _, I3.hok.fresh (Nat.le_refl _), I3.hok.fresh (by rw [hsz]; exact Nat.le_succ _), hf3⟩, hkp f _ hf⟩, fun v s4 hP hJ => ?_⟩
    obtain ⟨⟨H4, I5, g, _, _, _⟩, _⟩ := hJ
    have hl4 := g.all _ _ hl3
    have I6 := I5.unlock hl4 (I2.nofrz hl2 trivial)
    have same : ∀ b o, H2 b = some o → upd H4 l (.lst ys) b = some o := fun b o q => by
      by_cases c1 : b = l
      · subst c1; rw [upd_same, ← hl2]; exact q
      · rw [upd_ne c1]
        exact g.all _ _ (by rw [upd_ne c1]; exact q)
    have hP' : its[topAt kk ys]? = some v := by
      have e5 : its.toArray.size - 1 = ys.length - 1 := by rw [List.size_toArray, hlt]
      rw [e5, List.getElem?_toArray] at hP
      exact hP
    have hti : topAt kk ys < ys.length := by
      rw [← hlt]
      exact (List.getElem?_eq_some_iff.mp hP').1
    obtain ⟨u, hu', ru⟩ := rv.get (List.getElem?_eq_getElem hti)
    rw [hP'] at hu'
    cases hu'
    refine ⟨ys[topAt kk ys], _, I6, ru, hfin _ _ (fun b o q n => same b o (eN b o q n)) (T2.ext same) (List.getElem?_eq_getElem hti)⟩
end Rep
/-! what is walked and taken apart while an exception is handled -/
namespace RepHot
open PySem PySem.Spec PyProof.Rows L2 L2H HotX
section
variable {prog : Program} {w : World} {A : Around} {E : Value → Shared → Prop} {s : Shared}
def Kp (h h' : Heap) : Prop := ∀ b o, h.get? b = some o → h'.get? b = some o
theorem HotAt.kp {x : Addr} {h h' : Heap} (t : HotAt A x h) (k : ∀ o, h.get? x = some o → h'.get? x = some o) : HotAt A x h' := by
  obtain ⟨a, o, vs, e, d, c⟩ := t
  exact ⟨a, o, vs, k _ e, d, c⟩
/-- a new StopIteration -/
theorem stop_made {x : Addr} {Q : Value → Shared → Prop} (t : HotAt A x s.heap)
    (q : ∀ h' e oe vs, Kp s.heap h' → h'.get? e = some oe → oe.cls = .type "StopIteration" → oe.data = .fields vs → 2 < vs.size → x ≠ e → HotAt A x h' → (∀ b o, s.heap.get? b = some o → b ≠ e) → Q (.ref e) { s with heap := h' }) : wpAny (model prog w) A (newExc (.type "StopIteration") []) Q E s := by
  simp only [newExc, newTuple]
  refine wpAny_bind (wpAny_newObj_type ?_ (by size_fits))
  refine wpAny_bind (m := firstArgMember _ _) (wpAny_of_eq (a := Value.none) (by first | rfl | (simp only [firstArgMember]; rfl)) ?_)
  refine wpAny_newObj_type ?_ (by size_fits)
  obtain ⟨ah, ox, vx, zx, dx, cx⟩ := t
  exact q _ _ _ _ (fun b o z => Heap.get?_push_of_some _ (Heap.get?_push_of_some _ z)) (Heap.get?_push_size _ rfl) rfl rfl (by first | (simp; done) | (simp; omega) | (simp only [Array.size_append]; simp; omega)) (Nat.ne_of_lt (Heap.lt_size (Heap.get?_push_of_some _ zx))) ⟨ah, ox, vx, Heap.get?_push_of_some _ (Heap.get?_push_of_some _ zx), dx, cx⟩ (fun b o z => Nat.ne_of_lt (Heap.lt_size (Heap.get?_push_of_some _ z)))
/-- and raised -/
theorem stop_raised {α : Type} {x e : Addr} {oe : Obj} {vs : Array Value} {Q : α → Shared → Prop} (t : HotAt A x s.heap) (n : x ≠ e) (g : s.heap.get? e = some oe) (c : oe.cls = .type "StopIteration") (d : oe.data = .fields vs) (l : 2 < vs.size)
    (q : ∀ h', (∀ b o, b ≠ e → s.heap.get? b = some o → h'.get? b = some o) → (∃ o, h'.get? e = some o ∧ o.cls = .type "StopIteration") → E (.ref e) { s with heap := h' }) : wpAny (model prog w) A (raiseNew (.ref e) : Sem α) Q E s := by
  refine raiseNew_hot t n g d l (q _ (fun b o nb z => ?_) ⟨_, Heap.get?_update_self _ g (Obj.isFreed_of_fields (Obj.data_mapFields d _)), (Obj.cls_mapFields ..).trans c⟩)
  rw [Heap.get?_update_other _ _ nb.symm]; exact z
/-- a tuple's iterator at its end -/
theorem tup_end {it t x : Addr} {i : Nat} {items : Array Value} {Q : Option Value → Shared → Prop} (hot : HotAt A x s.heap) (nx : x ≠ it) (hit : IsTupIter s.heap it t i) (ht : IsTup s.heap t items) (no : items[i]? = none)
    (q : ∀ h', Heap.ExtBut it s.heap h' → Q none { s with heap := h' }) : wpAny (model prog w) A (pyNext (.ref it)) Q E s := by
  obtain ⟨o1, g1, _, d1⟩ := id hit
  obtain ⟨o2, g2, _, _, d2⟩ := ht
  unfold pyNext
  refine wpAny_bind (wpAny_attempt (wpAny_callSpecial?_slot (name := Str.ofString "__next__") hit.typeIs slot_tupleiter_next (wpAny_call_entry slot_tupleiter_next hit.typeIs entry_tupleiter_next ?_ (args_tupleiter_next _))))
  show wpAny _ _ (field (.ref it) 0 >>= _) _ _ s
  refine wpAny_bind (wpAny_field g1 d1 (x := .ref t) rfl ?_)
  show wpAny _ _ (if (Value.ref t == Value.none) = true then _ else _) _ _ s
  rw [if_neg (fun z : (Value.ref t == Value.none) = true => Bool.false_ne_true z)]
  show wpAny _ _ (field (.ref it) 1 >>= _) _ _ s
  refine wpAny_bind (wpAny_field g1 d1 (x := .int i 0) rfl ?_)
  show wpAny _ _ (seqItems? (.ref t) >>= _) _ _ s
  refine wpAny_bind (wpAny_seqItems g2 d2 ?_)
  simp only [Int.toNat_natCast, no]
  refine wpAny_bind (wpAny_rule (wpAny_bind (wpAny_setField g1 d1 (by simp) ?_)))
  show wpAny _ _ (newExc (.type "StopIteration") [] >>= _) _ _ _
  have ext := (Heap.SameBut.update s.heap it (Obj.mapFields (·.setIfInBounds 0 Value.none))).extBut
  refine wpAny_bind (stop_made (HotAt.kp hot fun o z => ext _ _ nx z) fun h1 e oe vs kp g c d l ne hot1 old => ?_)
  refine stop_raised hot1 ne g c d l fun h2 k2 he => ?_
  obtain ⟨o, ho, hc⟩ := he
  refine wpAny_bind (wpAny_isInstance (T := "StopIteration") (b := true) ⟨o, ho, hc⟩ isSubtype_stop ?_)
  refine wpAny_pure (q _ fun b o nb z => ?_)
  exact k2 b o (old b o (ext b o nb z)) (kp b o (ext b o nb z))
/-- a list's iterator at its end, within zip -/
theorem list_end {it t x : Addr} {i : Nat} {items : Array Value} {Q : Value → Shared → Prop} (hot : HotAt A x s.heap) (nx : x ≠ it) (hit : s.heap.IsListIter it t i) (ht : s.heap.IsList t items) (no : items[i]? = none)
    (q : ∀ h' e, Heap.ExtBut it s.heap h' → (∃ o, h'.get? e = some o ∧ o.cls = .type "StopIteration") → E (.ref e) { s with heap := h' }) : wpAny (model prog w) A (Builtin.SmallTypes.nextOf (.ref it)) Q E s := by
  obtain ⟨o1, g1, _, d1⟩ := id hit
  obtain ⟨o2, g2, _, _, d2⟩ := ht
  unfold Builtin.SmallTypes.nextOf
  refine wpAny_bind (wpAny_callSpecial?_slot (name := Str.ofString "__next__") hit.typeIs slot_listiter_next (wpAny_call_entry slot_listiter_next hit.typeIs entry_listiter_next ?_ (args_listiter_next _)))
  show wpAny _ _ (field (.ref it) 0 >>= _) _ _ s
  refine wpAny_bind (wpAny_field g1 d1 (x := .ref t) rfl ?_)
  show wpAny _ _ (if (Value.ref t == Value.none) = true then _ else _) _ _ s
  rw [if_neg (fun z : (Value.ref t == Value.none) = true => Bool.false_ne_true z)]
  show wpAny _ _ (field (.ref it) 1 >>= _) _ _ s
  refine wpAny_bind (wpAny_field g1 d1 (x := .int i 0) rfl ?_)
  show wpAny _ _ (seqItems? (.ref t) >>= _) _ _ s
  refine wpAny_bind (wpAny_seqItems g2 d2 ?_)
  simp only [Int.toNat_natCast, no]
  refine wpAny_bind (wpAny_rule (wpAny_bind (wpAny_setField g1 d1 (by simp) ?_)))
  show wpAny _ _ (newExc (.type "StopIteration") [] >>= _) _ _ _
  have ext := (Heap.SameBut.update s.heap it (Obj.mapFields (·.setIfInBounds 0 Value.none))).extBut
  refine wpAny_bind (stop_made (HotAt.kp hot fun o z => ext _ _ nx z) fun h1 e oe vs kp g c d l ne hot1 old => ?_)
  exact stop_raised hot1 ne g c d l fun h2 k2 he => q _ _ (fun b o nb z => k2 b o (old b o (ext b o nb z)) (kp b o (ext b o nb z))) he
/-- a tuple of so many, taken apart -/
theorem apart_tuple {env : Env} {elts : List Expr} {kk} {pos : Pos} {t x : Addr} {items : Array Value} {Q : Unit → Shared → Prop} (hot : HotAt A x s.heap) (ht : IsTup s.heap t items) (hn : (assignEach elts env).length = items.size) (hst : (assignEach elts env).findIdx? (·.1) = none)
    (q : ∀ h', Heap.ExtBut s.heap.objs.size s.heap h' → wpAny (model prog w) A (assignInOrder ((assignEach elts env).map (·.2)) items.toList) Q E { s with heap := h' }) : wpAny (model prog w) A (assign (.Tuple elts kk pos) env (.ref t)) Q E s := by
  have ne : t ≠ s.heap.objs.size := by obtain ⟨o, z, _⟩ := ht; exact Nat.ne_of_lt (Heap.lt_size z)
  have nx : x ≠ s.heap.objs.size := by obtain ⟨_, o, _, z, _⟩ := hot; exact Nat.ne_of_lt (Heap.lt_size z)
  rw [assign_Tuple]
  refine wpAny_bind (wpAny_standAt ?_)
  unfold unpack
  rw [hn, hst]
  refine wpAny_bind (wpAny_holding ?_)
  unfold unpackItems notIterableAtAll
  refine wpAny_bind (wpAny_bind (wpAny_specialOf ht.typeIs slot_tuple_iter.lookup (wpAny_pure ?_)))
  simp only [Bool.false_eq_true, if_false]
  refine wpAny_bind (wpAny_holding (iter_tuple ht ?_))
  refine wpAny_bind (wpAny_holding (draw_tuple ne items.size 0 _ _ ⟨_, Heap.get?_push_size _ rfl, rfl, rfl⟩ (ht.push _) (by omega) fun h1 it1 s1 => ?_))
  rw [show List.take items.size (List.drop 0 items.toList) = items.toList by rw [List.drop_zero]; exact List.take_of_length_le (by simp), if_neg (by simp)]
  have hot1 : HotAt A x h1 := HotAt.kp hot fun o z => s1.extBut _ _ nx (Heap.get?_push_of_some _ z)
  refine wpAny_bind (wpAny_holding (tup_end hot1 nx it1 ((ht.push _).extBut s1.extBut ne) (by simp) fun h2 e2 => ?_))
  simp only [Option.isSome_none, Bool.false_eq_true, if_false]
  exact wpAny_pure (q h2 fun b o nb z => e2 b o nb (s1.extBut b o nb (Heap.get?_push_of_some _ z)))
/-- zip of two lists at its end -/
theorem zip_end0 {z TI TO i1 i2 l1 l2 x : Addr} {k1 k2 : Nat} {xs ys : Array Value} {a b : Value} {Q : Fin → Shared → Prop} (hot : HotAt A x s.heap) (nz : x ≠ z) (nO : x ≠ TO) (n1 : x ≠ i1) (n2 : x ≠ i2) (D : ZipApart z TI TO i1 i2 l1 l2)
    (hz : IsZip s.heap z TI TO .none) (hTI : IsPair s.heap TI (.ref i1) (.ref i2)) (hTO : IsPair s.heap TO a b) (h1 : s.heap.IsListIter i1 l1 k1) (h2 : s.heap.IsListIter i2 l2 k2) (hl1 : s.heap.IsList l1 xs) (hl2 : s.heap.IsList l2 ys) (no : xs[k1]? = none ∨ ys[k2]? = none)
    (fin : ∀ (h' : Heap) (e : Addr), (∀ c o, c ≠ z → c ≠ TO → c ≠ i1 → c ≠ i2 → s.heap.get? c = some o → h'.get? c = some o) → (∃ o, h'.get? e = some o ∧ o.cls = .type "StopIteration") → E (.ref e) { s with heap := h' }) : wpAny (model prog w) A (Builtin.«zip.__next__» ⟨[.ref z], []⟩) Q E s := by
  show wpAny _ _ (field (.ref z) 2 >>= _) _ _ _
  refine wpAny_bind (wpAny_field hz rfl (x := .bool false) rfl ?_)
  show wpAny _ _ (field (.ref z) 3 >>= _) _ _ _
  refine wpAny_bind (wpAny_field hz rfl (x := .ref TI) rfl (wpAny_bind (wpAny_seqItems hTI rfl ?_)))
  show wpAny _ _ (Builtin.SmallTypes.ownedTupleIsFree (.ref z) >>= _) _ _ _
  unfold Builtin.SmallTypes.ownedTupleIsFree
  refine wpAny_bind (wpAny_bind (wpAny_field hz rfl (x := .none) rfl (wpAny_pure ?_)))
  simp only [if_true]
  refine wpAny_bind (wpAny_rule (wpAny_bind (wpAny_field hz rfl (x := .ref TO) rfl ?_)))
  refine wpAny_bind (wpAny_setField_rec hz (by simp) fun g1 zz1 e1 => ?_)
  replace zz1 : IsZip g1 z TI TO .ellipsis := zz1
  have hot1 : HotAt A x g1 := HotAt.kp hot fun o v => e1.extBut _ _ nz v
  refine wpAny_bind ?_
  simp only [List.zipIdx_cons, List.zipIdx_nil, List.forIn_cons, List.forIn_nil]
  refine wpAny_bind (wpAny_bind (wpAny_onRaise ?_))
  show wpAny _ _ (Builtin.SmallTypes.nextOf (.ref i1) >>= _) _ _ _
  cases hx : xs[k1]? with
  | none =>
    refine wpAny_bind (list_end hot1 n1 (h1.extBut e1.extBut D.i1z) (hl1.extBut e1.extBut D.l1z) hx fun g2 e e2 he => ?_)
    obtain ⟨oe, ge, ce⟩ := he
    have zz2 : IsZip g2 z TI TO .ellipsis := e2 _ _ D.i1z.symm zz1
    have ez : e ≠ z := fun v => by subst v; rw [zz2] at ge; cases ge; simp at ce
    exact wpAny_setField_rec zz2 (by simp) fun g3 _ e3 => fin g3 e (fun c o c1 _ c3 _ v => e3.extBut _ _ c1 (e2 _ _ c3 (e1.extBut _ _ c1 v))) ⟨oe, e3.extBut _ _ ez ge, ce⟩
  | some v1 =>
    have hy : ys[k2]? = none := no.resolve_left (by rw [hx]; simp)
    refine wpAny_bind (wpAny_nextOf_list_item (h1.extBut e1.extBut D.i1z) (hl1.extBut e1.extBut D.l1z) hx fun g2 _ e2 => wpAny_pure ?_)
    have pO : IsPair g2 TO a b := e2.extBut _ _ D.TOi1 (e1.extBut _ _ D.TOz hTO)
    refine wpAny_bind (wpAny_seqItems pO rfl (wpAny_bind (wpAny_updateSeq_pair pO fun g3 _ e3 => ?_)))
    have hot3 : HotAt A x g3 := HotAt.kp hot1 fun o v => e3.extBut _ _ nO (e2.extBut _ _ n1 v)
    refine wpAny_bind (wpAny_letGo (wpAny_pure (wpAny_bind (wpAny_bind (wpAny_onRaise ?_)))))
    show wpAny _ _ (Builtin.SmallTypes.nextOf (.ref i2) >>= _) _ _ _
    refine wpAny_bind (list_end hot3 n2 (((h2.extBut e1.extBut D.i2z).extBut e2.extBut D.i12.symm).extBut e3.extBut D.TOi2.symm) (((hl2.extBut e1.extBut D.l2z).extBut e2.extBut D.l2i1).extBut e3.extBut D.l2TO) hy fun g4 e e4 he => ?_)
    obtain ⟨oe, ge, ce⟩ := he
    have zz4 : IsZip g4 z TI TO .ellipsis := e4 _ _ D.i2z.symm (e3.extBut _ _ D.TOz.symm (e2.extBut _ _ D.i1z.symm zz1))
    have ez : e ≠ z := fun v => by subst v; rw [zz4] at ge; cases ge; simp at ce
    exact wpAny_setField_rec zz4 (by simp) fun g5 _ e5 => fin g5 e (fun c o c1 c2 c3 c4 v => e5.extBut _ _ c1 (e4 _ _ c4 (e3.extBut _ _ c2 (e2.extBut _ _ c3 (e1.extBut _ _ c1 v))))) ⟨oe, e5.extBut _ _ ez ge, ce⟩
theorem zip_end {z TI TO i1 i2 l1 l2 x : Addr} {k1 k2 : Nat} {xs ys : Array Value} {a b : Value} {Q : Option Value → Shared → Prop} (hot : HotAt A x s.heap) (nz : x ≠ z) (nO : x ≠ TO) (n1 : x ≠ i1) (n2 : x ≠ i2) (D : ZipApart z TI TO i1 i2 l1 l2)
    (hz : IsZip s.heap z TI TO .none) (hTI : IsPair s.heap TI (.ref i1) (.ref i2)) (hTO : IsPair s.heap TO a b) (h1 : s.heap.IsListIter i1 l1 k1) (h2 : s.heap.IsListIter i2 l2 k2) (hl1 : s.heap.IsList l1 xs) (hl2 : s.heap.IsList l2 ys) (no : xs[k1]? = none ∨ ys[k2]? = none)
    (q : ∀ h', (∀ c o, c ≠ z → c ≠ TO → c ≠ i1 → c ≠ i2 → s.heap.get? c = some o → h'.get? c = some o) → Q none { s with heap := h' }) : wpAny (model prog w) A (pyNext (.ref z)) Q E s := by
  have hT : s.TypeIs (.ref z) "zip" := ⟨_, hz, rfl⟩
  unfold pyNext
  refine wpAny_bind (wpAny_attempt (wpAny_callSpecial?_slot (name := Str.ofString "__next__") hT F.slot_zip_next (wpAny_call_entry F.slot_zip_next hT F.entry_zip_next (zip_end0 hot nz nO n1 n2 D hz hTI hTO h1 h2 hl1 hl2 no fun h' e kp he => ?_) (F.args_zip_next_1 _))))
  obtain ⟨o, ho, hc⟩ := he
  exact wpAny_bind (wpAny_isInstance (T := "StopIteration") (b := true) ⟨o, ho, hc⟩ isSubtype_stop (wpAny_pure (q _ kp)))
end
end RepHot
/-! rules for an except suite's callee -/
namespace RepHot
open PySem PySem.Spec PyProof.Rows L2 L2H HotX
abbrev St := L2.St
section
variable {X : Cx}
theorem pg_tupP {es : List Expr} {k : Nat} {t : TGs} {n : Nat} {pos : Pos} (hc : HotC X) (h : PGs X es t) (hn : (assignEach es X.env).length = n := by rfl) (hst : (assignEach es X.env).findIdx? (·.1) = none := by rfl) : PG X (.Tuple es k pos) (gTup X.K n t) := by
  refine ⟨fun ps s σ H v u Q I r hw => ?_⟩
  obtain ⟨a, xs, rfl, hq, hl, hw⟩ := hw
  cases r
  obtain ⟨vals, rel, tp, _⟩ := I.tuple hq
  obtain ⟨x, hot⟩ := hc.at I
  refine apart_tuple hot tp (by simp [hn, ← hl, rel.length]) hst fun h' ext => ?_
  have I' : Inv X ps σ H { s with heap := h' } := I.kept (t' := s.toks) fun b o z => ext b o (Nat.ne_of_lt (Heap.lt_size z)) z
  exact h.run ps _ σ H xs _ Q I' (by simpa using rel) hw
end
theorem five {c z TI TO i1 i2 : Addr} (h : c ∈ [z, TI, TO, i1, i2]) : c = z ∨ c = TI ∨ c = TO ∨ c = i1 ∨ c = i2 := by simpa using h
theorem turn_zipP {P : Program} {w : World} {K : PySem.W.Frag} {elts : List Expr} {kk : Nat} {tpos : Pos} {a b z TI TO i1 i2 : Addr} (D : ZipApart z TI TO i1 i2 a b) :
    TurnH P w K (.Tuple elts kk tpos) (Itz K a b) [z, TI, TO, i1, i2] z (fun i h => IsZip h z TI TO .none ∧ IsPair h TI (.ref i1) (.ref i2) ∧ (∃ x y, IsPair h TO x y) ∧ h.IsListIter i1 a i ∧ h.IsListIter i2 b i) where
  mem := (turn_zip (P := P) (w := w) (K := K) (elts := elts) (kk := kk) (tpos := tpos) D).mem
  obj := (turn_zip (P := P) (w := w) (K := K) (elts := elts) (kk := kk) (tpos := tpos) D).obj
  keep := (turn_zip (P := P) (w := w) (K := K) (elts := elts) (kk := kk) (tpos := tpos) D).keep
  item := by
    intro X eP ew eK _ i ps s σ H E I fr stt go
    subst eP ew eK
    obtain ⟨sz, sI, ⟨q1, q2, sO⟩, s1, s2⟩ := stt
    obtain ⟨xs, ys, v1, v2, lx, ly, gx, gy⟩ := go
    obtain ⟨us, ru, pu, _⟩ := I.list lx
    obtain ⟨ws, rw', pw, _⟩ := I.list ly
    obtain ⟨u, hu, vu⟩ := ru.get gx
    obtain ⟨u', hu', vu'⟩ := rw'.get gy
    have lz : z < s.heap.objs.size := Heap.lt_size sz
    refine wpAny_pyNext_zip_item D sz sI sO s1 s2 pu.isList pw.isList (x := u) (y := u') (by simpa using hu) (by simpa using hu') fun g zz pO n1 n2 pT _ kp => ⟨_, rfl, wpAny_letOwnedTupleGo_zip (s := { s with heap := g }) zz fun g' zz' sb => ?_⟩
    have pT' : g'.get? s.heap.objs.size = some { cls := .type "tuple", data := .seq #[u, u'] } := (sb.2 _ (Nat.ne_of_gt lz)).trans pT
    have ok : ObjOk X.prog X.w (upd H s.heap.objs.size (.tup [v1, v2])) g' s.heap.objs.size (.tup [v1, v2]) := ⟨by show 2 ≤ sizeLine; decide, [u, u'], .cons vu (.cons vu' .nil), ⟨_, pT', rfl, _, rfl⟩⟩
    have I' : Inv X ps σ (upd H s.heap.objs.size (.tup [v1, v2])) { s with heap := g' } := I.turnedNew (t' := s.toks) (ch := [z, TI, TO, i1, i2]) (fun c o hb q => (sb.2 c (fun e => hb (by simp [e]))).trans (kp c o (fun e => hb (by simp [e])) (fun e => hb (by simp [e])) (fun e => hb (by simp [e])) (fun e => hb (by simp [e])) q)) fr (Nat.le_refl _) ok
    have eqx : ∀ l, SqL X.K H a l → l[i]? = some v1 := fun l hl => by rw [I.list_inj hl lx]; exact gx
    have eqy : ∀ l, SqL X.K H b l → l[i]? = some v2 := fun l hl => by rw [I.list_inj hl ly]; exact gy
    refine ⟨.ref s.heap.objs.size, _, I', rfl, ⟨_, v1, v2, rfl, I.hok.fresh (Nat.le_refl _), rfl, eqx, eqy⟩, ⟨zz', (sb.2 _ D.TIz).trans (kp _ _ D.TIz D.TITO D.TIi1 D.TIi2 sI), ⟨u, u', (sb.2 _ D.TOz).trans pO⟩, n1.at fun o q => (sb.2 _ D.i1z).trans q, n2.at fun o q => (sb.2 _ D.i2z).trans q⟩, fun c hc => ?_⟩
    have lt : c < s.heap.objs.size := by
      rcases five hc with e | e | e | e | e
      · rw [e]; exact lz
      · rw [e]; exact Heap.lt_size sI
      · rw [e]; exact Heap.lt_size sO
      · rw [e]; obtain ⟨_, e1, _⟩ := s1; exact Heap.lt_size e1
      · rw [e]; obtain ⟨_, e2, _⟩ := s2; exact Heap.lt_size e2
    rw [upd_ne (Nat.ne_of_lt lt)]
    exact (fr c hc).1
  done := by
    intro X eP ew eK hot i ps s σ H E I fr stt stop
    subst eP ew eK
    obtain ⟨sz, sI, ⟨q1, q2, sO⟩, s1, s2⟩ := stt
    obtain ⟨xs, ys, lx, ly, no⟩ := stop
    obtain ⟨us, ru, pu, _⟩ := I.list lx
    obtain ⟨ws, rw', pw, _⟩ := I.list ly
    have e1 := ru.length
    have e2 := rw'.length
    obtain ⟨p, ⟨hh, vp, dp, cp⟩, hp⟩ := hot
    have np : ∀ c, c ∈ [z, TI, TO, i1, i2] → p.1 ≠ c := fun c hc => (fr c hc).2.2.2.2.2 p (List.mem_append_left _ hp)
    have hA : HotAt X.A p.1 s.heap := ⟨hh, p.2, vp, (I.pin p (List.mem_append_left _ hp)).1, dp, cp⟩
    have no' : us.toArray[i]? = none ∨ ws.toArray[i]? = none := no.imp (fun q => by simp; omega) (fun q => by simp; omega)
    exact zip_end hA (np z (by simp)) (np TO (by simp)) (np i1 (by simp)) (np i2 (by simp)) D sz sI sO s1 s2 pu.isList pw.isList no' fun g kp => ⟨rfl, I.turnedL (t' := s.toks) (ch := [z, TI, TO, i1, i2]) (fun c o hb q => kp c o (fun e => hb (by simp [e])) (fun e => hb (by simp [e])) (fun e => hb (by simp [e])) (fun e => hb (by simp [e])) q) fr⟩
  self := (turn_zip (P := P) (w := w) (K := K) (elts := elts) (kk := kk) (tpos := tpos) D).self
theorem pi_zipP {X : Cx} {e e2 : Expr} {ta : TA} {p pos tpos : Pos} {elts : List Expr} {kk : Nat} (hg : Gl X "zip") (hm : X.mg "zip" = none) (ha : PA X [e, e2] ta) (hs : starEach [e, e2] X.env = (false, eval e X.env) :: starEach [e2] X.env := by rfl) (hpl : (backTo pos (starEach [e2] X.env)).any (·.1) = false := by rfl) :
    PIH X (.Tuple elts kk tpos) (.Call (.Name "zip" p) [e, e2] [] pos) (iZip X.K ta) := by
  refine ⟨fun ps s σ H R I h => Call_ (ld_blt I hg hm PyProof.Rows.boot_zip (PyProof.Rows.callWith_type1 (thn (ha.run pos ps s σ H _ I h) fun us s1 ⟨vs, H1, I1, r1, q1⟩ => ?_) hs hpl))⟩
  obtain ⟨a, b, xs, ys, ev, lx, ly, q⟩ := q1
  subst ev
  cases r1 with
  | cons ra rr =>
    cases rr with
    | cons rb rr =>
      cases rr
      cases ra
      cases rb
      obtain ⟨_, _, pa, _⟩ := I1.list lx
      obtain ⟨_, _, pb, _⟩ := I1.list ly
      refine call_zip_2 pa.isList pb.isList fun g hz hI hO h1 h2 _ kp => wpAny_pyIter_zip hz ?_
      refine ⟨s1.heap.objs.size + 4, [s1.heap.objs.size + 4, s1.heap.objs.size + 2, s1.heap.objs.size + 3, s1.heap.objs.size, s1.heap.objs.size + 1], _, _, H1, rfl, I1.kept (t' := s1.toks) kp, turn_zipP (PySem.W.ktu_apart s1.heap.objs.size a b pa.lt pb.lt), ⟨hz, hI, ⟨_, _, hO⟩, h1, h2⟩, fun c hc => ?_, q⟩
      have le : s1.heap.objs.size ≤ c := by
        rcases five hc with e | e | e | e | e
        · rw [e]; exact Nat.le_add_right ..
        · rw [e]; exact Nat.le_add_right ..
        · rw [e]; exact Nat.le_add_right ..
        · rw [e]; exact Nat.le_refl _
        · rw [e]; exact Nat.le_add_right ..
      exact I1.fpOk le (I1.hok.fresh le)
/-! the comprehension: as the layer's own, the handled exception stays pinned in its block -/
abbrev blkP (X : Cx) (s : Shared) (H : Hp) (scope : Scope) (ce : Env) (fp : List Addr) (p : Addr × Obj) : Cx := { X.blk s H scope ce fp with pn := [p] }
section
variable {X : Cx}
theorem inv_pin {s0 : Shared} {H0 : Hp} {scope : Scope} {ce : Env} {fp : List Addr} {p : Addr × Obj} {σ : St} {H : Hp} {s : Shared} (I : Inv (X.blk s0 H0 scope ce fp) [] σ H s) (h : s.heap.get? p.1 = some p.2 ∧ H p.1 = none ∧ p.1 ≠ ce.locals ∧ p.1 ∉ frs X.stack ∧ ∀ v, p.2.data ≠ .cell v) : Inv (blkP X s0 H0 scope ce fp p) [] σ H s :=
  ⟨⟨I.ok.mod, I.ok.kind, I.ok.glob, I.ok.blt, I.ok.above, I.ok.inj, I.ok.has, I.ok.cab, I.ok.hd, I.ok.frames, I.ok.stk, I.ok.exf, I.ok.bs, I.ok.bsz, I.ok.noex, I.ok.exfs, I.ok.funs, I.ok.frf⟩, I.os, I.bare, I.base, I.loc, I.cell, I.free, I.freeC, fun q hq => by
    have e : q = p := by simpa using hq
    rw [e]; exact h, I.hok, I.len⟩
theorem pe_lcP {elt tg iter : Expr} {ifs : List Expr} {scope : Scope} {own : List (Str × Nat)} {pos : Pos} {wi : TI} {g : TG} {tt : TT} {te : TE} {p : Addr × Obj} (hot : Hot1 X.A p) (hp : p ∈ X.pn) (hN : X.N.Nodup) (hi : PIH X tg iter wi) (ok : BlkOk X.N X.env.scope scope own)
    (hg : ∀ (s : Shared) (H : Hp) (C : Addr) (cl : List (Str × Addr)) (fp : List Addr), PG (blkP X s H scope (compEnvC scope cl C X.env) fp p) tg g) (ht : ∀ (s : Shared) (H : Hp) (C : Addr) (cl : List (Str × Addr)) (fp : List Addr), PTs (blkP X s H scope (compEnvC scope cl C X.env) fp p) ifs tt)
    (he : ∀ (s : Shared) (H : Hp) (C : Addr) (cl : List (Str × Addr)) (fp : List Addr), PE (blkP X s H scope (compEnvC scope cl C X.env) fp p) elt te) (hs : ∀ x, foldedSetIterable iter X.env x = pure x := by intro _; rfl) : PE X (.ListComp elt [⟨tg, iter, ifs, 0⟩] scope pos) (tLc wi g tt te (own.map (·.2))) := by
  refine ⟨fun ps s σ H Q I h => ?_⟩
  rw [eval_ListComp]
  have hfr : ∀ y ∈ scope.names, y.2 = .free → ∃ c, X.env.cells.lookup y.1 = some c := fun y hy e => I.ok.has _ (ok.free y hy e)
  refine wpAny_comprehension_free (use := none) rfl hs (closure_ok hfr) ok.kind (fun y hy e => by rw [ok.uniq y hy, e]) (thn (hi.run ps s σ H _ I h) fun xv s1 hx => thn hx fun itv s2 h2 => ?_)
  obtain ⟨it, fp, tn, J, H2, e, I2, T, t2, f2, q⟩ := h2
  subst e
  refine wpAny_newObj_type (newEnv_comp ?_) (by show 0 ≤ sizeLine; decide)
  generalize eD : s2.heap.objs.size = D
  have nD : H2 D = none := I2.hok.fresh (Nat.le_of_eq eD)
  obtain ⟨W, ⟨m0, w0⟩, turn⟩ := q D nD
  generalize e3 : ({ s2 with heap := s2.heap.push { cls := .type "list", data := .seq ([] : List Value).toArray } } : Shared) = s3
  have h3 : s3.heap = s2.heap.push { cls := .type "list", data := .seq ([] : List Value).toArray } := by rw [← e3]
  have I3 : Inv X ps σ (upd H2 D (.lst [])) s3 := by
    rw [← e3]
    refine I2.laid (t' := s2.toks) (fun b o z => Heap.get?_push_of_some _ z) (Nat.le_of_eq eD) ⟨Nat.zero_le _, [], 0, .nil, ?_⟩
    rw [← eD]; exact Heap.get?_push_size _ rfl
  have lt2 : ∀ b ∈ fp, b < s2.heap.objs.size := fun b hb => by
    obtain ⟨o, z, _⟩ := T.obj _ _ t2 b hb
    exact Heap.lt_size z
  have f3 : ∀ b ∈ fp, FpOk X ps (upd H2 D (.lst [])) b ∧ b < s3.heap.objs.size := fun b hb => by
    refine ⟨⟨?_, (f2 b hb).2⟩, by rw [h3, Heap.size_push]; exact Nat.lt_succ_of_lt (lt2 b hb)⟩
    rw [upd_ne (by rw [← eD]; exact Nat.ne_of_lt (lt2 b hb))]
    exact (f2 b hb).1
  have t3 : tn 0 s3.heap := T.keep _ _ _ t2 fun b _ o z => by rw [h3]; exact Heap.get?_push_of_some _ z
  have I4 := block_start I3 ok hN f3
  have kg := hg s3 (upd H2 D (.lst [])) s3.heap.objs.size (cellsFrom (s3.heap.objs.size + 1) scope.names (cloFrom X.env.cells scope.names [])) fp
  have kt := ht s3 (upd H2 D (.lst [])) s3.heap.objs.size (cellsFrom (s3.heap.objs.size + 1) scope.names (cloFrom X.env.cells scope.names [])) fp
  have ke := he s3 (upd H2 D (.lst [])) s3.heap.objs.size (cellsFrom (s3.heap.objs.size + 1) scope.names (cloFrom X.env.cells scope.names [])) fp
  have n3 : ∀ b ∈ fp, (upd H2 D (.lst [])) b = none := fun b hb => (f3 b hb).1.1
  have P3 := I3.pin p (List.mem_append_left _ hp)
  have pst : p.1 ∉ frs X.stack := fun hm => (List.mem_cons.mp (I3.stkSub p.1 hm)).elim P3.2.2.1 P3.2.2.2.1
  show codeAny _ _ (.compStart (.ListComp elt [⟨tg, iter, ifs, 0⟩] scope pos) 0 (.ref it) (.ref D) (compEnvC scope (cellsFrom (s3.heap.objs.size + 1) scope.names (cloFrom X.env.cells scope.names [])) s3.heap.objs.size X.env)) (compPost (model X.prog X.w) X.A X.xe none (EP X ps σ Q) (.ref D) s3.heap.objs.size) { s3 with heap := pushCells (s3.heap.push { cls := .type "dict", data := .dict #[] }) scope.names }
  generalize hce : compEnvC scope (cellsFrom (s3.heap.objs.size + 1) scope.names (cloFrom X.env.cells scope.names [])) s3.heap.objs.size X.env = ce at I4 kg kt ke ⊢
  have cL : ce.locals = s3.heap.objs.size := by subst hce; rfl
  generalize hH3 : upd H2 D (.lst []) = H3 at I3 I4 kg kt ke w0 n3 f3 P3
  generalize hs4 : ({ s3 with heap := pushCells (s3.heap.push { cls := .type "dict", data := .dict #[] }) scope.names } : Shared) = s4 at I4 ⊢
  have kp4 : ∀ b o, s3.heap.get? b = some o → s4.heap.get? b = some o := fun b o z => by rw [← hs4]; exact pushCells_keeps _ _ _ _ (Heap.get?_push_of_some _ z)
  have t4 : tn 0 s4.heap := T.keep _ _ _ t3 fun b _ o z => kp4 b o z
  have J4 := inv_pin (p := p) I4 ⟨kp4 _ _ P3.1, P3.2.1, (by rw [cL]; exact Nat.ne_of_lt (Heap.lt_size P3.1)), pst, P3.2.2.2.2⟩
  have hc : HotC (blkP X s3 H3 scope ce fp p) := ⟨p, hot, List.mem_singleton.mpr rfl⟩
  have npf : ∀ b ∈ fp, p.1 ≠ b := fun b hb => (f3 b hb).1.2.2.2.2.2 p (List.mem_append_left _ hp)
  have stat : ∀ {σ' : St} {H' : Hp} {s' : Shared}, Inv (blkP X s3 H3 scope ce fp p) [] σ' H' s' → (∀ b ∈ fp, H' b = none) → ∀ b ∈ fp, FpOk (blkP X s3 H3 scope ce fp p) [] H' b := fun {σ' H' s'} K' hn b hb =>
    ⟨hn b hb, (K'.ok.exf b hb).1, K'.ok.exfs b hb, .inl hb, fun x c z => (K'.ok.exf b hb).2 x c z, fun q hq => by
      have e : q = p := by simpa using hq
      rw [e]; exact npf b hb⟩
  have loop : codeAny (model X.prog X.w) X.A (.compLoop (.ListComp elt [⟨tg, iter, ifs, 0⟩] scope pos) 0 (.ref it) (.ref D) ce) (compPost (model X.prog X.w) X.A X.xe none (EP X ps σ Q) (.ref D) s3.heap.objs.size) s4 := by
    refine compLoop_any (fun n s' => ∃ i H', Inv (blkP X s3 H3 scope ce fp p) [] (wipe σ (own.map (·.2))) H' s' ∧ tn i s'.heap ∧ (∀ b ∈ fp, H' b = none) ∧ W i n H') ?_ m0 ⟨0, H3, J4, t4, n3, w0⟩
    rintro n s5 ⟨i, H5, I5, t5, n5, w5⟩
    rcases turn i n H5 w5 with ⟨stop, qq⟩ | ⟨go, Nx, hNx, step⟩
    · refine thnF (T.done (blkP X s3 H3 scope ce fp p) rfl rfl rfl hc i [] s5 _ H5 (fun _ _ => False) I5 (stat I5 n5) t5 stop) fun r s6 ⟨hr, I6⟩ => ?_
      subst hr
      have I7 : Inv X ps σ H5 s6 := I3.call' (ch := fp) I6.os I6.base I6.hok I6.bare fun b hb => ⟨(f3 b hb).1.2.2.2.1, (f3 b hb).1.2.1, (f3 b hb).1.2.2.2.2.1, (f3 b hb).1.2.2.2.2.2⟩
      have nC : H5 s3.heap.objs.size = none := by
        have z : H5 ce.locals = none := I6.free
        rwa [cL] at z
      obtain ⟨m, hm, _⟩ := I6.loc
      have hm : s6.heap.Ns ce.locals m := hm
      rw [cL] at hm
      obtain ⟨f0, f1, _, f3', f4, f5⟩ := I3.fpOk (b := s3.heap.objs.size) (Nat.le_refl _) nC
      exact ⟨m, hm, fun h'' sb => ⟨.ref D, H5, I7.turned (t' := s6.toks) (fun b o hb z => (sb.2 b hb).trans z) f0 f1 f3' f4 f5, rfl, qq⟩⟩
    · refine thnF (T.item (blkP X s3 H3 scope ce fp p) rfl rfl rfl hc i [] s5 _ H5 (fun _ _ => False) I5 (stat I5 n5) t5 go) fun r s6 ⟨u, hr, h6⟩ => ?_
      subst hr
      refine thnF h6 fun _ s7 ⟨x, H7, I7, r7, y7, t7, n7⟩ => ?_
      refine thnF (kg.run _ s7 _ H7 x u _ (I7.pinned (stat I7 n7) (T.obj _ _ t7)) r7 (step x H7 y7)) fun _ s8 ⟨σ8, H8, I8, hw8, q8⟩ => ?_
      refine thnF (kt.run _ s8 σ8 H8 _ I8 q8) fun b s9 ⟨H9, I9, q9⟩ => ?_
      have fin : ∀ {s' : Shared} {H' : Hp}, Inv (blkP X s3 H3 scope ce fp p) ([] ++ pinsAt fp s7.heap) σ8 H' s' → Nx H' → ∃ m, m < n ∧ ∃ i H', Inv (blkP X s3 H3 scope ce fp p) [] (wipe σ (own.map (·.2))) H' s' ∧ tn i s'.heap ∧ (∀ b ∈ fp, H' b = none) ∧ W i m H' := fun {s' H'} I' nx => by
        obtain ⟨m', hm, w'⟩ := hNx H' nx
        have pp : ∀ b ∈ fp, ∀ o, s7.heap.get? b = some o → s'.heap.get? b = some o ∧ H' b = none := fun b hb o z =>
          have v := I'.pin (b, o) (List.mem_append_right _ (List.mem_append_right _ (mem_pinsAt hb z)))
          ⟨v.1, v.2.1⟩
        have hl : (wipe σ (own.map (·.2))).length = σ8.length := by rw [← hw8, wipe_length]
        refine ⟨m', hm, i + 1, H', (I'.unpinned (pins := [])).weak hl (fun j v z => ?_), T.keep _ _ _ t7 fun b hb o z => (pp b hb o z).1, fun b hb => ?_, w'⟩
        · rw [← hw8] at z; exact (wipe_some z).1
        · obtain ⟨o, z, _⟩ := T.obj _ _ t7 b hb
          exact (pp b hb o z).2
      cases b with
      | false =>
        simp only [Bool.false_eq_true, if_false] at q9 ⊢
        exact fin I9 q9
      | true =>
        simp only [if_true] at q9 ⊢
        refine thnF (ke.run _ s9 σ8 H9 _ I9 q9) fun z s10 ⟨yv, H10, I10, r10, acc, hD10, hz10, nx⟩ => ?_
        exact app_ok (X := blkP X s3 H3 scope ce fp p) I10 hD10 hz10 r10 fun s11 I11 => fin I11 nx
  exact codeAny_compStart_list loop (T.self X.A 0 _ _ _ t4 loop)
end
end RepHot
/-! defs that raise; defs called with the handled exception -/
namespace RepHot
open PySem PySem.Spec PyProof.Rows L2 L2H HotX
section
variable {P : Program} {w : World} {K : PySem.W.Frag} {mg : Str → Option Value} {base : Heap}
/-- a def that may raise, its exceptions without a context -/
theorem okN {x qual : Str} {st : Stmt} {f : Addr} {fd : FuncData} {N ps : List Str} {k : Nat} {sp : Sp} (F : Fun K x qual st f fd) (S : FnScope N ps (defScope st)) (len : ∀ vs H Q E, sp vs H Q E → vs.length = ps.length)
    (hb : ∀ (cdv : Value) (A : Around) (outer : List Env) (s : Shared) (H : Hp) (vs : List V) (Q : VK) (E : XK), Room k (A.deeper (envOfC qual (defScope st) s.heap.objs.size f cdv)) → sp vs H Q E →
      ∃ t, PSs (cxOf (L2N.CX P w) P w K mg base N qual (defScope st) f cdv A outer s H E) (defBody st) t ∧ t { nx := fun _ H' => Q .non H', rt := Q } (start N vs) H) : FnOk P w K mg base (L2N.CX P w) (k + 1) f fd ps sp := by
  obtain ⟨_, _, _, _, _, _, cdv, _, _, rfl, lk, hcd⟩ := F.ex
  exact fn_of lk hcd S len fun A outer s H vs Q E hr h => hb cdv A outer s H vs Q E hr h
/-- what a def promises that is called with the exception that is handled: sp speaks of its address, its class and its dict -/
structure FnP (P : Program) (w : World) (K : PySem.W.Frag) (mg : Str → Option Value) (base : Heap) (CX : CXT) (k : Nat) (f : Addr) (fd : FuncData) (ps : List Str) (sp : Addr → Value → Option Addr → Sp) : Prop where
  len : ∀ a c d vs H Q E, sp a c d vs H Q E → vs.length = ps.length
  run : ∀ (A : Around) (outer : List Env) (s : Shared) (H : Hp) (args : Args) (us : List Value) (vs : List V) (Q : VK) (E : XK) (p : Addr × Obj) (c : Value) (d : Option Addr), RoomH k A → Hot1 A p → PinOk outer H s p → Zc c d p.2 → Env0 P w K mg base A outer s H → BindsTo s fd args (ps.zip us) → Vals vs us → sp p.1 c d vs H Q E →
    codeAny (model P w) A (.call (.ref f) args) (CR CX outer P w H s Q E) s
theorem okP {x qual : Str} {st : Stmt} {f : Addr} {fd : FuncData} {N ps : List Str} {k : Nat} {CX : CXT} {sp : Addr → Value → Option Addr → Sp} (F : Fun K x qual st f fd) (S : FnScope N ps (defScope st)) (len : ∀ a c d vs H Q E, sp a c d vs H Q E → vs.length = ps.length)
    (hb : ∀ (cdv : Value) (A : Around) (outer : List Env) (s : Shared) (H : Hp) (vs : List V) (Q : VK) (E : XK) (p : Addr × Obj) (c : Value) (d : Option Addr), Hot1 A p → Zc c d p.2 → RoomH k (A.deeper (envOfC qual (defScope st) s.heap.objs.size f cdv)) → sp p.1 c d vs H Q E →
      ∃ t, PSs (cxH CX P w K mg base N qual (defScope st) f cdv A outer s H E p) (defBody st) t ∧ t { nx := fun _ H' => Q .non H', rt := Q } (L2.start N vs) H) : FnP P w K mg base CX (k + 1) f fd ps sp := by
  obtain ⟨_, _, _, _, _, _, cdv, _, _, rfl, lk, hcd⟩ := F.ex
  refine ⟨len, fun A outer s H args us vs Q E p c d hr hot hpin hz e0 bt r h => ?_⟩
  have kin : K.In s.heap := e0.mod.kin.keeps fun b o z => (e0.bs b o z).1
  have nol : s.heap.NoLimit := e0.mod.nolimit.keeps fun b o z => (e0.bs b o z).1
  have hk : ∀ y ∈ ps.zip us, (defScope st).names.lookup y.1 = some .local ∨ ((defScope st).names.lookup y.1 = some .cell ∧ ((cellsFrom (s.heap.objs.size + 1) (defScope st).names []).lookup y.1).isSome = true) := fun y hy =>
    (S.par y.1 (List.of_mem_zip (show (y.1, y.2) ∈ ps.zip us from hy)).1).imp id fun q => ⟨q, PySem.W.cellsFrom_some _ _ _ (.inl q)⟩
  refine codeAny_call_function hr.depth (kin _ _ lk) rfl S.co S.gen rfl (PySem.W.codeRec_of kin hcd) (bt _ _ _ _ (wpAny_newFunctionEnv_cells S.kind hk fun env he s1 x1 => ?_))
  subst he
  refine ⟨nol.keeps x1.toInCall.keep, codeAny_func ?_⟩
  obtain ⟨t, ht, hq⟩ := hb cdv A outer s H vs Q E p c d hot hz (hr.deeper _) h
  refine wpAny_mono (ht.run [] s1 (L2.start N vs) H _ (inv_startH S hpin e0 (len _ _ _ _ _ _ _ h) r x1) hq) (fun fl s' hs => ?_) fun e s' hs => hs
  cases fl with
  | ret u =>
    obtain ⟨v, σ', H', J, rv, q⟩ := hs
    exact ⟨v, H', J.os, J.bare, J.base, J.hok, rv, q⟩
  | next =>
    obtain ⟨σ', H', J, q⟩ := hs
    exact ⟨.non, H', J.os, J.bare, J.base, J.hok, rfl, q⟩
  | brk => obtain ⟨_, _, _, q⟩ := hs; exact q.elim
  | cont => obtain ⟨_, _, _, q⟩ := hs; exact q.elim
end
section
variable {X : Cx} {CX : CXT} {k : Nat} {f C : Addr} {fd : FuncData} {ps : List Str} {x m : Str} {q pos apos : Pos} {e o : Expr} {es : List Expr} {ta : TE} {t : TA}
/-- f(e, ..) where e's exception is handled -/
theorem pe_callP {sp : Addr → Value → Option Addr → Sp} {a : Addr} {oe : Obj} {c : Value} {d : Option Addr} (F : FnP X.prog X.w X.K X.mg X.base CX0 k f fd ps sp) (hr : RoomH k X.A) (hot : Hot1 X.A (a, oe)) (hp : (a, oe) ∈ X.pn) (hz : Zc c d oe) (hg : Gl X x) (hm : X.mg x = some (.ref f)) (hk : PySem.W.keepIn X.K (.ref f) = true) (hb : Binds X.K fd ps [])
    (ha : PA X (e :: es) t) (hdb : (x == ("__debug__" : Str)) = false := by decide) (he : starEach (e :: es) X.env = (false, eval e X.env) :: starEach es X.env := by rfl) (hpl : (backTo pos (starEach es X.env)).any (·.1) = false := by rfl) :
    PE X (.Call (.Name x q) (e :: es) [] pos) (tCallS (sp a c d) (fun _ _ _ _ => False) t) := by
  refine ⟨fun pins s σ H Q I h => wpAny_Call_Name_kw (ld_glob I hg hm (PySem.W.callWith_K (h₀ := X.base) I.ok.mod.kin hk (thn (ha.run pos pins s σ H _ I h) fun us s1 ⟨vs, H1, I1, r, q⟩ => ⟨I1.kIn, ?_⟩) he hpl) hdb)⟩
  have hl : us.length = ps.length := by rw [← r.length]; exact F.len _ _ _ _ _ _ _ q
  have b := hb s1 us I1.kIn (by rw [List.append_nil]; exact hl)
  rw [List.append_nil] at b
  have P1 := I1.pin (a, oe) (List.mem_append_left _ hp)
  have hpin : PinOk X.stack H1 s1 (a, oe) := ⟨P1.1, P1.2.1, fun hm => (List.mem_cons.mp (I1.stkSub a hm)).elim P1.2.2.1 P1.2.2.2.1, P1.2.2.2.2⟩
  refine wpAny_call (codeAny_mono (F.run X.A X.stack s1 H1 ⟨us, []⟩ us vs Q _ (a, oe) c d hr hot hpin hz I1.env0 b r q) fun r s' hq => ?_)
  cases r with
  | error e => exact hq.elim
  | ok fl =>
    cases fl with
    | ret u => exact I1.after hq
    | next => exact hq.elim
    | brk => exact hq.elim
    | cont => exact hq.elim
/-- o.m(e, ..) where what is raised is wished for at the caller's slots -/
def tMethN (C : Addr) (m : Str) (sp : Sp) (E : St → XK) (ta : TE) (t : TA) : TE := fun σ H Q => ta σ H fun x H1 => ∃ a dx fs, x = .ref a ∧ H1 a = some (.ins C dx fs) ∧ fs.lookup m = none ∧ t σ H1 fun vs H2 => sp (x :: vs) H2 Q (E σ)
theorem pe_methN {sp : Sp} {E : St → XK} {pl : Sem Bool} (he : PE X o ta) (c : Cls X.K C) (hm : Meth X.K C m f) (F : FnOk X.prog X.w X.K X.mg X.base CX k f fd ps sp) (hr : Room k X.A) (hb : Binds X.K fd ps []) (hx : ∀ σ, PassesAt CX X σ (E σ)) (ha : PA X (e :: es) t)
    (hst : starEach (e :: es) X.env = (false, eval e X.env) :: starEach es X.env := by rfl) (hpl : (backTo pos (starEach es X.env)).any (·.1) = false := by rfl)
    (ht : eval (.Call (.Attribute o m apos) (e :: es) [] pos) X.env = (do let ov ← eval o X.env; standAt apos.atName; let (f, first) ← holding [ov] (getMethod ov m pl); callWith pos f first (backTo pos (starEach (e :: es) X.env)) (backToKw pos (keywordEach [] X.env))) := by rfl) :
    PE X (.Call (.Attribute o m apos) (e :: es) [] pos) (tMethN C m sp E ta t) := by
  refine ⟨fun pins s σ H Q I h => PySem.W.methodCall_KW (pl := pl) (thn (he.run pins s σ H _ I h) fun u s1 ⟨x, H1, I1, rx, a, dx, fs, ex, ea, l, q⟩ => ?_) ht⟩
  subst ex
  obtain rfl : u = Value.ref a := rx
  refine getmeth_ok I1 ea c hm l (PySem.W.callWith_K (first := [.ref a]) (h₀ := X.base) I.ok.mod.kin hm.kp (thn (ha.run pos pins s1 σ H1 _ I1 q) fun us s2 ⟨vs, H2, I2, r, q2⟩ => ⟨I2.kIn, ?_⟩) hst hpl)
  exact run_fnS (us := .ref a :: us) (vs := .ref a :: vs) F hr hb (hx σ) I2 (.cons rfl r) q2
theorem pe_methN0 {sp : Sp} {E : St → XK} {pl : Sem Bool} (he : PE X o ta) (c : Cls X.K C) (hm : Meth X.K C m f) (F : FnOk X.prog X.w X.K X.mg X.base CX k f fd ps sp) (hr : Room k X.A) (hb : Binds X.K fd ps []) (hx : ∀ σ, PassesAt CX X σ (E σ))
    (ht : eval (.Call (.Attribute o m apos) [] [] pos) X.env = (do let ov ← eval o X.env; standAt apos.atName; let (f, first) ← holding [ov] (getMethod ov m pl); callWith pos f first (backTo pos (starEach [] X.env)) (backToKw pos (keywordEach [] X.env))) := by rfl) :
    PE X (.Call (.Attribute o m apos) [] [] pos) (tMethN C m sp E ta tNil) := by
  refine ⟨fun pins s σ H Q I h => PySem.W.methodCall_KW (pl := pl) (thn (he.run pins s σ H _ I h) fun u s1 ⟨x, H1, I1, rx, a, dx, fs, ex, ea, l, q⟩ => ?_) ht⟩
  subst ex
  obtain rfl : u = Value.ref a := rx
  refine getmeth_ok I1 ea c hm l (PySem.W.callWith_K0 I1.kIn hm.kp ?_)
  exact run_fnS (us := [.ref a]) (vs := [.ref a]) F hr hb (hx σ) I1 (.cons rfl .nil) q
/-- isinstance(e, c), e pinned -/
theorem call_isP {a D : Addr} {oe : Obj} (hp : (a, oe) ∈ X.pn) (C : ExcC X.K D) (hz : Zc (.ref D) none oe) (hf : ∃ vs, oe.data = .fields vs) : CallR X (.builtin "isinstance") (rIsE X.K D a) := by
  intro pins s σ H xs us Q I r h
  obtain ⟨c, cv, b, rfl, hcv, e, q⟩ := h
  match us, r with
  | [_, _], .cons rx (.cons rt .nil) =>
    cases rx
    obtain rfl := hcv _ rt
    obtain ⟨g, _⟩ := I.pin (a, oe) (List.mem_append_left _ hp)
    obtain ⟨vs, hv⟩ := hf
    have J : PySem.W.InstAt s.heap a oe D none := by
      obtain ⟨oc, od, oda, osl⟩ := oe
      obtain ⟨h1, h2⟩ := hz
      dsimp only at h1 h2 hv
      subst h1 h2 hv
      exact ⟨g, rfl, rfl, trivial⟩
    exact PySem.W.kia_one (PySem.W.handS_kitx_exc C.hg C.hk C.hs C.hd C.ha C.hn C.ht C.hm) I.kIn J e (fun z => nomatch z) fun tk => ⟨.bl b, H, I.kept (t' := tk) fun _ _ z => z, rfl, q⟩
/-- the suite's own exception -/
theorem hot_of {a : Addr} {oe : Obj} {c : Value} {d : Option Addr} {pn : List (Addr × Obj)} (hz : L2N.Zn c d oe) (hf : ∃ vs, oe.data = .fields vs) : Hot1 (X.suite a ((a, oe) :: pn)).A (a, oe) := by
  obtain ⟨vs, e⟩ := hf
  exact ⟨rfl, vs, e, hz.2.2 vs e⟩
theorem room_suite {a : Addr} {pn : List (Addr × Obj)} (hr : Room k X.A) : RoomH k (X.suite a pn).A := ⟨hr.dp, hr.un⟩
theorem takesN : L2N.Takes X (fun _ _ _ _ => False) := fun _ _ x => by
  obtain ⟨_, _, _, _, _, _, _, _, _, _, _, _, _, _, _, _, z⟩ := x
  exact z.elim
end
/-- where it is not refused nothing is raised -/
theorem fn_calm {P : Program} {w : World} {K : PySem.W.Frag} {mg : Str → Option Value} {base : Heap} {k : Nat} {f : Addr} {fd : FuncData} {ps : List Str} {sp : Sp} (F : FnOk P w K mg base (L2N.CX P w) k f fd ps sp) : FnOk P w K mg base CX0 k f fd ps (fun vs H Q _ => sp vs H Q (fun _ _ _ => False)) := by
  refine ⟨fun vs H Q E h => F.len _ _ _ _ h, fun A outer s H args us vs Q E hr e0 hb r h => codeAny_mono (F.run A outer s H args us vs Q _ hr e0 hb r h) fun r s' hq => ?_⟩
  cases r with
  | error e =>
    obtain ⟨_, _, _, _, _, _, _, _, _, _, _, _, z⟩ := hq
    exact z.elim
  | ok fl =>
    cases fl with
    | ret u => exact hq
    | next => exact hq.elim
    | brk => exact hq.elim
    | cont => exact hq.elim
end RepHot
namespace Rep
open PySem L2
def topS (i : Nat) : Stmt := PySem.Challenge.pw_reprise_k24_whole_ways.main.body.getD i (.Pass ⟨0, 0, 0, 0⟩)
abbrev sBadPageInit : Stmt := inClass (topS 10) 0
abbrev sCheck_length : Stmt := topS 13
abbrev sCheck_place : Stmt := topS 14
abbrev sCheck_stretch : Stmt := topS 15
abbrev sCheck_sayings : Stmt := topS 16
abbrev sMet : Stmt := topS 18
abbrev sBeside : Stmt := topS 19
abbrev sCame_from : Stmt := topS 21
abbrev sPath : Stmt := topS 22
abbrev sLeads : Stmt := topS 23
abbrev sSame : Stmt := topS 25
abbrev s_law_lays : Stmt := topS 26
abbrev s_law_kin : Stmt := topS 27
abbrev sMix : Stmt := topS 28
abbrev sRaw : Stmt := topS 29
abbrev sDig : Stmt := topS 30
abbrev s_law_saying : Stmt := topS 31
abbrev s_law_sayings : Stmt := topS 32
abbrev s_law_crowded_song : Stmt := topS 33
abbrev s_law_heads : Stmt := topS 34
abbrev s_law_partners : Stmt := topS 35
abbrev s_law_firsts : Stmt := topS 36
abbrev s_law_alike_pairs : Stmt := topS 37
abbrev s_law_reach : Stmt := topS 38
abbrev s_law_walked : Stmt := topS 39
abbrev s_law_refused : Stmt := topS 40
abbrev sLaw : Stmt := topS 41
end Rep
namespace Rep
open PySem L2 L2H RepHot
/-! which refusal it is, by the law's own words -/
def kinWords : List Str := ["BadLength", "BadStretch", "NoPlace", "NoNumber", "BadLetter", "Full", "InUse", "NothingLeft", "BadPage", "odd"]
def kinWord (j : Nat) : Str := kinWords.getD j ""
/-- the class D is the one at place j of the nine -/
structure KinD (K : PySem.W.Frag) (cs : List Addr) (D : Addr) (j : Nat) : Prop where
  ex : ExcC K D
  lt : j < 9
  own : ∀ i c, cs[i]? = some c → PySem.W.kitOne K (.ref D) (.ref c) = some (decide (i = j))
  val : PySem.W.kitOne K (.ref D) (.type "ValueError") = some true
structure KinM (mg : Str → Option Value) (cs : List Addr) : Prop where
  ln : cs.length = 9
  at_ : ∀ i c, cs[i]? = some c → mg (kinWord i) = some (.ref c)
def spKin (K : PySem.W.Frag) (cs : List Addr) : Addr → Value → Option Addr → Sp := fun a c d vs H Q _ => ∃ (D : Addr) (j : Nat), c = .ref D ∧ d = none ∧ KinD K cs D j ∧ vs = [.ref a] ∧ ∀ H', Same H H' → Q (.str (kinWord j)) H'
abbrev nKin : List Str := ["_law_e", "_law_found", "_law_words", "_law_word", "_law_kin_here"]
theorem scKin : FnScope nKin ["_law_e"] (defScope s_law_kin) := ⟨rfl, rfl, rfl, by decide +kernel, rfl, by decide +kernel, by decide +kernel⟩
def kinFlags (j : Nat) : List Bool := (List.range 10).map fun i => decide (i = j)
section
variable {P : Program} {w : World} {K : PySem.W.Frag} {mg : Str → Option Value} {base : Heap}
theorem ok_kin {f c0 c1 c2 c3 c4 c5 c6 c7 c8 : Addr} {fd : FuncData} {k : Nat} (F : Fun K "_law_kin" "_law_kin" s_law_kin f fd) (M : KinM mg [c0, c1, c2, c3, c4, c5, c6, c7, c8]) (mi : mg "isinstance" = none) (mV : mg "ValueError" = none) (mz : mg "zip" = none) :
    FnP P w K mg base CX0 (k + 1) f fd ["_law_e"] (spKin K [c0, c1, c2, c3, c4, c5, c6, c7, c8]) := by
  refine okP F scKin (fun a c d vs H Q E h => ?_) (fun cdv A outer s H vs Q E p c d hot hz hr h => ?_)
  · obtain ⟨D, j, _, _, _, rfl, _⟩ := h; rfl
  obtain ⟨D, j, rfl, rfl, kd, rfl, q⟩ := h
  have g0 : mg "BadLength" = some (.ref c0) := M.at_ 0 c0 rfl
  have g1 : mg "BadStretch" = some (.ref c1) := M.at_ 1 c1 rfl
  have g2 : mg "NoPlace" = some (.ref c2) := M.at_ 2 c2 rfl
  have g3 : mg "NoNumber" = some (.ref c3) := M.at_ 3 c3 rfl
  have g4 : mg "BadLetter" = some (.ref c4) := M.at_ 4 c4 rfl
  have g5 : mg "Full" = some (.ref c5) := M.at_ 5 c5 rfl
  have g6 : mg "InUse" = some (.ref c6) := M.at_ 6 c6 rfl
  have g7 : mg "NothingLeft" = some (.ref c7) := M.at_ 7 c7 rfl
  have g8 : mg "BadPage" = some (.ref c8) := M.at_ 8 c8 rfl
  have hf : ∃ vs, p.2.data = .fields vs := by obtain ⟨_, vs, e, _⟩ := hot; exact ⟨vs, e⟩
  have hp : (p.1, p.2) ∈ [p] := List.mem_singleton.mpr rfl
  refine ⟨_, (pss_cons (ps_set (i := 1) scKin.nd rfl (.inl rfl) (pe_lst (pa_cons (pe_callB (call_isP hp kd.ex hz hf) (by rfl) mi PyProof.Rows.boot_isinstance (pa_cons (pv 0) (pa_cons (pe_glob (v := .ref c0) (by rfl) g0 rfl) pa_nil))) (pa_cons (pe_callB (call_isP hp kd.ex hz hf) (by rfl) mi PyProof.Rows.boot_isinstance (pa_cons (pv 0) (pa_cons (pe_glob (v := .ref c1) (by rfl) g1 rfl) pa_nil))) (pa_cons (pe_callB (call_isP hp kd.ex hz hf) (by rfl) mi PyProof.Rows.boot_isinstance (pa_cons (pv 0) (pa_cons (pe_glob (v := .ref c2) (by rfl) g2 rfl) pa_nil))) (pa_cons (pe_callB (call_isP hp kd.ex hz hf) (by rfl) mi PyProof.Rows.boot_isinstance (pa_cons (pv 0) (pa_cons (pe_glob (v := .ref c3) (by rfl) g3 rfl) pa_nil))) pa_nil))))))
    (pss_cons (ps_set (i := 1) scKin.nd rfl (.inl rfl) (pe_op op_cat (pv 1) (pe_lst (pa_cons (pe_callB (call_isP hp kd.ex hz hf) (by rfl) mi PyProof.Rows.boot_isinstance (pa_cons (pv 0) (pa_cons (pe_glob (v := .ref c4) (by rfl) g4 rfl) pa_nil))) (pa_cons (pe_callB (call_isP hp kd.ex hz hf) (by rfl) mi PyProof.Rows.boot_isinstance (pa_cons (pv 0) (pa_cons (pe_glob (v := .ref c5) (by rfl) g5 rfl) pa_nil))) (pa_cons (pe_callB (call_isP hp kd.ex hz hf) (by rfl) mi PyProof.Rows.boot_isinstance (pa_cons (pv 0) (pa_cons (pe_glob (v := .ref c6) (by rfl) g6 rfl) pa_nil))) pa_nil))))))
    (pss_cons (ps_set (i := 1) scKin.nd rfl (.inl rfl) (pe_op op_cat (pv 1) (pe_lst (pa_cons (pe_callB (call_isP hp kd.ex hz hf) (by rfl) mi PyProof.Rows.boot_isinstance (pa_cons (pv 0) (pa_cons (pe_glob (v := .ref c7) (by rfl) g7 rfl) pa_nil))) (pa_cons (pe_callB (call_isP hp kd.ex hz hf) (by rfl) mi PyProof.Rows.boot_isinstance (pa_cons (pv 0) (pa_cons (pe_glob (v := .ref c8) (by rfl) g8 rfl) pa_nil))) (pa_cons (pe_not (pe_callB (call_isP hp kd.ex hz hf) (by rfl) mi PyProof.Rows.boot_isinstance (pa_cons (pv 0) (pa_cons (pe_bltn (v := .ty "ValueError") (by rfl) mV (by decide +kernel) rfl) pa_nil)))) pa_nil))))))
    (pss_cons (ps_set (i := 2) scKin.nd rfl (.inl rfl) (pe_lst (pa_cons pe_str (pa_cons pe_str (pa_cons pe_str (pa_cons pe_str (pa_cons pe_str (pa_cons pe_str (pa_cons pe_str (pa_cons pe_str (pa_cons pe_str pa_nil)))))))))))
    (pss_one (ps_ret (pe_join pe_str (pe_lcP (own := [("_law_word", 3), ("_law_kin_here", 4)]) (g := gTup K 2 (gCons (gName 3) (gCons (gName 4) gNil))) (tt := tTest (tVar 4)) (te := tVar 3) (p := p) hot hp scKin.nd (pi_zipP (by rfl) mz (pa_cons (pe_op op_cat (pv 2) (pe_lst (pa_cons pe_str pa_nil))) (pa_cons (pv 1) pa_nil))) (blkOk_by (N := nKin) (sc := defScope s_law_kin) (by decide +kernel)) (fun _ _ _ _ _ => pg_tupP ⟨p, hot, List.mem_singleton.mpr rfl⟩ (pgs_cons (pg_name (i := 3) scKin.nd rfl (.inl rfl)) (pgs_cons (pg_name (i := 4) scKin.nd rfl (.inl rfl)) pgs_nil))) (fun _ _ _ _ _ => pts_one (pt_val (pv 4))) (fun _ _ _ _ _ => pv 3))))))))), ?_⟩
  have o0 := kd.own 0 c0 rfl
  have o1 := kd.own 1 c1 rfl
  have o2 := kd.own 2 c2 rfl
  have o3 := kd.own 3 c3 rfl
  have o4 := kd.own 4 c4 rfl
  have o5 := kd.own 5 c5 rfl
  have o6 := kd.own 6 c6 rfl
  have o7 := kd.own 7 c7 rfl
  have o8 := kd.own 8 c8 rfl
  refine ⟨.ref p.1, rfl, .ref c0, _, _, rfl, (fun u e => e), o0, .ref p.1, rfl, .ref c1, _, _, rfl, (fun u e => e), o1, .ref p.1, rfl, .ref c2, _, _, rfl, (fun u e => e), o2, .ref p.1, rfl, .ref c3, _, _, rfl, (fun u e => e), o3, (by show 4 ≤ sizeLine; decide), fun l1 n1 => ?_⟩
  have s1 : Same H (upd H l1 (.lst [.bl (decide (0 = j)), .bl (decide (1 = j)), .bl (decide (2 = j)), .bl (decide (3 = j))])) := same_upd n1
  have z1 : (upd H l1 (.lst [.bl (decide (0 = j)), .bl (decide (1 = j)), .bl (decide (2 = j)), .bl (decide (3 = j))])) l1 = some (.lst [.bl (decide (0 = j)), .bl (decide (1 = j)), .bl (decide (2 = j)), .bl (decide (3 = j))]) := upd_same
  generalize upd H l1 (.lst [.bl (decide (0 = j)), .bl (decide (1 = j)), .bl (decide (2 = j)), .bl (decide (3 = j))]) = H1 at s1 z1 ⊢
  refine ⟨.ref l1, rfl, .ref p.1, rfl, .ref c4, _, _, rfl, (fun u e => e), o4, .ref p.1, rfl, .ref c5, _, _, rfl, (fun u e => e), o5, .ref p.1, rfl, .ref c6, _, _, rfl, (fun u e => e), o6, (by show 3 ≤ sizeLine; decide), fun l2 n2 => ?_⟩
  have s2 : Same H1 (upd H1 l2 (.lst [.bl (decide (4 = j)), .bl (decide (5 = j)), .bl (decide (6 = j))])) := same_upd n2
  have z2 : (upd H1 l2 (.lst [.bl (decide (4 = j)), .bl (decide (5 = j)), .bl (decide (6 = j))])) l2 = some (.lst [.bl (decide (4 = j)), .bl (decide (5 = j)), .bl (decide (6 = j))]) := upd_same
  generalize upd H1 l2 (.lst [.bl (decide (4 = j)), .bl (decide (5 = j)), .bl (decide (6 = j))]) = H2 at s2 z2 ⊢
  refine ⟨l1, l2, _, _, rfl, rfl, s2 _ _ z1, z2, (by show 4 + 3 ≤ sizeLine; decide), fun l3 n3 => ?_⟩
  have s3 := same_upd (o := .lst ([.bl (decide (0 = j)), .bl (decide (1 = j)), .bl (decide (2 = j)), .bl (decide (3 = j))] ++ [.bl (decide (4 = j)), .bl (decide (5 = j)), .bl (decide (6 = j))])) n3
  have z3 : (upd H2 l3 (.lst ([.bl (decide (0 = j)), .bl (decide (1 = j)), .bl (decide (2 = j)), .bl (decide (3 = j))] ++ [.bl (decide (4 = j)), .bl (decide (5 = j)), .bl (decide (6 = j))]))) l3 = some (.lst ([.bl (decide (0 = j)), .bl (decide (1 = j)), .bl (decide (2 = j)), .bl (decide (3 = j))] ++ [.bl (decide (4 = j)), .bl (decide (5 = j)), .bl (decide (6 = j))])) := upd_same
  generalize upd H2 l3 (.lst ([.bl (decide (0 = j)), .bl (decide (1 = j)), .bl (decide (2 = j)), .bl (decide (3 = j))] ++ [.bl (decide (4 = j)), .bl (decide (5 = j)), .bl (decide (6 = j))])) = H3 at s3 z3 ⊢
  refine ⟨.ref l3, rfl, .ref p.1, rfl, .ref c7, _, _, rfl, (fun u e => e), o7, .ref p.1, rfl, .ref c8, _, _, rfl, (fun u e => e), o8, .ref p.1, rfl, .ty "ValueError", .type "ValueError", true, rfl, (fun u e => e), kd.val, _, rfl, (by show 3 ≤ sizeLine; decide), fun l4 n4 => ?_⟩
  have s4 : Same H3 (upd H3 l4 (.lst [.bl (decide (7 = j)), .bl (decide (8 = j)), .bl (!true)])) := same_upd n4
  have z4 : (upd H3 l4 (.lst [.bl (decide (7 = j)), .bl (decide (8 = j)), .bl (!true)])) l4 = some (.lst [.bl (decide (7 = j)), .bl (decide (8 = j)), .bl (!true)]) := upd_same
  generalize upd H3 l4 (.lst [.bl (decide (7 = j)), .bl (decide (8 = j)), .bl (!true)]) = H4 at s4 z4 ⊢
  refine ⟨l3, l4, _, _, rfl, rfl, s4 _ _ z3, z4, (by show 7 + 3 ≤ sizeLine; decide), fun l5 n5 => ?_⟩
  have ef : ([.bl (decide (0 = j)), .bl (decide (1 = j)), .bl (decide (2 = j)), .bl (decide (3 = j))] ++ [.bl (decide (4 = j)), .bl (decide (5 = j)), .bl (decide (6 = j))]) ++ [.bl (decide (7 = j)), .bl (decide (8 = j)), .bl (!true)] = (kinFlags j).map V.bl := by
    have h9 : decide (9 = j) = false := decide_eq_false (by have := kd.lt; omega)
    show _ = [V.bl (decide (0 = j)), V.bl (decide (1 = j)), V.bl (decide (2 = j)), V.bl (decide (3 = j)), V.bl (decide (4 = j)), V.bl (decide (5 = j)), V.bl (decide (6 = j)), V.bl (decide (7 = j)), V.bl (decide (8 = j)), V.bl (decide (9 = j))]
    rw [h9]; rfl
  rw [ef]
  have s5 := same_upd (o := .lst ((kinFlags j).map V.bl)) n5
  have z5 : (upd H4 l5 (.lst ((kinFlags j).map V.bl))) l5 = some (.lst ((kinFlags j).map V.bl)) := upd_same
  generalize upd H4 l5 (.lst ((kinFlags j).map V.bl)) = H5 at s5 z5 ⊢
  refine ⟨(by show 9 ≤ sizeLine; decide), fun l6 n6 => ?_⟩
  generalize e6 : upd H5 l6 _ = H6
  have s6 : Same H5 H6 := by rw [← e6]; exact same_upd n6
  have z6 : H6 l6 = some (.lst ((kinWords.take 9).map V.str)) := by rw [← e6]; exact upd_same
  refine ⟨⟨_, rfl⟩, .ref l6, rfl, (by show 1 ≤ sizeLine; decide), fun l7 n7 => ?_⟩
  generalize e7 : upd H6 l7 _ = H7
  have s7 : Same H6 H7 := by rw [← e7]; exact same_upd n7
  have z7 : H7 l7 = some (.lst [V.str "odd"]) := by rw [← e7]; exact upd_same
  refine ⟨l6, l7, _, _, rfl, rfl, s7 _ _ z6, z7, (by show 9 + 1 ≤ sizeLine; decide), fun l8 n8 => ?_⟩
  generalize e8 : upd H7 l8 _ = H8
  have s8 : Same H7 H8 := by rw [← e8]; exact same_upd n8
  have z8 : H8 l8 = some (.lst (kinWords.map V.str)) := by rw [← e8]; exact upd_same
  have w5 : H8 l5 = some (.lst ((kinFlags j).map V.bl)) := s8 _ _ (s7 _ _ (s6 _ _ z5))
  have sAll : Same H H8 := s1.trans (s2.trans (s3.trans (s4.trans (s5.trans (s6.trans (s7.trans s8))))))
  refine ⟨.ref l5, rfl, l8, l5, kinWords.map V.str, (kinFlags j).map V.bl, rfl, .inl (.inl z8), .inl (.inl w5), fun D nD => ?_⟩
  refine lc_it (walk_zip (K := K) (a := l8) (b := l5) (xs := kinWords.map V.str) (ys := (kinFlags j).map V.bl) (n := 10) rfl) (fun i H9 => Same H8 H9 ∧ H9 D = some (.lst ((if j < i then [kinWord j] else []).map V.str))) ⟨same_upd nD, ?_⟩ (fun i H9 _ hP => ⟨.inl (.inl (hP.1 _ _ z8)), .inl (.inl (hP.1 _ _ w5))⟩) (fun i v H9 HA hi hP hy => ?_) (fun H9 hP => ?_)
  · rw [if_neg (Nat.not_lt_zero j)]; exact upd_same
  · obtain ⟨sm, eD⟩ := hP
    obtain ⟨t, u1, u2, rfl, nt, rfl, g1, g2⟩ := hy
    have g1 : (kinWords.map V.str)[i]? = some u1 := g1
    have g2 : ((kinFlags j).map V.bl)[i]? = some u2 := g2
    have e1 : u1 = .str (kinWord i) := by
      rw [List.getElem?_map] at g1
      have hi : i < kinWords.length := hi
      rw [List.getElem?_eq_getElem hi] at g1
      cases g1
      show V.str kinWords[i] = V.str (kinWords.getD i "")
      rw [List.getD_eq_getElem?_getD, List.getElem?_eq_getElem hi]; rfl
    have e2 : u2 = .bl (decide (i = j)) := by
      unfold kinFlags at g2
      rw [List.getElem?_map, List.getElem?_map, List.getElem?_range hi] at g2
      cases g2; rfl
    subst e1 e2
    have sA := same_upd (o := .tup [.str (kinWord i), .bl (decide (i = j))]) nt
    refine ⟨t, [.str (kinWord i), .bl (decide (i = j))], rfl, .inl (.inl upd_same), rfl, _, _, rfl, _, _, rfl, rfl, rfl, ?_⟩
    refine ⟨.bl (decide (i = j)), rfl, decide (i = j), rfl, ite2 (fun c => ?_) (fun c => ?_)⟩
    · have c : i = j := of_decide_eq_true c
      subst c
      rw [if_neg (Nat.lt_irrefl i)] at eD
      refine ⟨.str (kinWord i), rfl, [], sA _ _ eD, (by show 0 < sizeLine; decide), same_over (sm.trans sA) nD, ?_⟩
      rw [if_pos (Nat.lt_succ_self i)]; exact upd_same
    · have c : ¬ i = j := fun z => c (decide_eq_true z)
      refine ⟨sm.trans sA, ?_⟩
      rw [show (if j < i + 1 then [kinWord j] else []) = (if j < i then [kinWord j] else []) from by
        by_cases h : j < i
        · rw [if_pos h, if_pos (by omega)]
        · rw [if_neg h, if_neg (by omega)]]
      exact sA _ _ eD
  · obtain ⟨sm, eD⟩ := hP
    rw [if_pos (by have := kd.lt; omega)] at eD
    refine ⟨"", D, [kinWord j], rfl, rfl, .inl (.inl (.inl eD)), ?_, ?_⟩
    · have hl : ∀ j < 9, (([kinWord j] : List Str).map (·.length)).sum + ([kinWord j] : List Str).length * (("" : Str).length) ≤ 16777216 := by decide +kernel
      exact hl j kd.lt
    · exact q H9 (sAll.trans sm)
end
end Rep
namespace Rep
open PySem L2
/-! lists of things that lie as tuples -/
structure LL {α : Type} (D : Hp → V → α → Prop) (H : Hp) (vs : List V) (as : List α) : Prop where
  len : vs.length = as.length
  at_ : ∀ (i : Nat) (v : V) (a : α), vs[i]? = some v → as[i]? = some a → D H v a
section
variable {α : Type} {D : Hp → V → α → Prop} {H H' : Hp} {vs ws : List V} {as bs : List α}
theorem LL.nil : LL D H [] ([] : List α) := ⟨rfl, fun i v a h => by simp at h⟩
theorem LL.get (h : LL D H vs as) {i : Nat} {v : V} (e : vs[i]? = some v) : ∃ a, as[i]? = some a ∧ D H v a := by
  have hi : i < as.length := by rw [← h.len]; exact (List.getElem?_eq_some_iff.mp e).1
  exact ⟨as[i], List.getElem?_eq_getElem hi, h.at_ i v _ e (List.getElem?_eq_getElem hi)⟩
theorem LL.get' (h : LL D H vs as) {i : Nat} {a : α} (e : as[i]? = some a) : ∃ v, vs[i]? = some v ∧ D H v a := by
  have hi : i < vs.length := by rw [h.len]; exact (List.getElem?_eq_some_iff.mp e).1
  exact ⟨vs[i], List.getElem?_eq_getElem hi, h.at_ i _ a (List.getElem?_eq_getElem hi) e⟩
theorem LL.mem (h : LL D H vs as) {v : V} (e : v ∈ vs) : ∃ a ∈ as, D H v a := by
  obtain ⟨i, hi⟩ := List.mem_iff_getElem?.mp e
  obtain ⟨a, ha, d⟩ := h.get hi
  exact ⟨a, List.mem_of_getElem? ha, d⟩
theorem LL.imp (h : LL D H vs as) (s : ∀ v a, D H v a → D H' v a) : LL D H' vs as := ⟨h.len, fun i v a h1 h2 => s v a (h.at_ i v a h1 h2)⟩
theorem LL.app (h : LL D H vs as) (k : LL D H ws bs) : LL D H (vs ++ ws) (as ++ bs) := by
  refine ⟨by rw [List.length_append, List.length_append, h.len, k.len], fun i v a h1 h2 => ?_⟩
  by_cases c : i < vs.length
  · rw [List.getElem?_append_left c] at h1
    rw [List.getElem?_append_left (by rw [← h.len]; exact c)] at h2
    exact h.at_ i v a h1 h2
  · rw [List.getElem?_append_right (by omega)] at h1
    rw [List.getElem?_append_right (by rw [← h.len]; omega), ← h.len] at h2
    exact k.at_ _ v a h1 h2
theorem LL.one {v : V} {a : α} (h : D H v a) : LL D H [v] [a] := ⟨rfl, fun i w b h1 h2 => by
  match i, h1, h2 with
  | 0, h1, h2 => cases h1; cases h2; exact h
  | i + 1, h1, _ => simp at h1⟩
theorem LL.snoc (h : LL D H vs as) {v : V} {a : α} (k : D H v a) : LL D H (vs ++ [v]) (as ++ [a]) := h.app (.one k)
theorem LL.take (h : LL D H vs as) (n : Nat) : LL D H (vs.take n) (as.take n) := by
  refine ⟨by rw [List.length_take, List.length_take, h.len], fun i v a h1 h2 => ?_⟩
  rw [List.getElem?_take] at h1 h2
  by_cases c : i < n
  · rw [if_pos c] at h1 h2; exact h.at_ i v a h1 h2
  · rw [if_neg c] at h1; cases h1
theorem LL.erase (h : LL D H vs as) (k : Nat) : LL D H (vs.eraseIdx k) (as.eraseIdx k) := by
  refine ⟨by rw [List.length_eraseIdx, List.length_eraseIdx, h.len], fun i v a h1 h2 => ?_⟩
  rw [List.getElem?_eraseIdx] at h1 h2
  by_cases c : i < k
  · rw [if_pos c] at h1 h2; exact h.at_ i v a h1 h2
  · rw [if_neg c] at h1 h2; exact h.at_ _ v a h1 h2
theorem LL.init (h : LL D H vs as) : LL D H vs.dropLast as.dropLast := by
  rw [List.dropLast_eq_take, List.dropLast_eq_take, ← h.len]
  exact h.take _
theorem LL.rev (h : LL D H vs as) : LL D H vs.reverse as.reverse := by
  refine ⟨by rw [List.length_reverse, List.length_reverse, h.len], fun i v a h1 h2 => ?_⟩
  have hi : i < vs.length := by
    have := (List.getElem?_eq_some_iff.mp h1).1
    rw [List.length_reverse] at this
    exact this
  rw [List.getElem?_reverse hi] at h1
  rw [List.getElem?_reverse (by rw [← h.len]; exact hi), ← h.len] at h2
  exact h.at_ _ v a h1 h2
end
def IsSy (H : Hp) (v : V) (s : Sy) : Prop := ∃ t, v = .ref t ∧ H t = some (.tup [.int s.lo, .int s.hi, .int s.n, .bl s.t])
theorem IsSy.ts {H H' : Hp} (h : TS H H') {v : V} {s : Sy} (k : IsSy H v s) : IsSy H' v s := by
  obtain ⟨t, e, ht⟩ := k
  exact ⟨t, e, h _ _ ht⟩
abbrev SL (H : Hp) (vs : List V) (ss : List Sy) : Prop := LL IsSy H vs ss
theorem SL.ts {H H' : Hp} (h : TS H H') {vs : List V} {ss : List Sy} (k : SL H vs ss) : SL H' vs ss := k.imp fun _ _ z => z.ts h
theorem IsSy.of {H : Hp} {t : Addr} {s : Sy} (h : H t = some (.tup [.int s.lo, .int s.hi, .int s.n, .bl s.t])) : IsSy H (.ref t) s := ⟨t, rfl, h⟩
def q4 (s : Sy) : Int × Int × Int × Bool := (s.lo, s.hi, s.n, s.t)
def ofQ (q : Int × Int × Int × Bool) : Sy := ⟨q.1, q.2.1, q.2.2.1, q.2.2.2⟩
/-- all but tables stay -/
abbrev EX (H H' : Hp) : Prop := LamX.ExtN H H'
theorem EX.of {H H' : Hp} (h : Same H H') : EX H H' := fun b o e _ => h b o e
theorem EX.ts {H H' : Hp} (h : EX H H') : TS H H' := fun t xs e => h t _ e (fun ps z => by cases z)
theorem EX.lst {H H' : Hp} (h : EX H H') {a : Addr} {xs : List V} (e : H a = some (.lst xs)) : H' a = some (.lst xs) := h a _ e (fun ps z => by cases z)
/-! kept_form, kept_forms -/
def oS (H : Hp) (o : Option Sy) (v : V) : Prop := match o with
  | none => v = .non
  | some s => IsSy H v s
theorem oS.ts {H H' : Hp} (h : TS H H') {o : Option Sy} {v : V} (k : oS H o v) : oS H' o v := by
  cases o with
  | none => exact k
  | some s => exact IsSy.ts h k
def Good (e : Int) (s : Sy) : Prop := 0 ≤ s.lo ∧ 0 ≤ s.hi ∧ 1 ≤ s.n ∧ s.lo + s.n ≤ e ∧ s.hi + s.n ≤ e
end Rep
namespace Rep
open PySem L2
def spChkl : Sp := fun vs H Q _ => ∃ e : Int, vs = [.int e] ∧ 0 ≤ e ∧ e < 10 ^ 40 ∧ Q .non H
theorem scChkl : FnScope ["length"] ["length"] (defScope sCheck_length) := ⟨rfl, rfl, rfl, by decide +kernel, rfl, by decide +kernel, by decide +kernel⟩
def spChkp : Sp := fun vs H Q _ => ∃ e x : Int, vs = [.int e, .int x] ∧ 0 ≤ x ∧ x < e ∧ Q .non H
theorem scChkp : FnScope ["length", "place"] ["length", "place"] (defScope sCheck_place) := ⟨rfl, rfl, rfl, by decide +kernel, rfl, by decide +kernel, by decide +kernel⟩
def spChks : Sp := fun vs H Q _ => ∃ e x n : Int, vs = [.int e, .int x, .int n] ∧ 1 ≤ n ∧ 0 ≤ x ∧ x + n ≤ e ∧ Q .non H
theorem scChks : FnScope ["length", "at", "many"] ["length", "at", "many"] (defScope sCheck_stretch) := ⟨rfl, rfl, rfl, by decide +kernel, rfl, by decide +kernel, by decide +kernel⟩
def spChkss (K : PySem.W.Frag) : Sp := fun vs H Q _ => ∃ (e : Int) (a : Addr) (xs : List V) (ss : List Sy), vs = [.int e, .ref a] ∧ SqL K H a xs ∧ SL H xs ss ∧ (∀ s ∈ ss, Good e s) ∧ Q .non H
theorem scChkss : FnScope ["length", "sayings", "one", "other", "many", "turned"] ["length", "sayings"] (defScope sCheck_sayings) := ⟨rfl, rfl, rfl, by decide +kernel, rfl, by decide +kernel, by decide +kernel⟩
section
variable {P : Program} {w : World} {K : PySem.W.Frag} {mg : Str → Option Value} {base : Heap}
theorem ok_chkl {f : Addr} {fd : FuncData} {k : Nat} (F : Fun K "check_length" "check_length" sCheck_length f fd) (mT : ∃ u, mg "TOO_LONG" = some u ∧ RelV (.int (10 ^ 40)) u) : FnOk P w K mg base CX0 (k + 1) f fd ["length"] spChkl := by
  refine F.ok scChkl (fun vs H Q E h => ?_) (fun cdv A outer s H vs Q E hr h => ?_)
  · obtain ⟨e, rfl, _⟩ := h; rfl
  obtain ⟨e, rfl, h0, h1, q⟩ := h
  refine ⟨_, (pss_one (ps_if (PW.pt (pw_or (pt_cmpR op_lt (pv 0) pe_int (nomark _)) (pw_or1 (pt_cmpR op_ge (pv 0) (C8.pe_gc (by rfl) mT) (nomark _))))) (pss_one ps_never) pss_nil)), ?_⟩
  refine ⟨.int e, rfl, _, 0, rfl, rfl, _, rfl, ite2 (fun c => absurd (of_decide_eq_true c) (by omega)) (fun c => ?_)⟩
  refine ⟨.int e, rfl, _, _, rfl, rfl, _, rfl, ite2 (fun c => absurd (of_decide_eq_true c) (by omega)) (fun c => ?_)⟩
  exact q
theorem ok_chkp {f : Addr} {fd : FuncData} {k : Nat} (F : Fun K "check_place" "check_place" sCheck_place f fd) : FnOk P w K mg base CX0 (k + 1) f fd ["length", "place"] spChkp := by
  refine F.ok scChkp (fun vs H Q E h => ?_) (fun cdv A outer s H vs Q E hr h => ?_)
  · obtain ⟨e, x, rfl, _⟩ := h; rfl
  obtain ⟨e, x, rfl, h0, h1, q⟩ := h
  refine ⟨_, (pss_one (ps_if (PW.pt (pw_or (pt_cmpR op_lt (pv 1) pe_int (nomark _)) (pw_or1 (pt_cmpR op_ge (pv 1) (pv 0) (nomark _))))) (pss_one ps_never) pss_nil)), ?_⟩
  refine ⟨.int x, rfl, _, 0, rfl, rfl, _, rfl, ite2 (fun c => absurd (of_decide_eq_true c) (by omega)) (fun c => ?_)⟩
  refine ⟨.int x, rfl, .int e, rfl, _, _, rfl, rfl, _, rfl, ite2 (fun c => absurd (of_decide_eq_true c) (by omega)) (fun c => ?_)⟩
  exact q
theorem ok_chks {f : Addr} {fd : FuncData} {k : Nat} (F : Fun K "check_stretch" "check_stretch" sCheck_stretch f fd) : FnOk P w K mg base CX0 (k + 1) f fd ["length", "at", "many"] spChks := by
  refine F.ok scChks (fun vs H Q E h => ?_) (fun cdv A outer s H vs Q E hr h => ?_)
  · obtain ⟨e, x, n, rfl, _⟩ := h; rfl
  obtain ⟨e, x, n, rfl, h0, h1, h2, q⟩ := h
  refine ⟨_, (pss_one (ps_if (PW.pt (pw_or (pt_cmpR op_lt (pv 2) pe_int (nomark _)) (pw_or (pt_cmpR op_lt (pv 1) pe_int (nomark _)) (pw_or1 (pt_cmpR op_gt (pe_op op_add (pv 1) (pv 2)) (pv 0) (nomark _)))))) (pss_one ps_never) pss_nil)), ?_⟩
  refine ⟨.int n, rfl, _, 1, rfl, rfl, _, rfl, ite2 (fun c => absurd (of_decide_eq_true c) (by omega)) (fun c => ?_)⟩
  refine ⟨.int x, rfl, _, 0, rfl, rfl, _, rfl, ite2 (fun c => absurd (of_decide_eq_true c) (by omega)) (fun c => ?_)⟩
  refine ⟨.int x, rfl, .int n, rfl, _, _, rfl, rfl, .int e, rfl, _, _, rfl, rfl, _, rfl, ite2 (fun c => absurd (of_decide_eq_true c) (by omega)) (fun c => ?_)⟩
  exact q
theorem ok_chkss {f fS : Addr} {fd fdS : FuncData} {k : Nat} (F : Fun K "check_sayings" "check_sayings" sCheck_sayings f fd) (GS : FnOk P w K mg base CX0 k fS fdS ["length", "at", "many"] spChks) (kS : PySem.W.keepIn K (.ref fS) = true) (bS : Binds K fdS ["length", "at", "many"] []) (mS_ : mg "check_stretch" = some (.ref fS)) : FnOk P w K mg base CX0 (k + 1) f fd ["length", "sayings"] (spChkss K) := by
  refine F.ok scChkss (fun vs H Q E h => ?_) (fun cdv A outer s H vs Q E hr h => ?_)
  · obtain ⟨e, a, xs, ss, rfl, _⟩ := h; rfl
  obtain ⟨e, a, xs, ss, rfl, hX, sl, gd, q⟩ := h
  refine ⟨_, (pss_one (ps_for PassesOwn.never rfl (pi_list (pv 1)) (pg_tup rfl (pgs_cons (pg_name (i := 2) scChkss.nd rfl (.inl rfl)) (pgs_cons (pg_name (i := 3) scChkss.nd rfl (.inl rfl)) (pgs_cons (pg_name (i := 4) scChkss.nd rfl (.inl rfl)) (pgs_cons (pg_name (i := 5) scChkss.nd rfl (.inl rfl)) pgs_nil)))))
      (pss_cons (ps_expr (pe_call GS hr (by rfl) mS_ kS bS .nil pass0 (pa_cons (pv 0) (pa_cons (pv 2) (pa_cons (pv 4) pa_nil)))))
    (pss_one (ps_expr (pe_call GS hr (by rfl) mS_ kS bS .nil pass0 (pa_cons (pv 0) (pa_cons (pv 3) (pa_cons (pv 4) pa_nil))))))))), ?_⟩
  refine ⟨.ref a, rfl, a, rfl, ⟨_, hX⟩, for_list (xs := xs) (fun i σ H2 => H2 = H ∧ ∃ y2 y3 y4 y5, σ = [some (.int e), some (.ref a), y2, y3, y4, y5]) ⟨rfl, _, _, _, _, rfl⟩ (fun i σ H2 _ h => by rw [h.1]; exact hX) ?_ ?_⟩
  · rintro i y σ H2 hi ⟨rfl, y2, y3, y4, y5, rfl⟩
    obtain ⟨u, hu, t, rfl, ht⟩ := sl.get hi
    obtain ⟨g1, g2, g3, g4, g5⟩ := gd u (List.mem_of_getElem? hu)
    refine ⟨t, _, rfl, .inl (.inl ht), rfl, _, _, rfl, _, _, rfl, _, _, rfl, _, _, rfl, rfl, ?_⟩
    refine ⟨.int e, rfl, .int u.lo, rfl, .int u.n, rfl, e, u.lo, u.n, rfl, g3, g1, g4, ?_⟩
    refine ⟨.int e, rfl, .int u.hi, rfl, .int u.n, rfl, e, u.hi, u.n, rfl, g3, g2, g5, ?_⟩
    exact ⟨rfl, _, _, _, _, rfl⟩
  · rintro σ H2 ⟨rfl, y2, y3, y4, y5, rfl⟩
    exact q
end
end Rep
namespace Rep
open PySem L2 L2H RepHot
/-! defs that refuse -/
structure ExT (K : PySem.W.Frag) (mg : Str → Option Value) (x : Str) (C : Addr) : Prop where
  g : mg x = some (.ref C)
  x : PySem.W.excIn K C [.type "ValueError", .type "Exception", .type "BaseException", .type "object"] "ValueError.__new__" = true
  k : PySem.W.keepIn K (.ref C) = true
  b : PySem.W.subIn K (.ref C) (.type "BaseException") = some true
  t : PySem.W.typeIn K (.ref C) = some (.type "type")
def spChkpX (NP : Addr) : Sp := fun vs H Q E => ∃ e x : Int, vs = [.int e, .int x] ∧ (0 ≤ x ∧ x < e → Q .non H) ∧ (¬ (0 ≤ x ∧ x < e) → E (.ref NP) none H)
section
variable {P : Program} {w : World} {K : PySem.W.Frag} {mg : Str → Option Value} {base : Heap}
theorem ok_chkpX {f NP : Addr} {fd : FuncData} {k : Nat} (F : Fun K "check_place" "check_place" sCheck_place f fd) (X : ExT K mg "NoPlace" NP) : FnOk P w K mg base (L2N.CX P w) (k + 1) f fd ["length", "place"] (spChkpX NP) := by
  refine okN F scChkp (fun vs H Q E h => ?_) (fun cdv A outer s H vs Q E hr h => ?_)
  · obtain ⟨e, x, rfl, _⟩ := h; rfl
  obtain ⟨e, x, rfl, q, qe⟩ := h
  refine ⟨_, (pss_one (ps_if (PW.pt (pw_or (pt_cmpR op_lt (pv 1) pe_int (nomark _)) (pw_or1 (pt_cmpR op_ge (pv 1) (pv 0) (nomark _))))) (pss_one (L2N.ps_raise rfl (L2N.takes_of rfl rfl rfl rfl) (L2N.pmk_own PySem.F.excBase_ValueError X.x X.g X.k (raises_own X.b X.t) rfl))) pss_nil)), ?_⟩
  refine ⟨.int x, rfl, _, 0, rfl, rfl, _, rfl, ite2 (fun c => ?_) (fun c => ?_)⟩
  · have c := of_decide_eq_true c
    refine iteT ?_
    exact qe (by omega)
  · have c : ¬ x < 0 := fun z => c (decide_eq_true z)
    refine ⟨.int x, rfl, .int e, rfl, _, _, rfl, rfl, _, rfl, ite2 (fun d => ?_) (fun d => ?_)⟩
    · have d := of_decide_eq_true d
      exact qe (by omega)
    · have d : ¬ x ≥ e := fun z => d (decide_eq_true z)
      exact q (by omega)
end
end Rep
namespace Rep
open PySem L2
def metF (s : Sy) (i : Int) : Int := if s.t = true then s.hi + s.n - 1 - i else s.hi + i
def turnS (s : Sy) : Sy := ⟨s.hi, s.lo, s.n, s.t⟩
def besF (s : Sy) (p : Int) : List Int := (if s.lo ≤ p ∧ p < s.lo + s.n then [metF s (p - s.lo)] else []) ++ (if s.hi ≤ p ∧ p < s.hi + s.n then [metF (turnS s) (p - s.hi)] else [])
def leadsF (ss : List Sy) : Int → List Pr → Option Int
  | p, [] => some p
  | p, st :: r => if 0 ≤ st.1 ∧ ∃ s, ss[st.1.toNat]? = some s ∧ st.2 ∈ besF s p then leadsF ss st.2 r else none
def spMet : Sp := fun vs H Q _ => ∃ (v : V) (s : Sy) (i : Int), vs = [v, .int i] ∧ IsSy H v s ∧ Q (.int (metF s i)) H
theorem scMet : FnScope ["saying", "i", "one", "other", "many", "turned"] ["saying", "i"] (defScope sMet) := ⟨rfl, rfl, rfl, by decide +kernel, rfl, by decide +kernel, by decide +kernel⟩
def spBes : Sp := fun vs H Q _ => ∃ (v : V) (s : Sy) (p : Int), vs = [v, .int p] ∧ IsSy H v s ∧ ∀ H' l, Same H H' → H l = none → H' l = some (.lst ((besF s p).map V.int)) → Q (.ref l) H'
theorem scBes : FnScope ["saying", "place", "one", "other", "many", "turned", "out"] ["saying", "place"] (defScope sBeside) := ⟨rfl, rfl, rfl, by decide +kernel, rfl, by decide +kernel, by decide +kernel⟩
structure TBes (Pg : Program) (w : World) (K : PySem.W.Frag) (mg : Str → Option Value) (base : Heap) (k : Nat) (fM : Addr) (fdM : FuncData) : Prop where
  gM : FnOk Pg w K mg base CX0 k fM fdM ["saying", "i"] spMet
  bM : Binds K fdM ["saying", "i"] []
  kM : PySem.W.keepIn K (.ref fM) = true
  mM : mg "met" = some (.ref fM)
section
variable {Pg : Program} {w : World} {K : PySem.W.Frag} {mg : Str → Option Value} {base : Heap}
theorem ok_met {f : Addr} {fd : FuncData} {k : Nat} (F : Fun K "met" "met" sMet f fd) : FnOk Pg w K mg base CX0 (k + 1) f fd ["saying", "i"] spMet := by
  refine F.ok scMet (fun vs H Q E h => ?_) (fun cdv A outer s H vs Q E hr h => ?_)
  · obtain ⟨v, s, i, rfl, _⟩ := h; rfl
  obtain ⟨v, s, i, rfl, ⟨t, rfl, ht⟩, q⟩ := h
  refine ⟨_, (pss_cons (ps_asg (pv 0) (pg_tup rfl (pgs_cons (pg_name (i := 2) scMet.nd rfl (.inl rfl)) (pgs_cons (pg_name (i := 3) scMet.nd rfl (.inl rfl)) (pgs_cons (pg_name (i := 4) scMet.nd rfl (.inl rfl)) (pgs_cons (pg_name (i := 5) scMet.nd rfl (.inl rfl)) pgs_nil))))))
    (pss_one (ps_ret (pe_ifExp (pt_val (pv 5)) (pe_op op_sub (pe_op op_sub (pe_op op_add (pv 3) (pv 4)) pe_int) (pv 1)) (pe_op op_add (pv 3) (pv 1)))))), ?_⟩
  refine ⟨.ref t, rfl, t, _, rfl, .inl (.inl ht), rfl, _, _, rfl, _, _, rfl, _, _, rfl, _, _, rfl, rfl, ?_⟩
  unfold metF at q
  refine ⟨.bl s.t, rfl, s.t, rfl, ?_⟩
  cases c : s.t with
  | true =>
    rw [if_pos c] at q
    refine iteT ?_
    exact ⟨.int s.hi, rfl, .int s.n, rfl, _, _, rfl, rfl, _, 1, rfl, rfl, .int i, rfl, _, _, rfl, rfl, q⟩
  | false =>
    rw [if_neg (by rw [c]; decide)] at q
    refine iteF ?_
    exact ⟨.int s.hi, rfl, .int i, rfl, _, _, rfl, rfl, q⟩
theorem ok_bes {f fM : Addr} {fd fdM : FuncData} {k : Nat} (F : Fun K "beside" "beside" sBeside f fd) (T : TBes Pg w K mg base k fM fdM) : FnOk Pg w K mg base CX0 (k + 1) f fd ["saying", "place"] spBes := by
  refine F.ok scBes (fun vs H Q E h => ?_) (fun cdv A outer s H vs Q E hr h => ?_)
  · obtain ⟨v, s, p, rfl, _⟩ := h; rfl
  obtain ⟨v, s, p, rfl, ⟨t, rfl, ht⟩, q⟩ := h
  refine ⟨_, (pss_cons (ps_asg (pv 0) (pg_tup rfl (pgs_cons (pg_name (i := 2) scBes.nd rfl (.inl rfl)) (pgs_cons (pg_name (i := 3) scBes.nd rfl (.inl rfl)) (pgs_cons (pg_name (i := 4) scBes.nd rfl (.inl rfl)) (pgs_cons (pg_name (i := 5) scBes.nd rfl (.inl rfl)) pgs_nil))))))
    (pss_cons (ps_set (i := 6) scBes.nd rfl (.inl rfl) (pe_lst pa_nil))
    (C8.pss_cut (ps_if (pt_chain op_le op_lt (pv 2) (pv 1) (pe_op op_add (pv 2) (pv 4))) (pss_one (ps_expr (pe_bm PySem.F.plainAttrs_list PySem.F.slot_list_append PySem.F.type_list_append mt_append (pv 6) (pa_cons (pe_call T.gM hr (by rfl) T.mM T.kM T.bM .nil pass0 (pa_cons (pv 0) (pa_cons (pe_op op_sub (pv 1) (pv 2)) pa_nil))) pa_nil)))) pss_nil)
    (pss_cons (ps_if (pt_chain op_le op_lt (pv 3) (pv 1) (pe_op op_add (pv 3) (pv 4))) (pss_one (ps_expr (pe_bm PySem.F.plainAttrs_list PySem.F.slot_list_append PySem.F.type_list_append mt_append (pv 6) (pa_cons (pe_call T.gM hr (by rfl) T.mM T.kM T.bM .nil pass0 (pa_cons (pe_tup (pa_cons (pv 3) (pa_cons (pv 2) (pa_cons (pv 4) (pa_cons (pv 5) pa_nil))))) (pa_cons (pe_op op_sub (pv 1) (pv 3)) pa_nil))) pa_nil)))) pss_nil)
    (pss_one (ps_ret (pv 6))))))), ?_⟩
  refine ⟨.ref t, rfl, t, _, rfl, .inl (.inl ht), rfl, _, _, rfl, _, _, rfl, _, _, rfl, _, _, rfl, rfl, ?_⟩
  refine ⟨(by show 0 ≤ sizeLine; decide), fun o no => ?_⟩
  have s1 := same_upd (o := .lst []) no
  refine ⟨fun σ' H' => σ' = [some (.ref t), some (.int p), some (.int s.lo), some (.int s.hi), some (.int s.n), some (.bl s.t), some (.ref o)] ∧ Same H H' ∧ H' o = some (.lst ((if s.lo ≤ p ∧ p < s.lo + s.n then [metF s (p - s.lo)] else []).map V.int)), ?_, ?_⟩
  · have eo : upd H o (.lst []) o = some (.lst []) := upd_same
    generalize upd H o (.lst []) = H1 at s1 eo ⊢
    refine ⟨.int s.lo, rfl, .int p, rfl, _, _, rfl, rfl, _, rfl, ite2 (fun c => ?_) (fun c => ?_)⟩
    · have c := of_decide_eq_true c
      refine ⟨.int s.lo, rfl, .int s.n, rfl, _, _, rfl, rfl, _, _, rfl, rfl, _, rfl, ite2 (fun d => ?_) (fun d => ?_)⟩
      · have d := of_decide_eq_true d
        refine ⟨.ref o, rfl, .inl ⟨rfl, _, .inl (.inl eo)⟩, .ref t, rfl, .int p, rfl, .int s.lo, rfl, _, _, rfl, rfl, .ref t, s, p - s.lo, rfl, ⟨t, rfl, s1 _ _ ht⟩, ?_⟩
        refine ⟨o, _, _, rfl, rfl, eo, (by show 0 < sizeLine; decide), ?_⟩
        rw [if_pos ⟨c, d⟩]
        exact ⟨rfl, same_over s1 no, upd_same⟩
      · have d : ¬ p < s.lo + s.n := fun z => d (decide_eq_true z)
        rw [if_neg fun z => d z.2]
        exact ⟨rfl, s1, eo⟩
    · have c : ¬ s.lo ≤ p := fun z => c (decide_eq_true z)
      refine ⟨false, rfl, ?_⟩
      refine iteF ?_
      rw [if_neg fun z => c z.1]
      exact ⟨rfl, s1, eo⟩
  rintro σ' H2 ⟨rfl, s2, eo⟩
  have ht2 := s2 _ _ ht
  have eb : (besF s p) = (if s.lo ≤ p ∧ p < s.lo + s.n then [metF s (p - s.lo)] else []) ++ (if s.hi ≤ p ∧ p < s.hi + s.n then [metF (turnS s) (p - s.hi)] else []) := rfl
  have hl : (if s.lo ≤ p ∧ p < s.lo + s.n then [metF s (p - s.lo)] else ([] : List Int)).length ≤ 1 := by split <;> simp
  generalize (if s.lo ≤ p ∧ p < s.lo + s.n then [metF s (p - s.lo)] else ([] : List Int)) = l1 at eo eb hl
  refine ⟨.int s.hi, rfl, .int p, rfl, _, _, rfl, rfl, _, rfl, ite2 (fun c => ?_) (fun c => ?_)⟩
  · have c := of_decide_eq_true c
    refine ⟨.int s.hi, rfl, .int s.n, rfl, _, _, rfl, rfl, _, _, rfl, rfl, _, rfl, ite2 (fun d => ?_) (fun d => ?_)⟩
    · have d := of_decide_eq_true d
      refine ⟨.ref o, rfl, .inl ⟨rfl, _, .inl (.inl eo)⟩, .int s.hi, rfl, .int s.lo, rfl, .int s.n, rfl, .bl s.t, rfl, (by show 4 ≤ sizeLine; decide), fun t2 nt2 => ?_⟩
      have s3 := same_upd (o := .tup [.int s.hi, .int s.lo, .int s.n, .bl s.t]) nt2
      refine ⟨.int p, rfl, .int s.hi, rfl, _, _, rfl, rfl, .ref t2, turnS s, p - s.hi, rfl, IsSy.of upd_same, ?_⟩
      refine ⟨o, _, _, rfl, rfl, s3 _ _ eo, by rw [List.length_map]; exact Nat.lt_of_le_of_lt hl (by decide), ?_⟩
      refine ⟨.ref o, rfl, q _ o (same_over (s2.trans s3) no) no ?_⟩
      rw [eb, if_pos ⟨c, d⟩, upd_same, List.map_append]; rfl
    · have d : ¬ p < s.hi + s.n := fun z => d (decide_eq_true z)
      refine ⟨.ref o, rfl, q _ o s2 no ?_⟩
      rw [eb, if_neg fun z => d z.2, List.append_nil]; exact eo
  · have c : ¬ s.hi ≤ p := fun z => c (decide_eq_true z)
    refine ⟨false, rfl, ?_⟩
    refine iteF ?_
    refine ⟨.ref o, rfl, q _ o s2 no ?_⟩
    rw [eb, if_neg fun z => c z.1, List.append_nil]; exact eo
end
theorem in_ints (x : Int) : ∀ l : List Int, inV (.int x) (l.map V.int) = decide (x ∈ l)
  | [] => rfl
  | y :: r => by
    show (eqV (.int y) (.int x) || inV (.int x) (r.map V.int)) = _
    rw [in_ints x r]
    show ((y == x) || decide (x ∈ r)) = decide (x ∈ y :: r)
    by_cases c : x = y
    · subst c
      simp
    · have c' : (y == x) = false := by simp; exact fun z => c z.symm
      rw [c', Bool.false_or, decide_eq_decide, List.mem_cons]
      exact ⟨.inr, fun h => h.resolve_left c⟩
theorem flat_ints : ∀ l : List Int, (l.map V.int).all flatV = true
  | [] => rfl
  | _ :: r => by
    show (true && (r.map V.int).all flatV) = true
    rw [flat_ints r]; rfl
def oV : Option Int → V
  | none => .non
  | some z => .int z
def spLds (K : PySem.W.Frag) : Sp := fun vs H Q _ => ∃ (e x : Int) (a c : Addr) (xs ys : List V) (ss : List Sy) (sts : List Pr), vs = [.int e, .ref a, .int x, .ref c] ∧ SqL K H a xs ∧ SL H xs ss ∧ (∀ s ∈ ss, Good e s) ∧ 0 ≤ x ∧ x < e ∧ e < 10 ^ 40 ∧ SqL K H c ys ∧ PL H ys sts ∧
  ∀ H', Same H H' → Q (oV (leadsF ss x sts)) H'
theorem scLds : FnScope ["length", "sayings", "one", "steps", "place", "k", "to"] ["length", "sayings", "one", "steps"] (defScope sLeads) := ⟨rfl, rfl, rfl, by decide +kernel, rfl, by decide +kernel, by decide +kernel⟩
structure TLds (Pg : Program) (w : World) (K : PySem.W.Frag) (mg : Str → Option Value) (base : Heap) (k : Nat) (fL fS fP fB : Addr) (fdL fdS fdP fdB : FuncData) : Prop where
  gL : FnOk Pg w K mg base CX0 k fL fdL ["length"] spChkl
  bL : Binds K fdL ["length"] []
  kL : PySem.W.keepIn K (.ref fL) = true
  mL : mg "check_length" = some (.ref fL)
  gS : FnOk Pg w K mg base CX0 k fS fdS ["length", "sayings"] (spChkss K)
  bS : Binds K fdS ["length", "sayings"] []
  kS : PySem.W.keepIn K (.ref fS) = true
  mS : mg "check_sayings" = some (.ref fS)
  gP : FnOk Pg w K mg base CX0 k fP fdP ["length", "place"] spChkp
  bP : Binds K fdP ["length", "place"] []
  kP : PySem.W.keepIn K (.ref fP) = true
  mP : mg "check_place" = some (.ref fP)
  gB : FnOk Pg w K mg base CX0 k fB fdB ["saying", "place"] spBes
  bB : Binds K fdB ["saying", "place"] []
  kB : PySem.W.keepIn K (.ref fB) = true
  mB : mg "beside" = some (.ref fB)
  ml : mg "len" = none
section
variable {Pg : Program} {w : World} {K : PySem.W.Frag} {mg : Str → Option Value} {base : Heap}
theorem ok_lds {f fL fS fP fB : Addr} {fd fdL fdS fdP fdB : FuncData} {k : Nat} (F : Fun K "leads" "leads" sLeads f fd) (T : TLds Pg w K mg base k fL fS fP fB fdL fdS fdP fdB) : FnOk Pg w K mg base CX0 (k + 1) f fd ["length", "sayings", "one", "steps"] (spLds K) := by
  refine F.ok scLds (fun vs H Q E h => ?_) (fun cdv A outer s H vs Q E hr h => ?_)
  · obtain ⟨e, x, a, c, xs, ys, ss, sts, rfl, _⟩ := h; rfl
  obtain ⟨e, x, a, c, xs, ys, ss, sts, rfl, hX, sl, gd, hx0, hx1, he, hY, pl, q⟩ := h
  refine ⟨_, (pss_cons (ps_expr (pe_call T.gL hr (by rfl) T.mL T.kL T.bL .nil pass0 (pa_cons (pv 0) pa_nil)))
    (pss_cons (ps_expr (pe_call T.gS hr (by rfl) T.mS T.kS T.bS .nil pass0 (pa_cons (pv 0) (pa_cons (pv 1) pa_nil))))
    (pss_cons (ps_expr (pe_call T.gP hr (by rfl) T.mP T.kP T.bP .nil pass0 (pa_cons (pv 0) (pa_cons (pv 2) pa_nil))))
    (pss_cons (ps_set (i := 4) scLds.nd rfl (.inl rfl) (pv 2))
    (pss_cons (ps_for PassesOwn.never rfl (pi_list (pv 3)) (pg_tup rfl (pgs_cons (pg_name (i := 5) scLds.nd rfl (.inl rfl)) (pgs_cons (pg_name (i := 6) scLds.nd rfl (.inl rfl)) pgs_nil)))
      (pss_cons (ps_if (PW.pt (pw_or (pt_cmpR op_lt (pv 5) pe_int (nomark _)) (pw_or (pt_cmpR op_ge (pv 5) (pe_callB call_len_seq (by rfl) T.ml PySem.boot_len (pa_cons (pv 1) pa_nil)) (nomark _)) (pw_or1 (pt_cmpR op_notIn_seq (pv 6) (pe_call T.gB hr (by rfl) T.mB T.kB T.bB .nil pass0 (pa_cons (pe_ix ix_list (pv 1) (pv 5) (fun _ _ => rfl)) (pa_cons (pv 4) pa_nil))) (by rfl)))))) (pss_one (ps_ret pe_non)) pss_nil)
    (pss_one (ps_set (i := 4) scLds.nd rfl (.inl rfl) (pv 6)))))
    (pss_one (ps_ret (pv 4)))))))), ?_⟩
  refine ⟨.int e, rfl, e, rfl, by omega, he, ?_⟩
  refine ⟨.int e, rfl, .ref a, rfl, e, a, xs, ss, rfl, hX, sl, gd, ?_⟩
  refine ⟨.int e, rfl, .int x, rfl, e, x, rfl, hx0, hx1, ?_⟩
  refine ⟨.int x, rfl, ?_⟩
  refine ⟨.ref c, rfl, c, rfl, ⟨_, hY⟩, for_list (xs := ys) (fun i σ H3 => ∃ p y5 y6, σ = [some (.int e), some (.ref a), some (.int x), some (.ref c), some (.int p), y5, y6] ∧ Same H H3 ∧ leadsF ss x sts = leadsF ss p (sts.drop i)) ⟨x, none, none, rfl, Same.refl _, rfl⟩ (fun i σ H3 _ hP => ?_) (fun i v σ H3 hv hP => ?_) (fun σ H3 hP => ?_)⟩
  · obtain ⟨_, _, _, _, sm, _⟩ := hP
    exact sm.seq hY
  · obtain ⟨p, y5, y6, rfl, sm, el⟩ := hP
    obtain ⟨tp, st, rfl, htp, hst⟩ := pl.get hv
    obtain ⟨hi, est⟩ := List.getElem?_eq_some_iff.mp hst
    have ed : sts.drop i = st :: sts.drop (i + 1) := by rw [List.drop_eq_getElem_cons hi, est]
    rw [ed] at el
    have es : leadsF ss p (st :: sts.drop (i + 1)) = if 0 ≤ st.1 ∧ ∃ s, ss[st.1.toNat]? = some s ∧ st.2 ∈ besF s p then leadsF ss st.2 (sts.drop (i + 1)) else none := rfl
    refine ⟨tp, [.int st.1, .int st.2], rfl, .inl (.inl (sm _ _ htp)), rfl, _, _, rfl, _, _, rfl, rfl, ?_⟩
    refine ⟨.int st.1, rfl, _, 0, rfl, rfl, _, rfl, ite2 (fun c1 => ?_) (fun c1 => ?_)⟩
    · have c1 := of_decide_eq_true c1
      refine iteT ?_
      rw [el, es, if_neg (fun z => by have := z.1; omega)] at q
      exact q H3 sm
    have c1 : ¬ st.1 < 0 := fun z => c1 (decide_eq_true z)
    refine ⟨.int st.1, rfl, .ref a, rfl, a, xs, rfl, .inl (sm.seq hX), _, _, rfl, rfl, _, rfl, ite2 (fun c2 => ?_) (fun c2 => ?_)⟩
    · have c2 : st.1 ≥ (xs.length : Int) := of_decide_eq_true c2
      refine iteT ?_
      rw [el, es, if_neg (fun ⟨_, s, z, _⟩ => by
        have := (List.getElem?_eq_some_iff.mp z).1
        rw [sl.len] at c2
        omega)] at q
      exact q H3 sm
    have c2 : ¬ st.1 ≥ (xs.length : Int) := fun z => c2 (decide_eq_true z)
    obtain ⟨j, hj⟩ : ∃ j : Nat, st.1 = (j : Int) := ⟨st.1.toNat, by omega⟩
    have hjx : j < xs.length := by omega
    have gx : xs[j]? = some xs[j] := List.getElem?_eq_getElem hjx
    generalize xs[j] = sv at gx
    obtain ⟨s, hs, is_⟩ := sl.get gx
    refine ⟨.int st.2, rfl, .ref a, rfl, .int st.1, rfl, a, xs, st.1, sv, rfl, rfl, sm.seq hX, by rw [hj]; exact atI_nat gx, .int p, rfl, sv, s, p, rfl, is_.ts (TS.of sm), fun H4 l s4 nl el4 => ?_⟩
    refine ⟨l, _, rfl, .inl (.inl (.inl el4)), rfl, flat_ints _, _, rfl, ?_⟩
    show if (!inV (.int st.2) ((besF s p).map V.int)) = true then _ else _
    rw [in_ints]
    by_cases c3 : st.2 ∈ besF s p
    · rw [decide_eq_true c3]
      refine iteF ?_
      refine ⟨.int st.2, rfl, st.2, _, _, rfl, sm.trans s4, ?_⟩
      rw [el, es, if_pos ⟨by omega, s, by rw [hj, Int.toNat_natCast]; exact hs, c3⟩]
    · rw [decide_eq_false c3]
      refine iteT ?_
      rw [el, es, if_neg (fun ⟨_, s', z, w⟩ => by
        rw [hj, Int.toNat_natCast, hs] at z
        cases z
        exact c3 w)] at q
      exact q H4 (sm.trans s4)
  · obtain ⟨p, y5, y6, rfl, sm, el⟩ := hP
    rw [pl.len, List.drop_length] at el
    rw [el] at q
    exact ⟨.int p, rfl, q H3 sm⟩
end
end Rep
namespace Rep
open PySem L2
def hitP (s : Sy) (h to : Int) (p : Pr) : Prop := 0 ≤ h - p.1 ∧ h - p.1 < s.n ∧ to = p.2 + (if s.t = true then s.n - 1 - (h - p.1) else h - p.1)
theorem mem_bes {s : Sy} {h to : Int} : to ∈ besF s h ↔ hitP s h to (s.lo, s.hi) ∨ hitP s h to (s.hi, s.lo) := by
  unfold besF hitP metF turnS
  rw [List.mem_append]
  cases s.t with
  | true =>
    simp only [if_true]
    refine or_congr ?_ ?_
    · split
      · rw [List.mem_singleton]; constructor
        · intro z; exact ⟨by omega, by omega, by omega⟩
        · intro z; omega
      · constructor
        · intro z; cases z
        · intro z; omega
    · split
      · rw [List.mem_singleton]; constructor
        · intro z; exact ⟨by omega, by omega, by omega⟩
        · intro z; omega
      · constructor
        · intro z; cases z
        · intro z; omega
  | false =>
    simp only [Bool.false_eq_true, if_false]
    refine or_congr ?_ ?_
    · split
      · rw [List.mem_singleton]; constructor
        · intro z; exact ⟨by omega, by omega, by omega⟩
        · intro z; omega
      · constructor
        · intro z; cases z
        · intro z; omega
    · split
      · rw [List.mem_singleton]; constructor
        · intro z; exact ⟨by omega, by omega, by omega⟩
        · intro z; omega
      · constructor
        · intro z; cases z
        · intro z; omega
def spLay : Sp := fun vs H Q _ => ∃ (v : V) (s : Sy) (h to : Int), vs = [v, .int h, .int to] ∧ IsSy H v s ∧ ∀ H', Same H H' → Q (.bl (decide (to ∈ besF s h))) H'
theorem scLay : FnScope ["_law_saying_here", "_law_here", "_law_to", "_law_one", "_law_other", "_law_many", "_law_turned", "_law_start", "_law_goal", "_law_i"] ["_law_saying_here", "_law_here", "_law_to"] (defScope s_law_lays) := ⟨rfl, rfl, rfl, by decide +kernel, rfl, by decide +kernel, by decide +kernel⟩
section
variable {Pg : Program} {w : World} {K : PySem.W.Frag} {mg : Str → Option Value} {base : Heap}
theorem ok_lay {f : Addr} {fd : FuncData} {k : Nat} (F : Fun K "_law_lays" "_law_lays" s_law_lays f fd) : FnOk Pg w K mg base CX0 (k + 1) f fd ["_law_saying_here", "_law_here", "_law_to"] spLay := by
  refine F.ok scLay (fun vs H Q E h => ?_) (fun cdv A outer s H vs Q E hr h => ?_)
  · obtain ⟨v, s, h, to, rfl, _⟩ := h; rfl
  obtain ⟨v, s, h, to, rfl, ⟨t, rfl, ht⟩, q⟩ := h
  refine ⟨_, (pss_cons (ps_asg (pv 0) (pg_tup rfl (pgs_cons (pg_name (i := 3) scLay.nd rfl (.inl rfl)) (pgs_cons (pg_name (i := 4) scLay.nd rfl (.inl rfl)) (pgs_cons (pg_name (i := 5) scLay.nd rfl (.inl rfl)) (pgs_cons (pg_name (i := 6) scLay.nd rfl (.inl rfl)) pgs_nil))))))
    (pss_cons (ps_for PassesOwn.never rfl (pi_tup (pe_tup (pa_cons (pe_tup (pa_cons (pv 3) (pa_cons (pv 4) pa_nil))) (pa_cons (pe_tup (pa_cons (pv 4) (pa_cons (pv 3) pa_nil))) pa_nil)))) (pg_tup rfl (pgs_cons (pg_name (i := 7) scLay.nd rfl (.inl rfl)) (pgs_cons (pg_name (i := 8) scLay.nd rfl (.inl rfl)) pgs_nil)))
      (pss_cons (ps_set (i := 9) scLay.nd rfl (.inl rfl) (pe_op op_sub (pv 1) (pv 7)))
    (pss_one (ps_if (PW.pt (pw_and (pt_chain op_le op_lt pe_int (pv 9) (pv 5)) (pw_and1 (pt_cmpR op_eq (pv 2) (pe_op op_add (pv 8) (pe_ifExp (pt_val (pv 6)) (pe_op op_sub (pe_op op_sub (pv 5) pe_int) (pv 9)) (pv 9))) (nomark _))))) (pss_one (ps_ret pe_bl)) pss_nil))))
    (pss_one (ps_ret pe_bl)))), ?_⟩
  refine ⟨.ref t, rfl, t, _, rfl, .inl (.inl ht), rfl, _, _, rfl, _, _, rfl, _, _, rfl, _, _, rfl, rfl, ?_⟩
  refine ⟨.int s.lo, rfl, .int s.hi, rfl, (by show 2 ≤ sizeLine; decide), fun u0 nu0 => ?_⟩
  have q0 := same_upd (o := .tup [.int s.lo, .int s.hi]) nu0
  have P0 := (PL.nil (H := upd H u0 (.tup [.int s.lo, .int s.hi]))).snoc (a := s.lo) (b := s.hi) upd_same
  refine ⟨.int s.hi, rfl, .int s.lo, rfl, (by show 2 ≤ sizeLine; decide), fun u1 nu1 => ?_⟩
  have q1 := same_upd (o := .tup [.int s.hi, .int s.lo]) nu1
  have P1 := (PL.ts (TS.of q1) P0).snoc (a := s.hi) (b := s.lo) upd_same
  refine ⟨(by show 2 ≤ sizeLine; decide), fun u2 nu2 => ?_⟩
  have q2 := same_upd (o := .tup [.ref u0, .ref u1]) nu2
  have sU := q0.trans (q1.trans q2)
  have P2 := PL.ts (TS.of q2) P1
  generalize eU : upd (upd (upd H u0 _) u1 _) u2 _ = HU at P2 sU
  have zU : HU u2 = some (.tup [.ref u0, .ref u1]) := by rw [← eU]; exact upd_same
  have P2 : PL HU [.ref u0, .ref u1] [(s.lo, s.hi), (s.hi, s.lo)] := P2
  refine ⟨u2, rfl, ⟨_, .inl (.inl zU)⟩, for_tup (xs := [.ref u0, .ref u1]) (fun j σ H3 => ∃ y7 y8 y9, σ = [some (.ref t), some (.int h), some (.int to), some (.int s.lo), some (.int s.hi), some (.int s.n), some (.bl s.t), y7, y8, y9] ∧ H3 = HU ∧ ∀ k < j, ∀ p, ([(s.lo, s.hi), (s.hi, s.lo)] : List Pr)[k]? = some p → ¬ hitP s h to p) ⟨none, none, none, rfl, rfl, fun k hk => absurd hk (Nat.not_lt_zero _)⟩ (fun j σ H3 _ hP => ?_) (fun j v σ H3 hv hP => ?_) (fun σ H3 hP => ?_)⟩
  · obtain ⟨_, _, _, _, rfl, _⟩ := hP
    exact .inl (.inl zU)
  · obtain ⟨y7, y8, y9, rfl, rfl, no⟩ := hP
    obtain ⟨tp, p, rfl, htp, hp⟩ := P2.get hv
    have goOn : ¬ hitP s h to p → ∀ k < j + 1, ∀ p', ([(s.lo, s.hi), (s.hi, s.lo)] : List Pr)[k]? = some p' → ¬ hitP s h to p' := fun hn k hk p' hp' => by
      by_cases ek : k = j
      · subst ek; rw [hp] at hp'; cases hp'; exact hn
      · exact no k (by omega) p' hp'
    refine ⟨tp, [.int p.1, .int p.2], rfl, .inl (.inl htp), rfl, _, _, rfl, _, _, rfl, rfl, ?_⟩
    refine ⟨.int h, rfl, .int p.1, rfl, _, _, rfl, rfl, ?_⟩
    refine ⟨.int (h - p.1), rfl, _, _, rfl, rfl, _, rfl, ite2 (fun c => ?_) (fun c => ?_)⟩
    · have c : 0 ≤ h - p.1 := of_decide_eq_true c
      refine ⟨.int s.n, rfl, _, _, rfl, rfl, _, rfl, ite2 (fun d => ?_) (fun d => ?_)⟩
      · have d : h - p.1 < s.n := of_decide_eq_true d
        refine ⟨.int to, rfl, .int p.2, rfl, .bl s.t, rfl, s.t, rfl, ?_⟩
        have fin : ∀ g : Int, g = (if s.t = true then s.n - 1 - (h - p.1) else h - p.1) → (decide (V.int to = V.int (p.2 + g)) = true ↔ hitP s h to p) := fun g eg => by
          rw [decide_eq_true_iff]
          unfold hitP
          rw [← eg]
          exact ⟨fun z => ⟨c, d, V.int.inj z⟩, fun z => by rw [z.2.2]⟩
        have hit : hitP s h to p → to ∈ besF s h := fun z => by
          rw [mem_bes]
          have hm : p ∈ ([(s.lo, s.hi), (s.hi, s.lo)] : List Pr) := List.mem_of_getElem? hp
          rcases List.mem_cons.mp hm with e | e
          · rw [e] at z; exact .inl z
          · rw [List.mem_singleton.mp e] at z; exact .inr z
        cases ct : s.t with
        | true =>
          refine iteT ?_
          refine ⟨.int s.n, rfl, _, 1, rfl, rfl, .int (h - p.1), rfl, _, _, rfl, rfl, _, _, rfl, rfl, rfl, _, rfl, ite2 (fun g => ?_) (fun g => ?_)⟩
          · have := hit ((fin _ (by rw [ct]; rfl)).mp g)
            rw [decide_eq_true this] at q
            exact q _ sU
          · exact ⟨_, _, _, rfl, rfl, goOn fun z => g ((fin _ (by rw [ct]; rfl)).mpr z)⟩
        | false =>
          refine iteF ?_
          refine ⟨.int (h - p.1), rfl, _, _, rfl, rfl, rfl, _, rfl, ite2 (fun g => ?_) (fun g => ?_)⟩
          · have := hit ((fin _ (by rw [ct]; rfl)).mp g)
            rw [decide_eq_true this] at q
            exact q _ sU
          · exact ⟨_, _, _, rfl, rfl, goOn fun z => g ((fin _ (by rw [ct]; rfl)).mpr z)⟩
      · have d : ¬ h - p.1 < s.n := fun z => d (decide_eq_true z)
        refine iteF ?_
        exact ⟨_, _, _, rfl, rfl, goOn fun z => d z.2.1⟩
    · have c : ¬ 0 ≤ h - p.1 := fun z => c (decide_eq_true z)
      refine ⟨false, rfl, ?_⟩
      refine iteF ?_
      refine iteF ?_
      exact ⟨_, _, _, rfl, rfl, goOn fun z => c z.1⟩
  · obtain ⟨y7, y8, y9, rfl, rfl, no⟩ := hP
    have : ¬ to ∈ besF s h := fun z => by
      rw [mem_bes] at z
      rcases z with z | z
      · exact no 0 (by show 0 < 2; decide) _ rfl z
      · exact no 1 (by show 1 < 2; decide) _ rfl z
    rw [decide_eq_false this] at q
    exact q _ sU
end
end Rep
namespace Rep
open PySem L2
/-! the draws -/
def mixA (s : Int) : Int := (s * 48271 + 11) % 2147483647
def mixB (s : Int) : Int := (mixA s * mixA s + 40692 * mixA s + s) % 2147483399
def mixF (s : Int) : Int := (mixB s * mixB s + 69621 * mixB s + mixA s) % 2147483563
theorem mixA_lt (s : Int) : -(2 ^ 64) < mixA s ∧ mixA s < 2 ^ 64 := by
  unfold mixA; omega
theorem mixB_lt (s : Int) : -(2 ^ 64) < mixB s ∧ mixB s < 2 ^ 64 := by
  unfold mixB; generalize mixA s * mixA s + 40692 * mixA s + s = z; omega
def spMix : Sp := fun vs H Q _ => ∃ s : Int, vs = [.int s] ∧ Q (.int (mixF s)) H
theorem scMix : FnScope ["_law_seed", "_law_one", "_law_two"] ["_law_seed"] (defScope sMix) := ⟨rfl, rfl, rfl, by decide +kernel, rfl, by decide +kernel, by decide +kernel⟩
section
variable {P : Program} {w : World} {K : PySem.W.Frag} {mg : Str → Option Value} {base : Heap}
theorem ok_mix {f : Addr} {fd : FuncData} {k : Nat} (F : Fun K "_law_mix" "_law_mix" sMix f fd) : FnOk P w K mg base CX0 (k + 1) f fd ["_law_seed"] spMix := by
  refine F.ok scMix (fun vs H Q E h => ?_) (fun cdv A outer s H vs Q E hr h => ?_)
  · obtain ⟨s, rfl, _⟩ := h; rfl
  obtain ⟨z, rfl, q⟩ := h
  refine ⟨_, pss_cons (ps_set (i := 1) scMix.nd rfl (.inl rfl) (pe_op op_mod (pe_op op_add (pe_op op_mul (pv 0) pe_int) pe_int) pe_int))
    (pss_cons (ps_set (i := 2) scMix.nd rfl (.inl rfl) (pe_op op_mod (pe_op op_add (pe_op op_add (pe_op op_mul (pv 1) (pv 1)) (pe_op op_mul pe_int (pv 1))) (pv 0)) pe_int))
    (pss_one (ps_ret (pe_op op_mod (pe_op op_add (pe_op op_add (pe_op op_mul (pv 2) (pv 2)) (pe_op op_mul pe_int (pv 2))) (pv 1)) pe_int)))), ?_⟩
  refine ⟨.int z, rfl, z, 48271, rfl, rfl, .inr ⟨by decide, by decide⟩, _, 11, rfl, rfl, _, 2147483647, rfl, rfl, (by show (0 : Int) < 2147483647; decide), ?_⟩
  refine ⟨.int (mixA z), rfl, .int (mixA z), rfl, _, _, rfl, rfl, .inl (mixA_lt z), .int (mixA z), rfl, 40692, mixA z, rfl, rfl, .inl ⟨by decide, by decide⟩, _, _, rfl, rfl, .int z, rfl, _, _, rfl, rfl, _, 2147483399, rfl, rfl, (by show (0 : Int) < 2147483399; decide), ?_⟩
  refine ⟨.int (mixB z), rfl, .int (mixB z), rfl, _, _, rfl, rfl, .inl (mixB_lt z), .int (mixB z), rfl, 69621, mixB z, rfl, rfl, .inl ⟨by decide, by decide⟩, _, _, rfl, rfl, .int (mixA z), rfl, _, _, rfl, rfl, _, 2147483563, rfl, rfl, (by show (0 : Int) < 2147483563; decide), ?_⟩
  exact q
end
/-! a raw number -/
def cellF (ns : List Int) (k : Int) : Int := if 0 < ns.length then ns.getD (k % (ns.length : Int)).toNat 0 + 9973 * (k / (ns.length : Int)) else 7 * k + 3
def foundF (c k : Int) : Nat → Int
  | 0 => 0
  | i + 1 => foundF c k i * 2147483563 + mixF (c + 1009 * k + 7919 * (i : Int))
def rawF (ns : List Int) (k : Int) : Int := if k < (ns.length : Int) ∧ 10 ^ 18 ≤ cellF ns k then cellF ns k - 10 ^ 18 else foundF (cellF ns k) k 40
def spRaw (K : PySem.W.Frag) : Sp := fun vs H Q _ => ∃ (a : Addr) (ns : List Int) (k : Int), vs = [.ref a, .int k] ∧ SqL K H a (ns.map V.int) ∧ ns.length ≤ 63 ∧ Q (.int (rawF ns k)) H
theorem scRaw : FnScope ["_law_script", "_law_k", "_law_cell", "_law_found", "_law_turn"] ["_law_script", "_law_k"] (defScope sRaw) := ⟨rfl, rfl, rfl, by decide +kernel, rfl, by decide +kernel, by decide +kernel⟩
theorem at_mod {ns : List Int} {k : Int} (h : 0 < ns.length) : atI (ns.map V.int) (k % ((ns.map V.int).length : Int)) = some (.int (ns.getD (k % (ns.length : Int)).toNat 0)) := by
  rw [List.length_map]
  have h0 : 0 ≤ k % (ns.length : Int) := Int.emod_nonneg _ (by omega)
  have h1 : k % (ns.length : Int) < (ns.length : Int) := Int.emod_lt_of_pos _ (by omega)
  have e : k % (ns.length : Int) = (((k % (ns.length : Int)).toNat : Nat) : Int) := by omega
  have hj : (k % (ns.length : Int)).toNat < ns.length := by omega
  have q : atI (ns.map V.int) (((k % (ns.length : Int)).toNat : Nat) : Int) = some (.int (ns.getD (k % (ns.length : Int)).toNat 0)) := by
    refine atI_nat ?_
    rw [List.getElem?_map, List.getElem?_eq_getElem hj, List.getD_eq_getElem?_getD, List.getElem?_eq_getElem hj]
    rfl
  rw [← e] at q
  exact q
section
variable {P : Program} {w : World} {K : PySem.W.Frag} {mg : Str → Option Value} {base : Heap}
theorem ok_raw {f fM : Addr} {fd fdM : FuncData} {k : Nat} (F : Fun K "_law_raw" "_law_raw" sRaw f fd) (FM : Fun K "_law_mix" "_law_mix" sMix fM fdM) (bM : Binds K fdM ["_law_seed"] []) (gM : mg "_law_mix" = some (.ref fM)) (ml : mg "len" = none) (mr : mg "range" = none) : FnOk P w K mg base CX0 (k + 2) f fd ["_law_script", "_law_k"] (spRaw K) := by
  have GM : FnOk P w K mg base CX0 (k + 1) fM fdM ["_law_seed"] spMix := ok_mix FM
  refine F.ok scRaw (fun vs H Q E h => ?_) (fun cdv A outer s H vs Q E hr h => ?_)
  · obtain ⟨a, ns, z, rfl, _⟩ := h; rfl
  obtain ⟨a, ns, z, rfl, hS, h63, q⟩ := h
  have hl : ((ns.map V.int).length : Int) = (ns.length : Int) := by rw [List.length_map]
  refine ⟨_, pss_cons (ps_set (i := 2) scRaw.nd rfl (.inl rfl) (pe_op op_add (pe_op op_mul pe_int (pv 1)) pe_int))
    (C8.pss_cut (ps_if (pt_cmpR op_gt (pe_callB call_len_seq (by rfl) ml PySem.boot_len (pa_cons (pv 0) pa_nil)) pe_int (nomark _))
      (pss_one (ps_set (i := 2) scRaw.nd rfl (.inl rfl) (pe_op op_add (pe_ix ix_list (pv 0) (pe_op op_mod (pv 1) (pe_callB call_len_seq (by rfl) ml PySem.boot_len (pa_cons (pv 0) pa_nil))) (fun _ _ => rfl))
        (pe_op op_mul pe_int (pe_op op_fdiv (pv 1) (pe_callB call_len_seq (by rfl) ml PySem.boot_len (pa_cons (pv 0) pa_nil))))))) pss_nil)
    (C8.pss_cut (ps_if (PW.pt (pw_and (pt_cmpR op_lt (pv 1) (pe_callB call_len_seq (by rfl) ml PySem.boot_len (pa_cons (pv 0) pa_nil)) (nomark _)) (pw_and1 (pt_cmpR op_ge (pv 2) (pe_op op_pow pe_int pe_int) (nomark _)))))
      (pss_one (ps_ret (pe_op op_sub (pv 2) (pe_op op_pow pe_int pe_int)))) pss_nil)
    (pss_cons (ps_set (i := 3) scRaw.nd rfl (.inl rfl) pe_int)
    (pss_cons (ps_for PassesOwn.never rfl (pi_range1 rfl mr (pa_cons pe_int pa_nil)) (pg_name (i := 4) scRaw.nd rfl (.inl rfl))
      (pss_one (ps_set (i := 3) scRaw.nd rfl (.inl rfl) (pe_op op_add (pe_op op_mul (pv 3) pe_int) (pe_call GM hr (by rfl) gM FM.kp bM .nil pass0 (pa_cons (pe_op op_add (pe_op op_add (pv 2) (pe_op op_mul pe_int (pv 1))) (pe_op op_mul pe_int (pv 4))) pa_nil))))))
    (pss_one (ps_ret (pv 3))))))), ?_⟩
  refine ⟨.int z, rfl, 7, z, rfl, rfl, .inl ⟨by decide, by decide⟩, _, 3, rfl, rfl, ?_⟩
  refine ⟨fun σ' H' => σ' = [some (.ref a), some (.int z), some (.int (cellF ns z)), none, none] ∧ H' = H, ?_, fun σ' H' hm => ?_⟩
  · refine ⟨.ref a, rfl, a, ns.map V.int, rfl, .inl hS, _, 0, rfl, rfl, _, rfl, ite2 (fun c => ?_) (fun c => ?_)⟩
    · have c' : (0 : Int) < ((ns.map V.int).length : Int) := of_decide_eq_true c
      rw [hl] at c'
      have c2 : 0 < ns.length := by omega
      refine ⟨.ref a, rfl, .int z, rfl, .ref a, rfl, a, ns.map V.int, rfl, .inl hS, _, _, rfl, rfl, (by show (0 : Int) < ((ns.map V.int).length : Int); omega), a, _, _, _, rfl, rfl, hS, at_mod c2, .int z, rfl, .ref a, rfl, a, ns.map V.int, rfl, .inl hS, _, _, rfl, rfl, ⟨by omega, by omega⟩, 9973, _, rfl, rfl, .inl ⟨by decide, by decide⟩, _, _, rfl, rfl, ?_, rfl⟩
      unfold cellF
      rw [if_pos c2, hl]
      rfl
    · have c' : ¬ (0 : Int) < ((ns.map V.int).length : Int) := fun e => c (decide_eq_true e)
      rw [hl] at c'
      refine ⟨?_, rfl⟩
      unfold cellF
      rw [if_neg (by omega)]
      rfl
  · obtain ⟨rfl, rfl⟩ := hm
    have p18 : CPow 10 18 := ⟨by decide, by decide, by decide⟩
    refine ⟨fun σ' H2 => σ' = [some (.ref a), some (.int z), some (.int (cellF ns z)), none, none] ∧ H2 = H' ∧ ¬ (z < (ns.length : Int) ∧ 10 ^ 18 ≤ cellF ns z), ?_, fun σ' H2 hm => ?_⟩
    · refine ⟨.int z, rfl, .ref a, rfl, a, ns.map V.int, rfl, .inl hS, _, _, rfl, rfl, _, rfl, ite2 (fun c => ?_) (fun c => ?_)⟩
      · have c1 : z < ((ns.map V.int).length : Int) := of_decide_eq_true c
        rw [hl] at c1
        refine ⟨.int (cellF ns z), rfl, 10, 18, rfl, rfl, p18, _, _, rfl, rfl, _, rfl, ite2 (fun c => ?_) (fun c => ?_)⟩
        · have c2 : (10 : Int) ^ 18 ≤ cellF ns z := of_decide_eq_true c
          refine ⟨.int (cellF ns z), rfl, 10, 18, rfl, rfl, p18, _, _, rfl, rfl, ?_⟩
          unfold rawF at q
          rw [if_pos ⟨c1, c2⟩] at q
          exact q
        · exact ⟨rfl, rfl, fun e => c (decide_eq_true e.2)⟩
      · refine iteF ⟨rfl, rfl, fun e => c (decide_eq_true ?_)⟩
        rw [hl]
        exact e.1
    · obtain ⟨rfl, rfl, hn⟩ := hm
      have er : foundF (cellF ns z) z 40 = rawF ns z := by
        unfold rawF; rw [if_neg hn]
      refine ⟨40, rfl, by decide, by decide, for_range (n := 40) (fun i σ H => ∃ y, σ = [some (.ref a), some (.int z), some (.int (cellF ns z)), some (.int (foundF (cellF ns z) z i)), y] ∧ H = H2) ⟨none, rfl, rfl⟩ (fun i σ H3 hi hP => ?_) (fun σ H3 hP => ?_)⟩
      · obtain ⟨y, rfl, rfl⟩ := hP
        refine ⟨.int (foundF (cellF ns z) z i), rfl, _, 2147483563, rfl, rfl, .inr ⟨by decide, by decide⟩, .int (cellF ns z), rfl, .int z, rfl, 1009, z, rfl, rfl, .inl ⟨by decide, by decide⟩, _, _, rfl, rfl, .int (0 + (i : Int)), rfl, 7919, _, rfl, rfl, .inl ⟨by decide, by decide⟩, _, _, rfl, rfl, _, rfl, _, _, rfl, rfl, ?_⟩
        refine ⟨some (.int (0 + (i : Int))), ?_, rfl⟩
        show [some (V.ref a), some (.int z), some (.int (cellF ns z)), some (.int (foundF (cellF ns z) z i * 2147483563 + mixF (cellF ns z + 1009 * z + 7919 * (0 + (i : Int))))), some (.int (0 + (i : Int)))] = _
        rw [Int.zero_add]
        rfl
      · obtain ⟨y, rfl, rfl⟩ := hP
        exact ⟨_, rfl, by rw [er]; exact q⟩
end
end Rep
namespace Rep
open PySem L2
/-! digits of a raw number -/
def digF : Int → List Int → List Int
  | _, [] => []
  | r, z :: zs => (r % z) :: digF (r / z) zs
def restF (r : Int) (zs : List Int) : Int := zs.foldl (· / ·) r
theorem digF_snoc : ∀ (r : Int) (a : List Int) (z : Int), digF r (a ++ [z]) = digF r a ++ [restF r a % z]
  | r, [], z => rfl
  | r, y :: a, z => by
    show (r % y) :: digF (r / y) (a ++ [z]) = (r % y) :: (digF (r / y) a ++ [restF (r / y) a % z])
    rw [digF_snoc (r / y) a z]
theorem restF_snoc (r : Int) (a : List Int) (z : Int) : restF r (a ++ [z]) = restF r a / z := by
  unfold restF; rw [List.foldl_append]; rfl
theorem digF_len : ∀ (r : Int) (zs : List Int), (digF r zs).length = zs.length
  | _, [] => rfl
  | r, z :: zs => by
    show (digF (r / z) zs).length + 1 = zs.length + 1
    rw [digF_len]
def spDig (K : PySem.W.Frag) : Sp := fun vs H Q _ => ∃ (a b : Addr) (ns zs : List Int) (k : Int), vs = [.ref a, .int k, .ref b] ∧ SqL K H a (ns.map V.int) ∧ ns.length ≤ 63 ∧ SqL K H b (zs.map V.int) ∧ zs.length ≤ 1000 ∧ (∀ z ∈ zs, 0 < z ∧ z.natAbs.log2 < 9000) ∧
  ∀ H' p, Same H H' → H p = none → H' p = some (.lst ((digF (rawF ns k) zs).map V.int)) → Q (.ref p) H'
theorem scDig : FnScope ["_law_script", "_law_k", "_law_sizes", "_law_rest", "_law_found", "_law_size"] ["_law_script", "_law_k", "_law_sizes"] (defScope sDig) := ⟨rfl, rfl, rfl, by decide +kernel, rfl, by decide +kernel, by decide +kernel⟩
section
variable {P : Program} {w : World} {K : PySem.W.Frag} {mg : Str → Option Value} {base : Heap}
theorem ok_dig {f fR : Addr} {fd fdR : FuncData} {k : Nat} (F : Fun K "_law_digits" "_law_digits" sDig f fd) (GR : FnOk P w K mg base CX0 k fR fdR ["_law_script", "_law_k"] (spRaw K)) (kR : PySem.W.keepIn K (.ref fR) = true) (bR : Binds K fdR ["_law_script", "_law_k"] []) (gR : mg "_law_raw" = some (.ref fR)) : FnOk P w K mg base CX0 (k + 1) f fd ["_law_script", "_law_k", "_law_sizes"] (spDig K) := by
  refine F.ok scDig (fun vs H Q E h => ?_) (fun cdv A outer s H vs Q E hr h => ?_)
  · obtain ⟨a, b, ns, zs, z, rfl, _⟩ := h; rfl
  obtain ⟨a, b, ns, zs, z, rfl, hS, h63, hZ, hz1, hz2, q⟩ := h
  refine ⟨_, pss_cons (ps_set (i := 3) scDig.nd rfl (.inl rfl) (pe_call GR hr (by rfl) gR kR bR .nil pass0 (pa_cons (pv 0) (pa_cons (pv 1) pa_nil))))
    (pss_cons (ps_set (i := 4) scDig.nd rfl (.inl rfl) (pe_lst pa_nil))
    (pss_cons (ps_for PassesOwn.never rfl (pi_list (pv 2)) (pg_name (i := 5) scDig.nd rfl (.inl rfl))
      (pss_cons (ps_expr (pe_bm PySem.F.plainAttrs_list PySem.F.slot_list_append PySem.F.type_list_append mt_append (pv 4) (pa_cons (pe_op op_mod (pv 3) (pv 5)) pa_nil)))
      (pss_one (ps_set (i := 3) scDig.nd rfl (.inl rfl) (pe_op op_fdivW (pv 3) (pv 5))))))
    (pss_one (ps_ret (pv 4))))), ?_⟩
  refine ⟨.ref a, rfl, .int z, rfl, a, ns, z, rfl, hS, h63, Nat.zero_le _, fun o no => ?_⟩
  have s1 : Same H (upd H o (.lst [])) := same_upd no
  refine ⟨.ref b, rfl, b, rfl, ⟨_, s1.seq hZ⟩, for_list (xs := zs.map V.int) (fun i σ H3 => ∃ y, σ = [some (.ref a), some (.int z), some (.ref b), some (.int (restF (rawF ns z) (zs.take i))), some (.ref o), y] ∧ Same H H3 ∧ H3 o = some (.lst ((digF (rawF ns z) (zs.take i)).map V.int))) ⟨none, rfl, s1, upd_same⟩ (fun i σ H3 _ hP => ?_) (fun i x σ H3 hx hP => ?_) (fun σ H3 hP => ?_)⟩
  · obtain ⟨y, _, sm, _⟩ := hP
    exact sm.seq hZ
  · obtain ⟨y, rfl, sm, eo⟩ := hP
    rw [List.getElem?_map] at hx
    obtain ⟨v, hv, rfl⟩ := Option.map_eq_some_iff.mp hx
    have hv2 := hz2 v (List.mem_of_getElem? hv)
    have hi : i < zs.length := (List.getElem?_eq_some_iff.mp hv).1
    have et : zs.take (i + 1) = zs.take i ++ [v] := by rw [List.take_add_one, hv]; rfl
    refine ⟨.ref o, rfl, .inl ⟨rfl, _, .inl (.inl eo)⟩, .int _, rfl, .int v, rfl, _, _, rfl, rfl, hv2.1, o, _, _, rfl, rfl, eo, ?_, ?_⟩
    · rw [List.length_map, digF_len, List.length_take]
      exact small1000 (by omega)
    · refine ⟨.int _, rfl, .int v, rfl, _, _, rfl, rfl, hv2, some (.int v), ?_, same_over sm no, ?_⟩
      · rw [et, restF_snoc]; rfl
      · rw [upd_same, et, digF_snoc, List.map_append]; rfl
  · obtain ⟨y, rfl, sm, eo⟩ := hP
    rw [List.length_map, List.take_length] at eo
    exact ⟨.ref o, rfl, q H3 o sm no eo⟩
end
end Rep
namespace Rep
open PySem L2
/-! the law's drawn sayings -/
theorem at4 {a b c d r : Int} : ∃ v, atI [V.int a, V.int b, V.int c, V.int d] (r % 4) = some (.int v) ∧ (v = a ∨ v = b ∨ v = c ∨ v = d) := by
  have h : r % 4 = 0 ∨ r % 4 = 1 ∨ r % 4 = 2 ∨ r % 4 = 3 := by omega
  rcases h with h | h | h | h <;> rw [h]
  · exact ⟨a, rfl, .inl rfl⟩
  · exact ⟨b, rfl, .inr (.inl rfl)⟩
  · exact ⟨c, rfl, .inr (.inr (.inl rfl))⟩
  · exact ⟨d, rfl, .inr (.inr (.inr rfl))⟩
theorem at3 {a b c r : Int} : ∃ v, atI [V.int a, V.int b, V.int c] (r % 3) = some (.int v) ∧ (v = a ∨ v = b ∨ v = c) := by
  have h : r % 3 = 0 ∨ r % 3 = 1 ∨ r % 3 = 2 := by omega
  rcases h with h | h | h <;> rw [h]
  · exact ⟨a, rfl, .inl rfl⟩
  · exact ⟨b, rfl, .inr (.inl rfl)⟩
  · exact ⟨c, rfl, .inr (.inr rfl)⟩
def spSay (K : PySem.W.Frag) : Sp := fun vs H Q _ => ∃ (a : Addr) (ns : List Int) (k L : Int), vs = [.ref a, .int k, .int L] ∧ SqL K H a (ns.map V.int) ∧ ns.length ≤ 63 ∧ 1 ≤ L ∧ L ≤ 10 ^ 41 ∧ ∀ H' v s, Same H H' → IsSy H' v s → Good L s → Q v H'
abbrev nSay : List Str := ["_law_script", "_law_k", "_law_length", "_law_way", "_law_one", "_law_other", "_law_many", "_law_turned", "_law_lead"]
theorem scSay : FnScope nSay ["_law_script", "_law_k", "_law_length"] (defScope s_law_saying) := ⟨rfl, rfl, rfl, by decide +kernel, rfl, by decide +kernel, by decide +kernel⟩
theorem p40 : CPow 10 40 := ⟨by decide, by decide, by decide⟩
section
variable {P : Program} {w : World} {K : PySem.W.Frag} {mg : Str → Option Value} {base : Heap}
theorem ok_say {f fD : Addr} {fd fdD : FuncData} {k : Nat} (F : Fun K "_law_saying" "_law_saying" s_law_saying f fd) (GD : FnOk P w K mg base CX0 k fD fdD ["_law_script", "_law_k", "_law_sizes"] (spDig K)) (kD : PySem.W.keepIn K (.ref fD) = true) (bD : Binds K fdD ["_law_script", "_law_k", "_law_sizes"] []) (mD_ : mg "_law_digits" = some (.ref fD)) (mm : mg "min" = none) (mM : mg "max" = none) : FnOk P w K mg base CX0 (k + 1) f fd ["_law_script", "_law_k", "_law_length"] (spSay K) := by
  refine F.ok scSay (fun vs H Q E h => ?_) (fun cdv A outer s H vs Q E hr h => ?_)
  · obtain ⟨a, ns, z, L, rfl, _⟩ := h; rfl
  obtain ⟨a, ns, z, L, rfl, hS, h63, hL1, hL2, q⟩ := h
  refine ⟨_, (pss_cons (ps_asg (pe_call GD hr (by rfl) mD_ kD bD .nil pass0 (pa_cons (pv 0) (pa_cons (pv 1) (pa_cons (pe_lst (pa_cons pe_int (pa_cons (pe_op op_pow pe_int pe_int) (pa_cons (pe_op op_pow pe_int pe_int) (pa_cons (pe_op op_pow pe_int pe_int) (pa_cons pe_int (pa_cons (pe_op op_pow pe_int pe_int) pa_nil))))))) pa_nil)))) (pg_lst rfl (pgs_cons (pg_name (i := 3) scSay.nd rfl (.inl rfl)) (pgs_cons (pg_name (i := 4) scSay.nd rfl (.inl rfl)) (pgs_cons (pg_name (i := 5) scSay.nd rfl (.inl rfl)) (pgs_cons (pg_name (i := 6) scSay.nd rfl (.inl rfl)) (pgs_cons (pg_name (i := 7) scSay.nd rfl (.inl rfl)) (pgs_cons (pg_name (i := 8) scSay.nd rfl (.inl rfl)) pgs_nil))))))))
    (C8.pss_cut (ps_set (i := 6) scSay.nd rfl (.inl rfl) (pe_op op_add pe_int (pe_op op_mod (pv 6) (pe_ix ix_list (pe_lst (pa_cons (pv 2) (pa_cons (pe_callB (call_max2 rfl) (by rfl) mM (by decide +kernel) (pa_cons pe_int (pa_cons (pe_op op_fdivW (pv 2) pe_int) pa_nil))) (pa_cons (pe_callB (call_max2 rfl) (by rfl) mM (by decide +kernel) (pa_cons pe_int (pa_cons (pe_op op_fdivW (pv 2) pe_int) pa_nil))) (pa_cons (pv 2) pa_nil))))) (pe_op op_mod (pv 3) pe_int) (fun _ _ => rfl)))))
    (pss_cons (ps_set (i := 4) scSay.nd rfl (.inl rfl) (pe_op op_mod (pv 4) (pe_op op_add (pe_op op_sub (pv 2) (pv 6)) pe_int)))
    (pss_cons (ps_set (i := 5) scSay.nd rfl (.inl rfl) (pe_op op_mod (pv 5) (pe_op op_add (pe_op op_sub (pv 2) (pv 6)) pe_int)))
    (C8.pss_cut (ps_if (PW.pt (pw_or (pt_cmpR op_eq (pv 3) pe_int (nomark _)) (pw_or1 (pt_cmpR op_eq (pv 3) pe_int (nomark _))))) (pss_one (ps_set (i := 5) scSay.nd rfl (.inl rfl) (pe_callB (call_min2 rfl) (by rfl) mm (by decide +kernel) (pa_cons (pe_op op_sub (pv 2) (pv 6)) (pa_cons (pe_op op_add (pv 4) (pe_op op_mod (pv 8) (pe_callB (call_max2 rfl) (by rfl) mM (by decide +kernel) (pa_cons pe_int (pa_cons (pv 6) pa_nil))))) pa_nil))))) pss_nil)
    (C8.pss_cut (ps_if (pt_cmpR op_eq (pv 3) pe_int (nomark _)) (pss_one (ps_set (i := 5) scSay.nd rfl (.inl rfl) (pv 4))) pss_nil)
    (C8.pss_cut (ps_if (pt_cmpR op_eq (pv 3) pe_int (nomark _)) (pss_cons (ps_set (i := 4) scSay.nd rfl (.inl rfl) pe_int)
    (pss_one (ps_set (i := 5) scSay.nd rfl (.inl rfl) (pe_op op_sub (pv 2) (pv 6))))) pss_nil)
    (pss_one (ps_ret (pe_tup (pa_cons (pv 4) (pa_cons (pv 5) (pa_cons (pv 6) (pa_cons (pe_or (pe_cmpR op_eq (pv 7) pe_int (nomark _)) (pe_one (pe_cmpR op_eq (pv 3) pe_int (nomark _)))) pa_nil)))))))))))))), ?_⟩
  -- the digits
  refine ⟨.ref a, rfl, .int z, rfl, 10, 40, rfl, rfl, p40, 10, 40, rfl, rfl, p40, 10, 40, rfl, rfl, p40, 10, 40, rfl, rfl, p40, (by show 6 ≤ sizeLine; decide), fun l1 nl1 => ?_⟩
  have s1 := same_upd (o := .lst [.int 8, .int (10 ^ (40 : Int).toNat), .int (10 ^ (40 : Int).toNat), .int (10 ^ (40 : Int).toNat), .int 3, .int (10 ^ (40 : Int).toNat)]) nl1
  refine ⟨a, l1, ns, [8, 10 ^ (40 : Int).toNat, 10 ^ (40 : Int).toNat, 10 ^ (40 : Int).toNat, 3, 10 ^ (40 : Int).toNat], z, rfl, s1.seq hS, h63, .inl (.inl upd_same), by decide, fun y hy => ?_, fun H2 q2 s2 _ eq2 => ?_⟩
  · have : y = 8 ∨ y = 10 ^ (40 : Int).toNat ∨ y = 3 := by
      simp only [List.mem_cons, List.mem_nil_iff, or_false] at hy
      rcases hy with h | h | h | h | h | h
      · exact .inl h
      · exact .inr (.inl h)
      · exact .inr (.inl h)
      · exact .inr (.inl h)
      · exact .inr (.inr h)
      · exact .inr (.inl h)
    rcases this with rfl | rfl | rfl
    · exact ⟨by decide, by decide⟩
    · exact ⟨by decide +kernel, by decide +kernel⟩
    · exact ⟨by decide, by decide⟩
  generalize hT : (10 : Int) ^ (40 : Int).toNat = T at eq2
  have hT0 : 0 < T := by rw [← hT]; decide +kernel
  generalize rawF ns z = ra at eq2
  refine ⟨q2, [.int (ra % 8), .int (ra / 8 % T), .int (ra / 8 / T % T), .int (ra / 8 / T / T % T), .int (ra / 8 / T / T / T % 3), .int (ra / 8 / T / T / T / 3 % T)], rfl, .inl (.inl eq2), rfl, _, _, rfl, _, _, rfl, _, _, rfl, _, _, rfl, _, _, rfl, _, _, rfl, rfl, ?_⟩
  have sH2 : Same H H2 := s1.trans s2
  generalize ra % 8 = way
  generalize ra / 8 % T = one
  generalize ra / 8 / T % T = oth
  generalize ra / 8 / T / T % T = man
  generalize ra / 8 / T / T / T % 3 = tur
  generalize ra / 8 / T / T / T / 3 % T = lea
  -- many
  refine ⟨fun σ' H' => ∃ m : Int, σ' = [some (.ref a), some (.int z), some (.int L), some (.int way), some (.int one), some (.int oth), some (.int m), some (.int tur), some (.int lea)] ∧ Same H H' ∧ 1 ≤ m ∧ m ≤ L, ?_, ?_⟩
  · have d2 : CDivW L 2 := wide_div (b := 3) (by decide) (by decide) (by decide) (by decide)
    have d5 : CDivW L 5 := wide_div (b := 3) (by decide) (by decide) (by decide) (by decide)
    refine ⟨.int man, rfl, .int L, rfl, .int L, rfl, _, 2, rfl, rfl, d2, 1, L / 2, rfl, .int L, rfl, _, 5, rfl, rfl, d5, 1, L / 5, rfl, .int L, rfl, (by show 4 ≤ sizeLine; decide), fun l2 nl2 => ?_⟩
    have b2 : 1 ≤ (if L / 2 > 1 then L / 2 else 1) ∧ (if L / 2 > 1 then L / 2 else 1) ≤ L := by split <;> omega
    have b5 : 1 ≤ (if L / 5 > 1 then L / 5 else 1) ∧ (if L / 5 > 1 then L / 5 else 1) ≤ L := by split <;> omega
    generalize (if L / 2 > 1 then L / 2 else 1) = M2 at b2
    generalize (if L / 5 > 1 then L / 5 else 1) = M5 at b5
    obtain ⟨v, hv, hv2⟩ := at4 (a := L) (b := M2) (c := M5) (d := L) (r := way)
    have v1 : 1 ≤ v ∧ v ≤ L := by omega
    refine ⟨.int way, rfl, _, 4, rfl, rfl, (by show (0 : Int) < 4; decide), l2, _, _, .int v, rfl, rfl, .inl (.inl upd_same), hv, _, _, rfl, rfl, (by show 0 < v; omega), 1, _, rfl, rfl, 1 + man % v, rfl, sH2.trans (same_upd nl2), ?_, ?_⟩
    · have := Int.emod_nonneg man (show v ≠ 0 by omega); omega
    · have := Int.emod_lt_of_pos man (show 0 < v by omega); omega
  rintro σ' H3 ⟨m, rfl, s3, m1, m2⟩
  refine ⟨.int one, rfl, .int L, rfl, .int m, rfl, _, _, rfl, rfl, _, 1, rfl, rfl, _, _, rfl, rfl, (by show 0 < L - m + 1; omega), ?_⟩
  refine ⟨.int oth, rfl, .int L, rfl, .int m, rfl, _, _, rfl, rfl, _, 1, rfl, rfl, _, _, rfl, rfl, (by show 0 < L - m + 1; omega), ?_⟩
  have o1 : 0 ≤ one % (L - m + 1) ∧ one % (L - m + 1) + m ≤ L := by
    have := Int.emod_nonneg one (show L - m + 1 ≠ 0 by omega)
    have := Int.emod_lt_of_pos one (show 0 < L - m + 1 by omega)
    omega
  have o2 : 0 ≤ oth % (L - m + 1) ∧ oth % (L - m + 1) + m ≤ L := by
    have := Int.emod_nonneg oth (show L - m + 1 ≠ 0 by omega)
    have := Int.emod_lt_of_pos oth (show 0 < L - m + 1 by omega)
    omega
  show C8.tCut _ _ _ [some (.ref a), some (.int z), some (.int L), some (.int way), some (.int (one % (L - m + 1))), some (.int (oth % (L - m + 1))), some (.int m), some (.int tur), some (.int lea)] H3
  generalize one % (L - m + 1) = p at *
  generalize oth % (L - m + 1) = r at *
  -- way 1, 5
  refine ⟨fun σ' H' => ∃ r : Int, σ' = [some (.ref a), some (.int z), some (.int L), some (.int way), some (.int p), some (.int r), some (.int m), some (.int tur), some (.int lea)] ∧ H' = H3 ∧ 0 ≤ r ∧ r + m ≤ L, ?_, ?_⟩
  · have mx : 0 < (if m > 1 then m else 1) := by split <;> omega
    refine ⟨.int way, rfl, rfl, _, rfl, ite2 (fun c => iteT ?_) (fun c => ?_)⟩
    · refine ⟨.int L, rfl, .int m, rfl, _, _, rfl, rfl, .int p, rfl, .int lea, rfl, .int m, rfl, 1, m, rfl, _, _, rfl, rfl, mx, _, _, rfl, rfl, _, _, rfl, ?_⟩
      generalize (if m > 1 then m else 1) = M at mx
      have := Int.emod_nonneg lea (show M ≠ 0 by omega)
      generalize lea % M = q0 at *
      exact ⟨_, rfl, rfl, by split <;> omega, by split <;> omega⟩
    refine ⟨.int way, rfl, rfl, _, rfl, ite2 (fun c => ?_) (fun c => ?_)⟩
    · refine ⟨.int L, rfl, .int m, rfl, _, _, rfl, rfl, .int p, rfl, .int lea, rfl, .int m, rfl, 1, m, rfl, _, _, rfl, rfl, mx, _, _, rfl, rfl, _, _, rfl, ?_⟩
      generalize (if m > 1 then m else 1) = M at mx
      have := Int.emod_nonneg lea (show M ≠ 0 by omega)
      generalize lea % M = q0 at *
      exact ⟨_, rfl, rfl, by split <;> omega, by split <;> omega⟩
    exact ⟨r, rfl, rfl, o2.1, o2.2⟩
  rintro σ' H' ⟨r, rfl, rfl, r1, r2⟩
  -- way 6
  refine ⟨fun σ' H'' => ∃ r : Int, σ' = [some (.ref a), some (.int z), some (.int L), some (.int way), some (.int p), some (.int r), some (.int m), some (.int tur), some (.int lea)] ∧ H'' = H' ∧ 0 ≤ r ∧ r + m ≤ L, ?_, ?_⟩
  · refine ⟨.int way, rfl, rfl, _, rfl, ite2 (fun c => ?_) (fun c => ?_)⟩
    · exact ⟨.int p, rfl, p, rfl, rfl, o1.1, o1.2⟩
    · exact ⟨r, rfl, rfl, r1, r2⟩
  rintro σ' H'' ⟨r, rfl, rfl, r1, r2⟩
  -- way 7
  refine ⟨fun σ' H1 => ∃ p r : Int, σ' = [some (.ref a), some (.int z), some (.int L), some (.int way), some (.int p), some (.int r), some (.int m), some (.int tur), some (.int lea)] ∧ H1 = H'' ∧ 0 ≤ p ∧ p + m ≤ L ∧ 0 ≤ r ∧ r + m ≤ L, ?_, ?_⟩
  · refine ⟨.int way, rfl, rfl, _, rfl, ite2 (fun c => ?_) (fun c => ?_)⟩
    · exact ⟨.int L, rfl, .int m, rfl, _, _, rfl, rfl, 0, L - m, rfl, rfl, by omega, by omega, by omega, by omega⟩
    · exact ⟨p, r, rfl, rfl, o1.1, o1.2, r1, r2⟩
  rintro σ' H1 ⟨p, r, rfl, rfl, p1, p2, r1, r2⟩
  refine ⟨.int p, rfl, .int r, rfl, .int m, rfl, ?_⟩
  have fin : ∀ b : Bool, ([V.int p, .int r, .int m, .bl b] : List V).length ≤ sizeLine ∧ ∀ t, H1 t = none → Q (.ref t) (upd H1 t (.tup [V.int p, .int r, .int m, .bl b])) := fun b => by
    refine ⟨by show 4 ≤ sizeLine; decide, fun t nt => ?_⟩
    exact q _ _ ⟨p, r, m, b⟩ (s3.trans (same_upd nt)) (IsSy.of upd_same) ⟨p1, r1, m1, p2, r2⟩
  refine ⟨.int tur, rfl, rfl, _, rfl, ite2 (fun c => fin true) (fun c => ?_)⟩
  exact ⟨.int way, rfl, rfl, fin _⟩
end
end Rep
namespace Rep
open PySem L2
/-! the law's own comparison: of equal data it is True -/
def tyN : PyData → String
  | .none => "NoneType"
  | .bool _ => "bool"
  | .int _ => "int"
  | .str _ => "str"
  | .list _ => "list"
  | .tuple _ => "tuple"
  | .dict _ => "dict"
theorem DT.ty {K : PySem.W.Frag} {H : Hp} {n : Nat} {v : V} {d : PyData} (h : DT H n v d) : TyX K H v (.type (tyN d)) := by
  cases h with
  | non => exact .base .non
  | bl b => exact .base (.bl b)
  | int i => exact .base (.int i)
  | str x => exact .base (.str x)
  | lst e _ _ _ => exact .base (.lst e)
  | tup e _ _ _ => exact .base (.tup e)
theorem kit_any {H : Hp} {n : Nat} {v : V} {d : PyData} (h : DT H n v d) : (∃ b, kitB (tyN d) "bool" = some b) ∧ (∃ b, kitB (tyN d) "int" = some b) ∧ (∃ b, kitB (tyN d) "list" = some b) ∧ (∃ b, kitB (tyN d) "tuple" = some b) ∧ (∃ b, kitB (tyN d) "str" = some b) := by
  cases h with
  | non => exact ⟨⟨false, by decide +kernel⟩, ⟨false, by decide +kernel⟩, ⟨false, by decide +kernel⟩, ⟨false, by decide +kernel⟩, ⟨false, by decide +kernel⟩⟩
  | bl b => exact ⟨⟨true, show kitB "bool" "bool" = some true by decide +kernel⟩, ⟨true, show kitB "bool" "int" = some true by decide +kernel⟩, ⟨false, show kitB "bool" "list" = some false by decide +kernel⟩, ⟨false, show kitB "bool" "tuple" = some false by decide +kernel⟩, ⟨false, show kitB "bool" "str" = some false by decide +kernel⟩⟩
  | int i => exact ⟨⟨false, show kitB "int" "bool" = some false by decide +kernel⟩, ⟨true, show kitB "int" "int" = some true by decide +kernel⟩, ⟨false, show kitB "int" "list" = some false by decide +kernel⟩, ⟨false, show kitB "int" "tuple" = some false by decide +kernel⟩, ⟨false, show kitB "int" "str" = some false by decide +kernel⟩⟩
  | str x => exact ⟨⟨false, show kitB "str" "bool" = some false by decide +kernel⟩, ⟨false, show kitB "str" "int" = some false by decide +kernel⟩, ⟨false, show kitB "str" "list" = some false by decide +kernel⟩, ⟨false, show kitB "str" "tuple" = some false by decide +kernel⟩, ⟨true, show kitB "str" "str" = some true by decide +kernel⟩⟩
  | lst _ _ _ _ => exact ⟨⟨false, show kitB "list" "bool" = some false by decide +kernel⟩, ⟨false, show kitB "list" "int" = some false by decide +kernel⟩, ⟨true, show kitB "list" "list" = some true by decide +kernel⟩, ⟨false, show kitB "list" "tuple" = some false by decide +kernel⟩, ⟨false, show kitB "list" "str" = some false by decide +kernel⟩⟩
  | tup _ _ _ _ => exact ⟨⟨false, show kitB "tuple" "bool" = some false by decide +kernel⟩, ⟨false, show kitB "tuple" "int" = some false by decide +kernel⟩, ⟨false, show kitB "tuple" "list" = some false by decide +kernel⟩, ⟨true, show kitB "tuple" "tuple" = some true by decide +kernel⟩, ⟨false, show kitB "tuple" "str" = some false by decide +kernel⟩⟩
structure Two (H : Hp) (m : Nat) (xs ys : List V) : Prop where
  few : xs.length ≤ 14000000
  len : xs.length = ys.length
  at_ : ∀ (i : Nat) (u v : V), xs[i]? = some u → ys[i]? = some v → ∃ d, DT H m u d ∧ DT H m v d
theorem two_of {H : Hp} {m : Nat} {xs ys : List V} {ds : List PyData} (l0 : xs.length ≤ 14000000) (l1 : xs.length = ds.length) (l2 : ys.length = ds.length) (h1 : ∀ (i : Nat) (x : V) (d : PyData), xs[i]? = some x → ds[i]? = some d → DT H m x d) (h2 : ∀ (i : Nat) (x : V) (d : PyData), ys[i]? = some x → ds[i]? = some d → DT H m x d) : Two H m xs ys := by
  refine ⟨l0, l1.trans l2.symm, fun i u v hu hv => ?_⟩
  have hi : i < ds.length := by
    have := (List.getElem?_eq_some_iff.mp hu).1
    omega
  exact ⟨ds[i], h1 i u _ hu (List.getElem?_eq_getElem hi), h2 i v _ hv (List.getElem?_eq_getElem hi)⟩
theorem DT.kinds {H : Hp} {n : Nat} {x y : V} {d : PyData} (hx : DT H n x d) (hy : DT H n y d) :
    (kitB (tyN d) "list" = some false ∧ kitB (tyN d) "tuple" = some false ∧ x = y ∧ scal x y = true) ∨
    (∃ m a b xs ys, n = m + 1 ∧ kitB (tyN d) "list" = some true ∧ x = .ref a ∧ y = .ref b ∧ H a = some (.lst xs) ∧ H b = some (.lst ys) ∧ Two H m xs ys) ∨
    (∃ m a b xs ys, n = m + 1 ∧ kitB (tyN d) "list" = some false ∧ kitB (tyN d) "tuple" = some true ∧ x = .ref a ∧ y = .ref b ∧ H a = some (.tup xs) ∧ H b = some (.tup ys) ∧ Two H m xs ys) := by
  cases hx with
  | non => cases hy; exact .inl ⟨show kitB "NoneType" "list" = some false by decide +kernel, show kitB "NoneType" "tuple" = some false by decide +kernel, rfl, rfl⟩
  | bl b => cases hy; exact .inl ⟨show kitB "bool" "list" = some false by decide +kernel, show kitB "bool" "tuple" = some false by decide +kernel, rfl, rfl⟩
  | int b => cases hy; exact .inl ⟨show kitB "int" "list" = some false by decide +kernel, show kitB "int" "tuple" = some false by decide +kernel, rfl, rfl⟩
  | str b => cases hy; exact .inl ⟨show kitB "str" "list" = some false by decide +kernel, show kitB "str" "tuple" = some false by decide +kernel, rfl, rfl⟩
  | lst e l z h =>
    cases hy with
    | lst e' l' z' h' => exact .inr (.inl ⟨_, _, _, _, _, rfl, show kitB "list" "list" = some true by decide +kernel, rfl, rfl, e, e', two_of z l l' h h'⟩)
  | tup e l z h =>
    cases hy with
    | tup e' l' z' h' => exact .inr (.inr ⟨_, _, _, _, _, rfl, show kitB "tuple" "list" = some false by decide +kernel, show kitB "tuple" "tuple" = some true by decide +kernel, rfl, rfl, e, e', two_of z l l' h h'⟩)
theorem walk_zipT {K : PySem.W.Frag} {a b : Addr} {xs ys : List V} (hl : xs.length = ys.length) : Walk (RZ.ItzT K a b) xs.length (fun H => SqT K H a xs ∧ SqT K H b ys) (YPair (fun i => xs[i]?) (fun i => ys[i]?)) := by
  refine ⟨fun i H hi q => ⟨xs, ys, xs[i], ys[i]'(by omega), q.1, q.2, List.getElem?_eq_getElem hi, List.getElem?_eq_getElem (by omega)⟩, fun H q => ⟨xs, ys, q.1, q.2, .inl (Nat.le_refl _)⟩, fun i H v H' hi q y => ?_⟩
  obtain ⟨T, x, y, e, hT, e2, f1, f2⟩ := y
  exact ⟨T, x, y, e, hT, e2, f1 _ q.1, f2 _ q.2⟩
theorem all_true : ∀ n : Nat, (List.replicate n true).all id = true
  | 0 => rfl
  | n + 1 => by
    show (true && (List.replicate n true).all id) = true
    rw [all_true n]; rfl
theorem rep_snoc (n : Nat) : (List.replicate (n + 1) true).map V.bl = (List.replicate n true).map V.bl ++ [V.bl true] := by
  rw [List.replicate_succ', List.map_append]; rfl
def spSame : Nat → Sp
  | 0 => fun _ _ _ _ => False
  | n + 1 => fun vs H Q _ => ∃ (x y : V) (d : PyData), vs = [x, y] ∧ DT H n x d ∧ DT H n y d ∧ ∀ H', Same H H' → Q (.bl true) H'
abbrev nSame : List Str := ["_law_told", "_law_due", "_law_one", "_law_other"]
theorem scSame : FnScope nSame ["_law_told", "_law_due"] (defScope sSame) := ⟨rfl, rfl, rfl, by decide +kernel, rfl, by decide +kernel, by decide +kernel⟩
structure TySame (mg : Str → Option Value) : Prop where
  isi : mg "isinstance" = none
  bool : mg "bool" = none
  int : mg "int" = none
  list : mg "list" = none
  tuple : mg "tuple" = none
  str : mg "str" = none
  len : mg "len" = none
  all : mg "all" = none
  zip : mg "zip" = none
section
variable {P : Program} {w : World} {K : PySem.W.Frag} {mg : Str → Option Value} {base : Heap}
theorem ok_same1 {f : Addr} {fd : FuncData} {n : Nat} (F : Fun K "_law_same" "_law_same" sSame f fd) (G : FnOk P w K mg base CX0 n f fd ["_law_told", "_law_due"] (spSame n)) (bG : Binds K fd ["_law_told", "_law_due"] []) (gG : mg "_law_same" = some (.ref f)) (T : TySame mg) :
    FnOk P w K mg base CX0 (n + 1) f fd ["_law_told", "_law_due"] (spSame (n + 1)) := by
  refine F.ok scSame (fun vs H Q E h => ?_) (fun cdv A outer s H vs Q E hr h => ?_)
  · obtain ⟨x, y, d, rfl, _⟩ := h; rfl
  obtain ⟨x, y, d, rfl, hx, hy, q⟩ := h
  refine ⟨_, pss_cons (ps_if (pt_cmpR op_isN (pv 1) pe_non (nomark _)) (pss_one (ps_ret (pe_cmpR op_isN (pv 0) pe_non (nomark _)))) pss_nil)
    (pss_cons (ps_if (PW.pt (pw_or (pt_cmpR op_ne (pe_callB call_isi (by rfl) T.isi PyProof.Rows.boot_isinstance (pa_cons (pv 0) (pa_cons (pe_bltn (v := .ty "bool") (by rfl) T.bool PyProof.Rows.boot_bool rfl) pa_nil))) (pe_callB call_isi (by rfl) T.isi PyProof.Rows.boot_isinstance (pa_cons (pv 1) (pa_cons (pe_bltn (v := .ty "bool") (by rfl) T.bool PyProof.Rows.boot_bool rfl) pa_nil))) (nomark _))
        (pw_or1 (pt_cmpR op_ne (pe_callB call_isi (by rfl) T.isi PyProof.Rows.boot_isinstance (pa_cons (pv 0) (pa_cons (pe_bltn (v := .ty "int") (by rfl) T.int PyProof.Rows.boot_int rfl) pa_nil))) (pe_callB call_isi (by rfl) T.isi PyProof.Rows.boot_isinstance (pa_cons (pv 1) (pa_cons (pe_bltn (v := .ty "int") (by rfl) T.int PyProof.Rows.boot_int rfl) pa_nil))) (nomark _)))))
      (pss_one (ps_ret pe_bl)) pss_nil)
    (pss_cons (ps_if (PW.pt (pw_or (pt_cmpR op_ne (pe_callB call_isi (by rfl) T.isi PyProof.Rows.boot_isinstance (pa_cons (pv 0) (pa_cons (pe_bltn (v := .ty "list") (by rfl) T.list PyProof.Rows.boot_list rfl) pa_nil))) (pe_callB call_isi (by rfl) T.isi PyProof.Rows.boot_isinstance (pa_cons (pv 1) (pa_cons (pe_bltn (v := .ty "list") (by rfl) T.list PyProof.Rows.boot_list rfl) pa_nil))) (nomark _))
        (pw_or1 (pt_cmpR op_ne (pe_callB call_isi (by rfl) T.isi PyProof.Rows.boot_isinstance (pa_cons (pv 0) (pa_cons (pe_bltn (v := .ty "tuple") (by rfl) T.tuple PyProof.Rows.boot_tuple rfl) pa_nil))) (pe_callB call_isi (by rfl) T.isi PyProof.Rows.boot_isinstance (pa_cons (pv 1) (pa_cons (pe_bltn (v := .ty "tuple") (by rfl) T.tuple PyProof.Rows.boot_tuple rfl) pa_nil))) (nomark _)))))
      (pss_one (ps_ret pe_bl)) pss_nil)
    (pss_cons (ps_if (PW.pt (pw_and (pt_not (pt_val (pe_callB call_isi (by rfl) T.isi PyProof.Rows.boot_isinstance (pa_cons (pv 1) (pa_cons (pe_bltn (v := .ty "list") (by rfl) T.list PyProof.Rows.boot_list rfl) pa_nil)))))
        (pw_and1 (pt_not (pt_val (pe_callB call_isi (by rfl) T.isi PyProof.Rows.boot_isinstance (pa_cons (pv 1) (pa_cons (pe_bltn (v := .ty "tuple") (by rfl) T.tuple PyProof.Rows.boot_tuple rfl) pa_nil))))))))
      (pss_one (ps_ret (pe_and (pe_cmpR op_eq (pe_callB call_isi (by rfl) T.isi PyProof.Rows.boot_isinstance (pa_cons (pv 0) (pa_cons (pe_bltn (v := .ty "str") (by rfl) T.str PyProof.Rows.boot_str rfl) pa_nil))) (pe_callB call_isi (by rfl) T.isi PyProof.Rows.boot_isinstance (pa_cons (pv 1) (pa_cons (pe_bltn (v := .ty "str") (by rfl) T.str PyProof.Rows.boot_str rfl) pa_nil))) (nomark _))
        (pe_one (pe_cmpR op_eq (pv 0) (pv 1) (nomark _)))))) pss_nil)
    (pss_one (ps_ret (pe_and (pe_cmpR op_eq (pe_callB call_len_seq (by rfl) T.len PySem.boot_len (pa_cons (pv 0) pa_nil)) (pe_callB call_len_seq (by rfl) T.len PySem.boot_len (pa_cons (pv 1) pa_nil)) (nomark _))
      (pe_one (pe_callB (cr_all rfl) (by rfl) T.all PyProof.Rows.boot_all (pa_cons (pe_lc (own := [("_law_one", 2), ("_law_other", 3)]) (g := gTup K 2 (gCons (gName 2) (gCons (gName 3) gNil))) (tt := tYes) rfl scSame.nd
        (RZ.pi_zipA (by rfl) T.zip (pa_cons (pv 0) (pa_cons (pv 1) pa_nil))) (blkOk_by (N := nSame) (sc := defScope sSame) (by decide +kernel))
        (fun _ _ _ _ _ => pg_tup rfl (pgs_cons (pg_name (i := 2) scSame.nd rfl (.inl rfl)) (pgs_cons (pg_name (i := 3) scSame.nd rfl (.inl rfl)) pgs_nil))) (fun _ _ _ _ _ => pts_nil)
        (fun _ _ _ _ _ => pe_call G hr (by rfl) gG F.kp bG .nil pass0 (pa_cons (pv 2) (pa_cons (pv 3) pa_nil)))) pa_nil))))))))), ?_⟩
  obtain ⟨⟨b1, k1⟩, ⟨b2, k2⟩, ⟨b3, k3⟩, ⟨b4, k4⟩, ⟨b5, k5⟩⟩ := kit_any hy
  have tx := hx.ty (K := K)
  have ty := hy.ty (K := K)
  have e1 := kit_ty (K := K) k1
  have e2 := kit_ty (K := K) k2
  have e3 := kit_ty (K := K) k3
  have e4 := kit_ty (K := K) k4
  have e5 := kit_ty (K := K) k5
  have nn : ∀ b : Bool, (!decide (V.bl b = V.bl b)) = false := fun b => by rw [decide_eq_true rfl]; rfl
  refine ⟨y, rfl, rfl, _, rfl, ite2 (fun c => ?_) (fun c => ?_)⟩
  · have c' : y = .non := of_decide_eq_true c
    subst c'
    cases hy
    cases hx
    exact ⟨_, rfl, rfl, q H (Same.refl H)⟩
  have cn : ¬ y = .non := fun e => c (decide_eq_true e)
  refine ⟨x, rfl, x, _, _, _, b1, rfl, .ty "bool", tx, e1, y, rfl, y, _, _, _, b1, rfl, .ty "bool", ty, e1, rfl, _, rfl, ?_⟩
  rw [nn]
  refine iteF ?_
  refine ⟨x, rfl, x, _, _, _, b2, rfl, .ty "int", tx, e2, y, rfl, y, _, _, _, b2, rfl, .ty "int", ty, e2, rfl, _, rfl, ?_⟩
  rw [nn]
  refine iteF ?_
  refine ⟨x, rfl, x, _, _, _, b3, rfl, .ty "list", tx, e3, y, rfl, y, _, _, _, b3, rfl, .ty "list", ty, e3, rfl, _, rfl, ?_⟩
  rw [nn]
  refine iteF ?_
  refine ⟨x, rfl, x, _, _, _, b4, rfl, .ty "tuple", tx, e4, y, rfl, y, _, _, _, b4, rfl, .ty "tuple", ty, e4, rfl, _, rfl, ?_⟩
  rw [nn]
  refine iteF ?_
  refine ⟨y, rfl, y, _, _, _, b3, rfl, .ty "list", ty, e3, _, rfl, ?_⟩
  rcases hx.kinds hy with ⟨j3, j4, exy, hsc⟩ | ⟨m, a, b, xs, ys, en, j3, ex, ey, ha, hb, two⟩ | ⟨m, a, b, xs, ys, en, j3, j4, ex, ey, ha, hb, two⟩
  · have f3 : b3 = false := Option.some.inj (k3.symm.trans j3)
    have f4 : b4 = false := Option.some.inj (k4.symm.trans j4)
    subst f3 f4 exy
    refine iteT ?_
    refine ⟨x, rfl, x, _, _, _, false, rfl, .ty "tuple", ty, e4, _, rfl, ?_⟩
    refine iteT ?_
    refine ⟨x, rfl, x, _, _, _, b5, rfl, .ty "str", tx, e5, x, rfl, x, _, _, _, b5, rfl, .ty "str", ty, e5, rfl, _, rfl, ?_⟩
    rw [decide_eq_true rfl]
    refine iteT ?_
    refine ⟨x, rfl, x, rfl, hsc, ?_⟩
    rw [decide_eq_true rfl]
    exact q H (Same.refl H)
  · have f3 : b3 = true := Option.some.inj (k3.symm.trans j3)
    subst f3 ex ey en
    refine iteF ?_
    refine iteF ?_
    refine ⟨.ref a, rfl, a, xs, rfl, .inl (.inl (.inl ha)), .ref b, rfl, b, ys, rfl, .inl (.inl (.inl hb)), rfl, _, rfl, ?_⟩
    rw [decide_eq_true (by rw [two.len])]
    refine iteT ?_
    refine ⟨.ref a, rfl, .ref b, rfl, a, b, xs, ys, rfl, .inl ⟨.inl (.inl ha), .inl (.inl hb), fun D nD => ?_⟩⟩
    have s1 : Same H (upd H D (.lst [])) := same_upd nD
    refine lc_it (walk_zip (K := K) (a := a) (b := b) (xs := xs) (ys := ys) (n := xs.length) (by rw [two.len, Nat.min_self])) (fun i H3 => Same H H3 ∧ H3 D = some (.lst ((List.replicate i true).map V.bl)) ∧ i ≤ xs.length) ⟨s1, upd_same, Nat.zero_le _⟩ (fun i H3 _ hP => ⟨hP.1.seq (.inl (.inl ha)), hP.1.seq (.inl (.inl hb))⟩) (fun i v H3 H4 hi hP hy4 => ?_) (fun H3 hP => ?_)
    · obtain ⟨sm, eD, _⟩ := hP
      obtain ⟨t, u1, u2, rfl, nt, rfl, g1, g2⟩ := hy4
      obtain ⟨du, d1, d2⟩ := two.at_ i u1 u2 g1 g2
      have s4 := same_upd (o := .tup [u1, u2]) nt
      have s5 := sm.trans s4
      refine ⟨t, [u1, u2], rfl, .inl (.inl upd_same), rfl, _, _, rfl, _, _, rfl, rfl, rfl, ?_⟩
      refine tYes_ok ?_
      refine iteT ?_
      refine ⟨u1, rfl, u2, rfl, u1, u2, du, rfl, d1.same s5, d2.same s5, fun H6 s6 => ?_⟩
      refine ⟨_, s6 _ _ (s4 _ _ eD), ?_, same_over (s5.trans s6) nD, ?_, hi⟩
      · rw [List.length_map, List.length_replicate]
        exact Nat.lt_of_le_of_lt (show i ≤ 14000000 by have := two.few; omega) (by decide)
      · rw [upd_same, rep_snoc]
    · obtain ⟨sm, eD, _⟩ := hP
      refine ⟨D, _, rfl, .inl (.inl eD), ?_⟩
      rw [all_true]
      exact q H3 sm
  · have f3 : b3 = false := Option.some.inj (k3.symm.trans j3)
    have f4 : b4 = true := Option.some.inj (k4.symm.trans j4)
    subst f3 f4 ex ey en
    refine iteT ?_
    refine ⟨.ref b, rfl, .ref b, _, _, _, true, rfl, .ty "tuple", ty, e4, _, rfl, ?_⟩
    refine iteF ?_
    refine ⟨.ref a, rfl, a, xs, rfl, .inr (.inl (.inl ha)), .ref b, rfl, b, ys, rfl, .inr (.inl (.inl hb)), rfl, _, rfl, ?_⟩
    rw [decide_eq_true (by rw [two.len])]
    refine iteT ?_
    refine ⟨.ref a, rfl, .ref b, rfl, a, b, xs, ys, rfl, .inr ⟨.inl (.inl ha), .inl (.inl hb), fun D nD => ?_⟩⟩
    have s1 : Same H (upd H D (.lst [])) := same_upd nD
    refine lc_it (walk_zipT (K := K) (a := a) (b := b) two.len) (fun i H3 => Same H H3 ∧ H3 D = some (.lst ((List.replicate i true).map V.bl)) ∧ i ≤ xs.length) ⟨s1, upd_same, Nat.zero_le _⟩ (fun i H3 _ hP => ⟨.inl (.inl (hP.1 _ _ ha)), .inl (.inl (hP.1 _ _ hb))⟩) (fun i v H3 H4 hi hP hy4 => ?_) (fun H3 hP => ?_)
    · obtain ⟨sm, eD, _⟩ := hP
      obtain ⟨t, u1, u2, rfl, nt, rfl, g1, g2⟩ := hy4
      obtain ⟨du, d1, d2⟩ := two.at_ i u1 u2 g1 g2
      have s4 := same_upd (o := .tup [u1, u2]) nt
      have s5 := sm.trans s4
      refine ⟨t, [u1, u2], rfl, .inl (.inl upd_same), rfl, _, _, rfl, _, _, rfl, rfl, rfl, ?_⟩
      refine tYes_ok ?_
      refine iteT ?_
      refine ⟨u1, rfl, u2, rfl, u1, u2, du, rfl, d1.same s5, d2.same s5, fun H6 s6 => ?_⟩
      refine ⟨_, s6 _ _ (s4 _ _ eD), ?_, same_over (s5.trans s6) nD, ?_, hi⟩
      · rw [List.length_map, List.length_replicate]
        exact Nat.lt_of_le_of_lt (show i ≤ 14000000 by have := two.few; omega) (by decide)
      · rw [upd_same, rep_snoc]
    · obtain ⟨sm, eD, _⟩ := hP
      refine ⟨D, _, rfl, .inl (.inl eD), ?_⟩
      rw [all_true]
      exact q H3 sm
theorem same_none {f : Addr} {fd : FuncData} : FnOk P w K mg base CX0 0 f fd ["_law_told", "_law_due"] (spSame 0) :=
  ⟨fun _ _ _ _ h => h.elim, fun _ _ _ _ _ _ _ _ _ _ _ _ _ h => h.elim⟩
theorem ok_same {f : Addr} {fd : FuncData} (F : Fun K "_law_same" "_law_same" sSame f fd) (bG : Binds K fd ["_law_told", "_law_due"] []) (gG : mg "_law_same" = some (.ref f)) (T : TySame mg) :
    ∀ n : Nat, FnOk P w K mg base CX0 n f fd ["_law_told", "_law_due"] (spSame n)
  | 0 => same_none
  | n + 1 => ok_same1 F (ok_same F bG gG T n) bG gG T
end
end Rep
namespace Rep
open PySem L2
def spSays (K : PySem.W.Frag) : Sp := fun vs H Q _ => ∃ (a : Addr) (ns : List Int) (k L : Int) (m : Nat), vs = [.ref a, .int k, .int L, .int (m : Int)] ∧ SqL K H a (ns.map V.int) ∧ ns.length ≤ 63 ∧ 0 ≤ L ∧ L ≤ 10 ^ 41 ∧ m ≤ 1000 ∧
  ∀ H' o xs ss, Same H H' → H o = none → H' o = some (.lst xs) → SL H' xs ss → (∀ s ∈ ss, Good L s) → ss.length ≤ m → Q (.ref o) H'
abbrev nSays : List Str := ["_law_script", "_law_k", "_law_length", "_law_many", "_law_at"]
theorem scSays : FnScope nSays ["_law_script", "_law_k", "_law_length", "_law_many"] (defScope s_law_sayings) := ⟨rfl, rfl, rfl, by decide +kernel, rfl, by decide +kernel, by decide +kernel⟩
section
variable {P : Program} {w : World} {K : PySem.W.Frag} {mg : Str → Option Value} {base : Heap}
theorem ok_says {f fS : Addr} {fd fdS : FuncData} {k : Nat} (F : Fun K "_law_sayings" "_law_sayings" s_law_sayings f fd) (GS : FnOk P w K mg base CX0 k fS fdS ["_law_script", "_law_k", "_law_length"] (spSay K)) (kS : PySem.W.keepIn K (.ref fS) = true) (bS : Binds K fdS ["_law_script", "_law_k", "_law_length"] []) (mS_ : mg "_law_saying" = some (.ref fS)) (mR : mg "range" = none) : FnOk P w K mg base CX0 (k + 1) f fd ["_law_script", "_law_k", "_law_length", "_law_many"] (spSays K) := by
  refine F.ok scSays (fun vs H Q E h => ?_) (fun cdv A outer s H vs Q E hr h => ?_)
  · obtain ⟨a, ns, z, L, m, rfl, _⟩ := h; rfl
  obtain ⟨a, ns, z, L, m, rfl, hS, h63, hL0, hL2, hm, q⟩ := h
  refine ⟨_, (pss_cons (ps_if (pt_cmpR op_lt (pv 2) pe_int (nomark _)) (pss_one (ps_ret (pe_lst pa_nil))) pss_nil)
    (pss_one (ps_ret (pe_lc (own := [("_law_at", 4)]) (g := (gName 4)) (tt := tYes) rfl scSays.nd (pi_range1 rfl mR (pa_cons (pv 3) pa_nil)) (blkOk_by (N := nSays) (sc := defScope s_law_sayings) (by decide +kernel)) (fun _ _ _ _ _ => (pg_name (i := 4) scSays.nd rfl (.inl rfl))) (fun _ _ _ _ _ => pts_nil) (fun _ _ _ _ _ => (pe_call GS hr (by rfl) mS_ kS bS .nil pass0 (pa_cons (pv 0) (pa_cons (pe_op op_add (pv 1) (pv 4)) (pa_cons (pv 2) pa_nil))))))))), ?_⟩
  refine ⟨.int L, rfl, _, 1, rfl, rfl, _, rfl, ite2 (fun c => ?_) (fun c => ?_)⟩
  · refine ⟨(by show 0 ≤ sizeLine; decide), fun o no => ?_⟩
    exact q _ o [] [] (same_upd no) no upd_same .nil (fun s hs => by cases hs) (Nat.zero_le _)
  have c1 : ¬ L < 1 := fun e => c (decide_eq_true e)
  refine ⟨.int (m : Int), rfl, (m : Int), rfl, by omega, by omega, fun D nD => ?_⟩
  refine lc_range (n := m) (fun i H3 => ∃ xs ss, Same H H3 ∧ H3 D = some (.lst xs) ∧ SL H3 xs ss ∧ (∀ s ∈ ss, Good L s) ∧ ss.length ≤ i) ⟨[], [], same_upd nD, upd_same, .nil, (fun s hs => by cases hs), Nat.le_refl _⟩ (fun i H3 hi hP => ?_) (fun H3 hP => ?_)
  · obtain ⟨xs, ss, sm, eD, sl, gd, hl⟩ := hP
    refine ⟨rfl, ?_⟩
    refine tYes_ok ?_
    refine iteT ?_
    refine ⟨.ref a, rfl, .int z, rfl, .int (0 + (i : Int)), rfl, _, _, rfl, rfl, .int L, rfl, a, ns, _, L, rfl, sm.seq hS, h63, by omega, hL2, fun H4 v s4 sm4 is4 g4 => ?_⟩
    refine ⟨xs, sm4 _ _ eD, ?_, xs ++ [v], ss ++ [s4], same_over (sm.trans sm4) nD, upd_same, SL.ts (TS.lst (sm4 _ _ eD)) ((SL.ts (TS.of sm4) sl).snoc is4), fun s hs => ?_, ?_⟩
    · rw [sl.len]; exact small1000 (by omega)
    · rcases List.mem_append.mp hs with hs | hs
      · exact gd s hs
      · rw [List.mem_singleton.mp hs]; exact g4
    · rw [List.length_append, List.length_singleton]; omega
  · obtain ⟨xs, ss, sm, eD, sl, gd, hl⟩ := hP
    exact q H3 D xs ss sm nD eD sl gd hl
end
theorem log_of {z : Int} {b : Nat} (h : z.natAbs < 2 ^ b) (h0 : 0 < b) (h9 : b ≤ 9000) : z.natAbs.log2 < 9000 := Nat.lt_of_lt_of_le (PySem.Flt.log2_lt_of h0 h) h9
end Rep
namespace Rep
def Big (x : Int) : Prop := -(10 ^ 45) < x ∧ x < 10 ^ 45
theorem big_abs {x : Int} (h : Big x) : x.natAbs < 2 ^ 200 := by
  obtain ⟨h1, h2⟩ := h
  have : (10 : Int) ^ 45 < 2 ^ 200 := by decide
  have e : ((2 ^ 200 : Nat) : Int) = 2 ^ 200 := by decide +kernel
  omega
end Rep
namespace Rep
open PySem L2
def spSong (K : PySem.W.Frag) : Sp := fun vs H Q _ => ∃ (a : Addr) (ns : List Int) (most : Int), vs = [.ref a, .int most] ∧ SqL K H a (ns.map V.int) ∧ ns.length ≤ 63 ∧ 2 ≤ most ∧ most ≤ 10 ^ 40 ∧
  ∀ H' t o xs ss L, Same H H' → H' t = some (.tup [.int L, .ref o]) → H o = none → H' o = some (.lst xs) → SL H' xs ss → (∀ s ∈ ss, Good L s) → ss.length ≤ 24 → 0 ≤ L → L ≤ most → Q (.ref t) H'
abbrev nSong : List Str := ["_law_script", "_law_most", "_law_length", "_law_many", "_law_odd", "_law_way"]
theorem scSong : FnScope nSong ["_law_script", "_law_most"] (defScope s_law_crowded_song) := ⟨rfl, rfl, rfl, by decide +kernel, rfl, by decide +kernel, by decide +kernel⟩
section
variable {P : Program} {w : World} {K : PySem.W.Frag} {mg : Str → Option Value} {base : Heap}
theorem ok_song {f fD fS : Addr} {fd fdD fdS : FuncData} {k : Nat} (F : Fun K "_law_crowded_song" "_law_crowded_song" s_law_crowded_song f fd) (GD : FnOk P w K mg base CX0 k fD fdD ["_law_script", "_law_k", "_law_sizes"] (spDig K)) (kD : PySem.W.keepIn K (.ref fD) = true) (bD : Binds K fdD ["_law_script", "_law_k", "_law_sizes"] []) (mD_ : mg "_law_digits" = some (.ref fD))
    (GS : FnOk P w K mg base CX0 k fS fdS ["_law_script", "_law_k", "_law_length", "_law_many"] (spSays K)) (kS : PySem.W.keepIn K (.ref fS) = true) (bS : Binds K fdS ["_law_script", "_law_k", "_law_length", "_law_many"] []) (mS_ : mg "_law_sayings" = some (.ref fS)) (mI : mg "int" = none) : FnOk P w K mg base CX0 (k + 1) f fd ["_law_script", "_law_most"] (spSong K) := by
  refine F.ok scSong (fun vs H Q E h => ?_) (fun cdv A outer s H vs Q E hr h => ?_)
  · obtain ⟨a, ns, mo, rfl, _⟩ := h; rfl
  obtain ⟨a, ns, mo, rfl, hS, h63, hm2, hm40, q⟩ := h
  refine ⟨_, (pss_cons (ps_asg (pe_call GD hr (by rfl) mD_ kD bD .nil pass0 (pa_cons (pv 0) (pa_cons pe_int (pa_cons (pe_lst (pa_cons (pe_op op_add (pv 1) pe_int) (pa_cons pe_int (pa_cons pe_int (pa_cons pe_int pa_nil))))) pa_nil)))) (pg_lst rfl (pgs_cons (pg_name (i := 2) scSong.nd rfl (.inl rfl)) (pgs_cons (pg_name (i := 3) scSong.nd rfl (.inl rfl)) (pgs_cons (pg_name (i := 4) scSong.nd rfl (.inl rfl)) (pgs_cons (pg_name (i := 5) scSong.nd rfl (.inl rfl)) pgs_nil))))))
    (C8.pss_cut (ps_if (pt_cmpR op_eq (pv 4) pe_int (nomark _)) (pss_one (ps_set (i := 2) scSong.nd rfl (.inl rfl) (pe_ix ix_list (pe_lst (pa_cons pe_int (pa_cons pe_int (pa_cons pe_int pa_nil)))) (pe_op op_mod (pv 3) pe_int) (fun _ _ => rfl)))) pss_nil)
    (pss_one (ps_ret (pe_tup (pa_cons (pv 2) (pa_cons (pe_call GS hr (by rfl) mS_ kS bS .nil pass0 (pa_cons (pv 0) (pa_cons pe_int (pa_cons (pv 2) (pa_cons (pe_ix ix_list (pe_lst (pa_cons (pv 3) (pa_cons (pe_op op_sub pe_int (pv 3)) pa_nil))) (pe_callTy call_int1 (by rfl) mI PyProof.Rows.boot_int (pa_cons (pe_cmpR op_eq (pv 5) pe_int (nomark _)) pa_nil)) (fun _ _ => rfl)) pa_nil))))) pa_nil))))))), ?_⟩
  refine ⟨.ref a, rfl, .int mo, rfl, _, 1, rfl, rfl, (by show 4 ≤ sizeLine; decide), fun l1 nl1 => ?_⟩
  have s1 := same_upd (o := .lst [.int (mo + 1), .int 7, .int 9, .int 8]) nl1
  refine ⟨a, l1, ns, [mo + 1, 7, 9, 8], 0, rfl, s1.seq hS, h63, .inl (.inl upd_same), by show 4 ≤ 1000; decide, fun y hy => ?_, fun H2 q2 s2 _ eq2 => ?_⟩
  · rcases List.mem_cons.mp hy with rfl | hy
    · exact ⟨by omega, log_of (b := 200) (big_abs ⟨by omega, by omega⟩) (by decide) (by decide)⟩
    rcases List.mem_cons.mp hy with rfl | hy
    · exact ⟨by decide, by decide⟩
    rcases List.mem_cons.mp hy with rfl | hy
    · exact ⟨by decide, by decide⟩
    · rw [List.mem_singleton.mp hy]; exact ⟨by decide, by decide⟩
  generalize rawF ns 0 = ra at eq2
  refine ⟨q2, [.int (ra % (mo + 1)), .int (ra / (mo + 1) % 7), .int (ra / (mo + 1) / 7 % 9), .int (ra / (mo + 1) / 7 / 9 % 8)], rfl, .inl (.inl eq2), rfl, _, _, rfl, _, _, rfl, _, _, rfl, _, _, rfl, rfl, ?_⟩
  have sH2 : Same H H2 := s1.trans s2
  have l0 := Int.emod_nonneg ra (show mo + 1 ≠ 0 by omega)
  have l1' := Int.emod_lt_of_pos ra (show 0 < mo + 1 by omega)
  generalize ra % (mo + 1) = le at *
  obtain ⟨m, hm, hm'⟩ : ∃ m : Nat, ra / (mo + 1) % 7 = (m : Int) ∧ m ≤ 6 := ⟨(ra / (mo + 1) % 7).toNat, by omega, by omega⟩
  rw [hm]
  generalize ra / (mo + 1) / 7 % 9 = od
  generalize ra / (mo + 1) / 7 / 9 % 8 = wa
  refine ⟨fun σ' H' => ∃ L : Int, σ' = [some (.ref a), some (.int mo), some (.int L), some (.int (m : Int)), some (.int od), some (.int wa)] ∧ Same H H' ∧ 0 ≤ L ∧ L ≤ mo, ?_, ?_⟩
  · refine ⟨.int od, rfl, rfl, _, rfl, ite2 (fun c => ?_) (fun c => ?_)⟩
    · refine ⟨(by show 3 ≤ sizeLine; decide), fun l2 nl2 => ?_⟩
      obtain ⟨v, hv, hv2⟩ := at3 (a := 0) (b := 1) (c := 2) (r := (m : Int))
      exact ⟨.int (m : Int), rfl, _, 3, rfl, rfl, (by show (0 : Int) < 3; decide), l2, _, _, .int v, rfl, rfl, .inl (.inl upd_same), hv, v, rfl, sH2.trans (same_upd nl2), by omega, by omega⟩
    · exact ⟨le, rfl, sH2, l0, by omega⟩
  rintro σ' H3 ⟨L, rfl, s3, L0, L1⟩
  refine ⟨.int L, rfl, .ref a, rfl, .int L, rfl, .int (m : Int), rfl, .int (m : Int), rfl, 24, _, rfl, rfl, (by show 2 ≤ sizeLine; decide), fun l3 nl3 => ?_⟩
  have s4 := same_upd (o := .lst [.int (m : Int), .int (24 - (m : Int))]) nl3
  obtain ⟨n, hn, hv⟩ : ∃ n : Nat, n ≤ 24 ∧ atI [V.int (m : Int), V.int (24 - (m : Int))] (if decide (V.int wa = V.int 0) = true then 1 else 0) = some (.int (n : Int)) := by
    cases decide (V.int wa = V.int 0) with
    | true => exact ⟨24 - m, by omega, by show some (V.int (24 - (m : Int))) = _; rw [show (24 - (m : Int)) = ((24 - m : Nat) : Int) by omega]⟩
    | false => exact ⟨m, by omega, rfl⟩
  refine ⟨.int wa, rfl, rfl, .inr ⟨_, rfl, ?_⟩⟩
  refine ⟨l3, _, _, .int (n : Int), rfl, rfl, .inl (.inl upd_same), hv, ?_⟩
  refine ⟨a, ns, 1, L, n, rfl, s4.seq (s3.seq hS), h63, L0, by omega, by omega, fun H5 o xs ss s5 no eo sl gd hl => ?_⟩
  refine ⟨(by show 2 ≤ sizeLine; decide), fun t nt => ?_⟩
  have s6 := same_upd (o := .tup [.int L, .ref o]) nt
  exact q _ t o xs ss L (((s3.trans s4).trans s5).trans s6) upd_same (Same.free (s3.trans s4) no) (s6 _ _ eo) (SL.ts (TS.of s6) sl) gd (by omega) L0 L1
end
end Rep
namespace Rep
open PySem L2
/-! the law's own joining: its mathematics -/
def relP (ps : List Pr) (x y : Int) : Prop := (x, y) ∈ ps
def partAt (s : Sy) (i : Nat) : Pr := (s.lo + (i : Int), s.hi + (if s.t = true then s.n - 1 - (i : Int) else (i : Int)))
def partOf (s : Sy) (m : Nat) : List Pr := (List.range m).map (partAt s)
def partF (ss : List Sy) : List Pr := ss.flatMap fun s => partOf s s.n.toNat
theorem part_says {s : Sy} {x y : Int} : (x, y) ∈ partOf s s.n.toNat ↔ says s.lo s.hi s.n s.t x y := by
  unfold partOf says
  rw [List.mem_map]
  constructor
  · rintro ⟨i, hi, e⟩
    have hi := List.mem_range.mp hi
    obtain ⟨rfl, rfl⟩ := Prod.mk.inj e
    refine ⟨by omega, by omega, ?_⟩
    unfold mate
    cases s.t with
    | true => simp only [if_true]; omega
    | false => simp only [Bool.false_eq_true, if_false]; omega
  · rintro ⟨h1, h2, rfl⟩
    refine ⟨(x - s.lo).toNat, List.mem_range.mpr (by omega), ?_⟩
    unfold partAt mate
    have e : (((x - s.lo).toNat : Nat) : Int) = x - s.lo := by omega
    rw [e]
    cases s.t with
    | true => simp only [if_true, Prod.mk.injEq]; omega
    | false => simp only [Bool.false_eq_true, if_false, Prod.mk.injEq]; omega
theorem part_eq (ss : List Sy) : EqR (relP (partF ss)) (relQ (ss.map q4)) := .of_iff fun x y => by
  unfold relP partF relQ
  rw [List.mem_flatMap]
  constructor
  · rintro ⟨s, hs, h⟩
    exact ⟨q4 s, List.mem_map.mpr ⟨s, hs, rfl⟩, part_says.mp h⟩
  · rintro ⟨q, hq, h⟩
    obtain ⟨s, hs, rfl⟩ := List.mem_map.mp hq
    exact ⟨s, hs, part_says.mpr h⟩
theorem part_in {e : Int} {ss : List Sy} (gd : ∀ s ∈ ss, Good e s) : ∀ p ∈ partF ss, (0 ≤ p.1 ∧ p.1 < e) ∧ 0 ≤ p.2 ∧ p.2 < e := fun p hp => by
  obtain ⟨s, hs, h⟩ := List.mem_flatMap.mp hp
  obtain ⟨i, hi, rfl⟩ := List.mem_map.mp h
  have hi := List.mem_range.mp hi
  obtain ⟨a, b, c, d, f⟩ := gd s hs
  show (0 ≤ s.lo + (i : Int) ∧ s.lo + (i : Int) < e) ∧ 0 ≤ s.hi + (if s.t = true then s.n - 1 - (i : Int) else (i : Int)) ∧ s.hi + (if s.t = true then s.n - 1 - (i : Int) else (i : Int)) < e
  split <;> omega
/-- who stands in the lists of neighbours -/
structure Mm (n : Nat) (S : Int → Int → Prop) (b : Nat) (N : List (List Int)) : Prop where
  len : N.length = n
  mem : ∀ (x : Nat) (l : List Int), N[x]? = some l → ∀ y, y ∈ l ↔ S x y
  bd : ∀ (x : Nat) (l : List Int), N[x]? = some l → l.length ≤ b
theorem Mm.half {n : Nat} {S : Int → Int → Prop} {b : Nat} {N : List (List Int)} (h : Mm n S b N) {x : Nat} {l : List Int} (hx : N[x]? = some l) (y : Int) : Mm n (fun u v => S u v ∨ (u = (x : Int) ∧ v = y)) (b + 1) (N.set x (l ++ [y])) := by
  have hl : x < N.length := (List.getElem?_eq_some_iff.mp hx).1
  refine ⟨by rw [List.length_set]; exact h.len, fun z m hz v => ?_, fun z m hz => ?_⟩
  · by_cases c : z = x
    · subst c
      rw [List.getElem?_set_self hl] at hz
      cases hz
      rw [List.mem_append, List.mem_singleton, h.mem z l hx]
      constructor
      · rintro (a | a)
        · exact .inl a
        · exact .inr ⟨rfl, a⟩
      · rintro (a | ⟨_, a⟩)
        · exact .inl a
        · exact .inr a
    · rw [List.getElem?_set_ne (fun e => c e.symm)] at hz
      rw [h.mem z m hz]
      constructor
      · exact .inl
      · rintro (a | ⟨a, _⟩)
        · exact a
        · exact absurd (Int.ofNat.inj a) c
  · by_cases c : z = x
    · subst c
      rw [List.getElem?_set_self hl] at hz
      cases hz
      rw [List.length_append, List.length_singleton]
      have := h.bd z l hx
      omega
    · rw [List.getElem?_set_ne (fun e => c e.symm)] at hz
      have := h.bd z m hz
      omega
theorem Mm.imp {n : Nat} {S T : Int → Int → Prop} {b b' : Nat} {N : List (List Int)} (h : Mm n S b N) (k : ∀ x y, S x y ↔ T x y) (hb : b ≤ b') : Mm n T b' N :=
  ⟨h.len, fun x l hx y => (h.mem x l hx y).trans (k _ _), fun x l hx => Nat.le_trans (h.bd x l hx) hb⟩
abbrev sym (ps : List Pr) (x y : Int) : Prop := (x, y) ∈ ps ∨ (y, x) ∈ ps
theorem Mm.nil (n : Nat) : Mm n (sym []) 0 (List.replicate n []) := by
  refine ⟨List.length_replicate, fun x l hx y => ?_, fun x l hx => ?_⟩
  · rw [List.getElem?_replicate] at hx
    split at hx
    · cases hx; simp [sym]
    · cases hx
  · rw [List.getElem?_replicate] at hx
    split at hx
    · cases hx; exact Nat.le_refl _
    · cases hx
def okF (F : List Int) (x : Int) : Prop := 0 ≤ x ∧ ∃ g, F[x.toNat]? = some g ∧ g ≠ -1
/-- the search from place i: F what is found, R who waits -/
structure Srch (n : Nat) (ps : List Pr) (N : List (List Int)) (i : Nat) (F R : List Int) : Prop where
  len : F.length = n
  got : ∀ (x : Nat) (f : Int), F[x]? = some f → f ≠ -1 → 0 ≤ f ∧ f ≤ (i : Int) ∧ Eqv (relP ps) x f ∧ ∀ y, 0 ≤ y → Eqv (relP ps) x y → f ≤ y
  not_ : ∀ (x : Nat), F[x]? = some (-1) → ∀ y, 0 ≤ y → y < (i : Int) → ¬ Eqv (relP ps) x y
  clo : ∀ (x : Nat), okF F x → ∀ l, N[x]? = some l → ∀ y ∈ l, okF F y ∨ y ∈ R
  row : ∀ r ∈ R, 0 ≤ r ∧ r < (n : Int) ∧ Eqv (relP ps) i r
  me : okF F i ∨ (i : Int) ∈ R
structure Dn (n : Nat) (ps : List Pr) (N : List (List Int)) (i : Nat) (F : List Int) : Prop where
  len : F.length = n
  got : ∀ (x : Nat) (f : Int), F[x]? = some f → f ≠ -1 → 0 ≤ f ∧ f ≤ (i : Int) ∧ Eqv (relP ps) x f ∧ ∀ y, 0 ≤ y → Eqv (relP ps) x y → f ≤ y
  not_ : ∀ (x : Nat), F[x]? = some (-1) → ∀ y, 0 ≤ y → y < (i : Int) → ¬ Eqv (relP ps) x y
  clo : ∀ (x : Nat), okF F x → ∀ l, N[x]? = some l → ∀ y ∈ l, okF F y
section
variable {n : Nat} {ps : List Pr} {N : List (List Int)} {b : Nat}
theorem Dn.zero : Dn n ps N 0 (List.replicate n (-1)) := by
  have hm : ∀ (x : Nat) (f : Int), (List.replicate n (-1 : Int))[x]? = some f → f = -1 := fun x f h => by
    rw [List.getElem?_replicate] at h
    split at h
    · exact (Option.some.inj h).symm
    · cases h
  exact ⟨List.length_replicate, fun x f h hn => absurd (hm x f h) hn, fun x _ y h0 h1 => by omega, fun x ⟨_, g, hg, hn⟩ => absurd (hm _ g hg) hn⟩
theorem Dn.start {i : Nat} {F : List Int} (h : Dn n ps N i F) (hi : i < n) : Srch n ps N i F [(i : Int)] :=
  ⟨h.len, h.got, h.not_, fun x hx l hl y hy => .inl (h.clo x hx l hl y hy), fun r hr => by rw [List.mem_singleton.mp hr]; exact ⟨by omega, by omega, .refl _⟩, .inr List.mem_cons_self⟩
theorem Srch.skip {i : Nat} {F R : List Int} {h : Int} (s : Srch n ps N i F (R ++ [h])) (ok : okF F h) : Srch n ps N i F R := by
  refine ⟨s.len, s.got, s.not_, fun x hx l hl y hy => ?_, fun r hr => s.row r (List.mem_append_left _ hr), ?_⟩
  · rcases s.clo x hx l hl y hy with a | a
    · exact .inl a
    · rcases List.mem_append.mp a with a | a
      · exact .inr a
      · rw [List.mem_singleton.mp a]; exact .inl ok
  · rcases s.me with a | a
    · exact .inl a
    · rcases List.mem_append.mp a with a | a
      · exact .inr a
      · rw [List.mem_singleton.mp a]; exact .inl ok
theorem Srch.take {i : Nat} {F R l : List Int} {h : Nat} (s : Srch n ps N i F (R ++ [(h : Int)])) (hm : Mm n (sym ps) b N) (hps : ∀ p ∈ ps, (0 ≤ p.1 ∧ p.1 < (n : Int)) ∧ 0 ≤ p.2 ∧ p.2 < (n : Int)) (hF : F[h]? = some (-1)) (hl : N[h]? = some l) : Srch n ps N i (F.set h (i : Int)) (R ++ l) := by
  have hlt : h < F.length := (List.getElem?_eq_some_iff.mp hF).1
  have eh : Eqv (relP ps) i h := (s.row _ (List.mem_append_right _ List.mem_cons_self)).2.2
  have up : ∀ y, okF F y → okF (F.set h (i : Int)) y := fun y ⟨y0, g, hg, hn⟩ => by
    refine ⟨y0, ?_⟩
    by_cases c : y.toNat = h
    · exact ⟨(i : Int), by rw [c, List.getElem?_set_self hlt], by omega⟩
    · exact ⟨g, by rw [List.getElem?_set_ne (fun e => c e.symm)]; exact hg, hn⟩
  have okh : okF (F.set h (i : Int)) h := ⟨by omega, (i : Int), by rw [Int.toNat_natCast, List.getElem?_set_self hlt], by omega⟩
  refine ⟨by rw [List.length_set]; exact s.len, fun x f hx hn => ?_, fun x hx => ?_, fun x hx l' hl' y hy => ?_, fun r hr => ?_, ?_⟩
  · by_cases c : x = h
    · subst c
      rw [List.getElem?_set_self hlt] at hx
      cases hx
      refine ⟨by omega, Int.le_refl _, eh.symm, fun y y0 hy => ?_⟩
      by_cases d : y < (i : Int)
      · exact absurd hy (s.not_ x hF y y0 d)
      · omega
    · rw [List.getElem?_set_ne (fun e => c e.symm)] at hx
      exact s.got x f hx hn
  · by_cases c : x = h
    · subst c
      rw [List.getElem?_set_self hlt] at hx
      have := Option.some.inj hx
      omega
    · rw [List.getElem?_set_ne (fun e => c e.symm)] at hx
      exact s.not_ x hx
  · by_cases c : x = h
    · subst c
      rw [hl] at hl'
      cases hl'
      exact .inr (List.mem_append_right _ hy)
    · have ox : okF F x := by
        obtain ⟨x0, g, hg, hn⟩ := hx
        rw [Int.toNat_natCast, List.getElem?_set_ne (fun e => c e.symm)] at hg
        exact ⟨x0, g, by rw [Int.toNat_natCast]; exact hg, hn⟩
      rcases s.clo x ox l' hl' y hy with a | a
      · exact .inl (up y a)
      · rcases List.mem_append.mp a with a | a
        · exact .inr (List.mem_append_left _ a)
        · rw [List.mem_singleton.mp a]; exact .inl okh
  · rcases List.mem_append.mp hr with a | a
    · exact s.row r (List.mem_append_left _ a)
    · rcases (hm.mem h l hl r).mp a with e | e
      · have := hps _ e
        exact ⟨this.2.1, this.2.2, eh.trans (.of e)⟩
      · have := hps _ e
        exact ⟨this.1.1, this.1.2, eh.trans (Eqv.symm (.of e))⟩
  · rcases s.me with a | a
    · exact .inl (up _ a)
    · rcases List.mem_append.mp a with a | a
      · exact .inr (List.mem_append_left _ a)
      · exact .inl ((congrArg (okF (F.set h (i : Int))) (List.mem_singleton.mp a)).mpr okh)
theorem Srch.done {i : Nat} {F : List Int} (s : Srch n ps N i F []) (hm : Mm n (sym ps) b N) (hps : ∀ p ∈ ps, (0 ≤ p.1 ∧ p.1 < (n : Int)) ∧ 0 ≤ p.2 ∧ p.2 < (n : Int)) : Dn n ps N (i + 1) F := by
  have clo : ∀ (x : Nat), okF F x → ∀ l, N[x]? = some l → ∀ y ∈ l, okF F y := fun x hx l hl y hy => by
    rcases s.clo x hx l hl y hy with a | a
    · exact a
    · cases a
  have step : ∀ x y, okF F x → (0 ≤ y) → x < (n : Int) → sym ps x y → okF F y := fun x y hx y0 xn hs => by
    have x0 := hx.1
    obtain ⟨k, rfl⟩ : ∃ k : Nat, x = (k : Int) := ⟨x.toNat, by omega⟩
    have hk : k < N.length := by rw [hm.len]; omega
    exact clo k hx _ (List.getElem?_eq_getElem hk) y ((hm.mem k _ (List.getElem?_eq_getElem hk) y).mpr hs)
  have along : ∀ x y, Eqv (relP ps) x y → (okF F x ↔ okF F y) := fun x y e => by
    induction e with
    | refl x => exact Iff.rfl
    | @of x y r =>
      have := hps _ r
      exact ⟨fun h => step x y h this.2.1 this.1.2 (.inl r), fun h => step y x h this.1.1 this.2.2 (.inr r)⟩
    | symm _ ih => exact ih.symm
    | trans _ _ i1 i2 => exact i1.trans i2
  have okI : okF F i := by
    rcases s.me with a | a
    · exact a
    · cases a
  refine ⟨s.len, fun x f hx hn => ?_, fun x hx y y0 hy hE => ?_, clo⟩
  · obtain ⟨a, b, c, d⟩ := s.got x f hx hn
    exact ⟨a, by omega, c, d⟩
  · by_cases c : y < (i : Int)
    · exact s.not_ x hx y y0 c hE
    · have : y = (i : Int) := by omega
      subst this
      obtain ⟨_, g, hg, hn⟩ := (along _ _ hE).mpr okI
      rw [Int.toNat_natCast, hx] at hg
      exact hn (Option.some.inj hg).symm
/-- at the end all are found, each by the least place alike -/
theorem Dn.all {F : List Int} (h : Dn n ps N n F) : ∀ (x : Nat) (f : Int), F[x]? = some f → 0 ≤ f ∧ Eqv (relP ps) x f ∧ ∀ y, 0 ≤ y → Eqv (relP ps) x y → f ≤ y := fun x f hx => by
  have hl : x < n := by rw [← h.len]; exact (List.getElem?_eq_some_iff.mp hx).1
  by_cases c : f = -1
  · subst c
    exact absurd (.refl _) (h.not_ x hx x (by omega) (by omega))
  · obtain ⟨a, _, d, e⟩ := h.got x f hx c
    exact ⟨a, d, e⟩
end
end Rep
namespace Rep
open PySem L2
def spParts (K : PySem.W.Frag) : Sp := fun vs H Q _ => ∃ (a : Addr) (xs : List V) (ss : List Sy), vs = [.ref a] ∧ SqL K H a xs ∧ SL H xs ss ∧ (∀ s ∈ ss, 0 ≤ s.n ∧ s.n ≤ 1000) ∧ ss.length ≤ 100 ∧
  ∀ H' o zs, Same H H' → H o = none → H' o = some (.lst zs) → PL H' zs (partF ss) → zs.length ≤ 1000 * ss.length → Q (.ref o) H'
abbrev nParts : List Str := ["_law_sayings_here", "_law_found", "_law_one", "_law_other", "_law_many", "_law_turned", "_law_i"]
theorem scParts : FnScope nParts ["_law_sayings_here"] (defScope s_law_partners) := ⟨rfl, rfl, rfl, by decide +kernel, rfl, by decide +kernel, by decide +kernel⟩
theorem partF_snoc (ss : List Sy) (u : Sy) : partF (ss ++ [u]) = partF ss ++ partOf u u.n.toNat := by
  unfold partF
  rw [List.flatMap_append]
  simp
section
variable {P : Program} {w : World} {K : PySem.W.Frag} {mg : Str → Option Value} {base : Heap}
theorem ok_parts {f : Addr} {fd : FuncData} {k : Nat} (F : Fun K "_law_partners" "_law_partners" s_law_partners f fd) (mR : mg "range" = none) : FnOk P w K mg base CX0 (k + 1) f fd ["_law_sayings_here"] (spParts K) := by
  refine F.ok scParts (fun vs H Q E h => ?_) (fun cdv A outer s H vs Q E hr h => ?_)
  · obtain ⟨a, xs, ss, rfl, _⟩ := h; rfl
  obtain ⟨a, xs, ss, rfl, hX, sl, hn, hl, q⟩ := h
  refine ⟨_, (pss_cons (ps_set (i := 1) scParts.nd rfl (.inl rfl) (pe_lst pa_nil))
    (pss_cons (ps_for PassesOwn.never rfl (pi_list (pv 0)) (pg_tup rfl (pgs_cons (pg_name (i := 2) scParts.nd rfl (.inl rfl)) (pgs_cons (pg_name (i := 3) scParts.nd rfl (.inl rfl)) (pgs_cons (pg_name (i := 4) scParts.nd rfl (.inl rfl)) (pgs_cons (pg_name (i := 5) scParts.nd rfl (.inl rfl)) pgs_nil)))))
      (pss_one (ps_for PassesOwn.never rfl (pi_range1 rfl mR (pa_cons (pv 4) pa_nil)) (pg_name (i := 6) scParts.nd rfl (.inl rfl))
      (pss_one (ps_expr (pe_bm PySem.F.plainAttrs_list PySem.F.slot_list_append PySem.F.type_list_append mt_append (pv 1) (pa_cons (pe_tup (pa_cons (pe_op op_add (pv 2) (pv 6)) (pa_cons (pe_op op_add (pv 3) (pe_ifExp (pt_val (pv 5)) (pe_op op_sub (pe_op op_sub (pv 4) pe_int) (pv 6)) (pv 6))) pa_nil))) pa_nil)))))))
    (pss_one (ps_ret (pv 1))))), ?_⟩
  refine ⟨(by show 0 ≤ sizeLine; decide), fun o no => ?_⟩
  have s0 := same_upd (o := .lst []) no
  refine ⟨.ref a, rfl, a, rfl, ⟨_, s0.seq hX⟩, for_list (xs := xs) (fun i σ H3 => ∃ zs y2 y3 y4 y5 y6, σ = [some (.ref a), some (.ref o), y2, y3, y4, y5, y6] ∧ Same H H3 ∧ H3 o = some (.lst zs) ∧ PL H3 zs (partF (ss.take i)) ∧ zs.length ≤ 1000 * i) ⟨[], _, _, _, _, _, rfl, s0, upd_same, .nil, Nat.le_refl _⟩ (fun i σ H3 _ ⟨_, _, _, _, _, _, _, sm, _⟩ => sm.seq hX) ?_ ?_⟩
  · rintro i v σ H3 hi ⟨zs, y2, y3, y4, y5, y6, rfl, sm, eo, pl, hz⟩
    obtain ⟨u, hu, t, rfl, ht⟩ := sl.get hi
    have hil : i < ss.length := (List.getElem?_eq_some_iff.mp hu).1
    obtain ⟨n0, n1⟩ := hn u (List.mem_of_getElem? hu)
    refine ⟨t, _, rfl, .inl (.inl (sm _ _ ht)), rfl, _, _, rfl, _, _, rfl, _, _, rfl, _, _, rfl, rfl, ?_⟩
    refine ⟨.int u.n, rfl, u.n, rfl, by omega, by omega, for_range (lo := 0) (n := u.n.toNat) (fun j σ H4 => ∃ y6 zs, σ = [some (.ref a), some (.ref o), some (.int u.lo), some (.int u.hi), some (.int u.n), some (.bl u.t), y6] ∧ Same H H4 ∧ H4 o = some (.lst zs) ∧ PL H4 zs (partF (ss.take i) ++ partOf u j) ∧ zs.length ≤ 1000 * i + j) ?_ (fun j σ H4 hj hP => ?_) (fun σ H4 hP => ?_)⟩
    · refine ⟨y6, zs, rfl, sm, eo, ?_, hz⟩
      show PL H3 zs (partF (ss.take i) ++ [])
      rw [List.append_nil]
      exact pl
    · obtain ⟨y6, zs, rfl, sm, eo, pl, hz⟩ := hP
      refine ⟨.ref o, rfl, .inl ⟨rfl, _, .inl (.inl eo)⟩, .int u.lo, rfl, .int (0 + (j : Int)), rfl, _, _, rfl, rfl, .int u.hi, rfl, .bl u.t, rfl, u.t, rfl, ite2 (fun c => ?_) (fun c => ?_)⟩
      · refine ⟨.int u.n, rfl, _, 1, rfl, rfl, .int (0 + (j : Int)), rfl, _, _, rfl, rfl, _, _, rfl, rfl, (by show 2 ≤ sizeLine; decide), fun t nt => ?_⟩
        have s6 := same_upd (o := .tup [.int (u.lo + (0 + (j : Int))), .int (u.hi + (u.n - 1 - (0 + (j : Int))))]) nt
        refine ⟨o, zs, .ref t, rfl, rfl, s6 _ _ eo, Nat.lt_of_le_of_lt (show zs.length ≤ 1000000 by omega) (by decide), ?_⟩
        refine ⟨_, zs ++ [.ref t], rfl, same_over (sm.trans s6) no, upd_same, ?_, by rw [List.length_append, List.length_singleton]; omega⟩
        have e9 : partF (ss.take i) ++ partOf u (j + 1) = (partF (ss.take i) ++ partOf u j) ++ [(u.lo + (0 + (j : Int)), u.hi + (u.n - 1 - (0 + (j : Int))))] := by
          unfold partOf
          rw [List.range_succ, List.map_append, ← List.append_assoc]
          show _ ++ [partAt u j] = _
          unfold partAt
          rw [if_pos c, Int.zero_add]
        rw [e9]
        exact PL.ts (TS.lst (s6 _ _ eo)) ((PL.ts (TS.of s6) pl).snoc upd_same)
      · refine ⟨.int (0 + (j : Int)), rfl, _, _, rfl, rfl, (by show 2 ≤ sizeLine; decide), fun t nt => ?_⟩
        have s6 := same_upd (o := .tup [.int (u.lo + (0 + (j : Int))), .int (u.hi + (0 + (j : Int)))]) nt
        refine ⟨o, zs, .ref t, rfl, rfl, s6 _ _ eo, Nat.lt_of_le_of_lt (show zs.length ≤ 1000000 by omega) (by decide), ?_⟩
        refine ⟨_, zs ++ [.ref t], rfl, same_over (sm.trans s6) no, upd_same, ?_, by rw [List.length_append, List.length_singleton]; omega⟩
        have e9 : partF (ss.take i) ++ partOf u (j + 1) = (partF (ss.take i) ++ partOf u j) ++ [(u.lo + (0 + (j : Int)), u.hi + (0 + (j : Int)))] := by
          unfold partOf
          rw [List.range_succ, List.map_append, ← List.append_assoc]
          show _ ++ [partAt u j] = _
          unfold partAt
          rw [if_neg c, Int.zero_add]
        rw [e9]
        exact PL.ts (TS.lst (s6 _ _ eo)) ((PL.ts (TS.of s6) pl).snoc upd_same)
    · obtain ⟨y6, zs, rfl, sm, eo, pl, hz⟩ := hP
      refine ⟨zs, _, _, _, _, _, rfl, sm, eo, ?_, by omega⟩
      rw [List.take_add_one, hu]
      show PL H4 zs (partF (ss.take i ++ [u]))
      rw [partF_snoc]
      exact pl
  · rintro σ H3 ⟨zs, y2, y3, y4, y5, y6, rfl, sm, eo, pl, hz⟩
    rw [sl.len, List.take_length] at pl
    rw [sl.len] at hz
    exact ⟨.ref o, rfl, q H3 o zs sm no eo pl hz⟩
end
/-! the lists of neighbours on the heap -/
structure NearAt (H0 H : Hp) (nA : Addr) (bs : List Addr) (N : List (List Int)) : Prop where
  at_ : H nA = some (.lst (bs.map V.ref))
  len : bs.length = N.length
  nd : bs.Nodup
  na : nA ∉ bs
  fr : ∀ b ∈ bs, H0 b = none
  ls : ∀ (i : Nat) (b : Addr) (l : List Int), bs[i]? = some b → N[i]? = some l → H b = some (.lst (l.map V.int))
theorem NearAt.same {H0 H H' : Hp} {nA : Addr} {bs : List Addr} {N : List (List Int)} (h : NearAt H0 H nA bs N) (s : Same H H') : NearAt H0 H' nA bs N :=
  ⟨s _ _ h.at_, h.len, h.nd, h.na, h.fr, fun i b l h1 h2 => s _ _ (h.ls i b l h1 h2)⟩
theorem NearAt.over {H0 H : Hp} {nA c : Addr} {bs : List Addr} {N : List (List Int)} {o : HO} (h : NearAt H0 H nA bs N) (h1 : c ≠ nA) (h2 : c ∉ bs) : NearAt H0 (upd H c o) nA bs N := by
  refine ⟨by rw [upd_ne h1.symm]; exact h.at_, h.len, h.nd, h.na, h.fr, fun i b l e1 e2 => ?_⟩
  have : b ≠ c := fun z => h2 (z ▸ List.mem_of_getElem? e1)
  rw [upd_ne this]
  exact h.ls i b l e1 e2
theorem NearAt.put {H0 H : Hp} {nA b : Addr} {bs : List Addr} {N : List (List Int)} (h : NearAt H0 H nA bs N) {x : Nat} {l : List Int} (hb : bs[x]? = some b) (hl : N[x]? = some l) (y : Int) : NearAt H0 (upd H b (.lst (l.map V.int ++ [.int y]))) nA bs (N.set x (l ++ [y])) := by
  have hx : x < N.length := (List.getElem?_eq_some_iff.mp hl).1
  have nb : nA ≠ b := fun z => h.na (z ▸ List.mem_of_getElem? hb)
  refine ⟨by rw [upd_ne nb]; exact h.at_, by rw [List.length_set]; exact h.len, h.nd, h.na, h.fr, fun i b' l' e1 e2 => ?_⟩
  by_cases c : i = x
  · subst c
    rw [List.getElem?_set_self hx] at e2
    cases e2
    rw [hb] at e1
    cases e1
    rw [upd_same, List.map_append]
    rfl
  · rw [List.getElem?_set_ne (fun e => c e.symm)] at e2
    have : b' ≠ b := fun z => by
      subst z
      obtain ⟨i1, e3⟩ := List.getElem?_eq_some_iff.mp e1
      obtain ⟨i2, e4⟩ := List.getElem?_eq_some_iff.mp hb
      rcases Nat.lt_or_gt_of_ne c with q | q
      · exact List.pairwise_iff_getElem.mp h.nd i x i1 i2 q (e3.trans e4.symm)
      · exact List.pairwise_iff_getElem.mp h.nd x i i2 i1 q (e4.trans e3.symm)
    rw [upd_ne this]
    exact h.ls i b' l' e1 e2
theorem ixN_nat {n j : Nat} (h : j < n) : ixN n (j : Int) = some j := by
  unfold ixN
  rw [if_pos (by omega), if_pos (by omega)]
  rfl
theorem at_int {F : List Int} {x : Nat} {f : Int} (h : F[x]? = some f) : atI (F.map V.int) (x : Int) = some (.int f) := atI_nat (by rw [List.getElem?_map, h]; rfl)
theorem dpInts {K : PySem.W.Frag} {H : Hp} : ∀ F : List Int, DpAll K H (F.map V.int) (F.map PyData.int)
  | [] => .nil
  | i :: F => .cons (.int i) (dpInts F)
theorem canInts : ∀ F : List Int, PyData.canLayAll0 (F.map PyData.int) = true
  | [] => rfl
  | i :: F => by
    show (true && PyData.canLayAll0 (F.map PyData.int)) = true
    rw [canInts F]
    rfl
theorem depInts : ∀ F : List Int, PyData.depthAll (F.map PyData.int) = 0
  | [] => rfl
  | i :: F => by
    show max 0 (PyData.depthAll (F.map PyData.int)) = 0
    rw [depInts F]
    rfl
theorem shapedInts (F : List Int) : SeqAt.shaped (.list (F.map PyData.int)) = true := by
  unfold SeqAt.shaped
  have e : PyData.canLay0 (.list (F.map PyData.int)) = true := canInts F
  rw [e, Bool.true_and]
  apply decide_eq_true
  show PyData.depthAll (F.map PyData.int) + 1 ≤ 64
  rw [depInts]
  decide
theorem eqv_nil (F : List Int) : (!PyData.eqv (.list (F.map PyData.int)) (.list [])) = decide (F ≠ []) := by
  cases F with
  | nil => rfl
  | cons i F => rfl
def WH (H0 : Hp) (n : Nat) (ps : List Pr) (N : List (List Int)) (a nA fA : Addr) (bs : List Addr) (y3 y4 : Option V) (i : Nat) (m : Nat) (σ : St) (H : Hp) : Prop :=
  ∃ (F R : List Int) (rA : Addr) (y8 : Option V), σ = [some (.int (n : Int)), some (.ref a), some (.ref nA), y3, y4, some (.ref fA), some (.int (0 + (i : Int))), some (.ref rA), y8] ∧ Same H0 H ∧ NearAt H0 H nA bs N ∧ H fA = some (.lst (F.map V.int)) ∧ H rA = some (.lst (R.map V.int)) ∧ H0 rA = none ∧ rA ≠ fA ∧ rA ≠ nA ∧ rA ∉ bs ∧
    Srch n ps N i F R ∧ F.count (-1) * (2 * ps.length + 1) + R.length = m ∧ m ≤ n * (2 * ps.length + 1) + 1
def spHeads (K : PySem.W.Frag) : Sp := fun vs H Q _ => ∃ (a : Addr) (xs : List V) (ps : List Pr) (n : Nat), vs = [.int (n : Int), .ref a] ∧ SqL K H a xs ∧ PL H xs ps ∧ (∀ p ∈ ps, (0 ≤ p.1 ∧ p.1 < (n : Int)) ∧ 0 ≤ p.2 ∧ p.2 < (n : Int)) ∧ n ≤ 1000 ∧ ps.length ≤ 1000000 ∧ n * (2 * ps.length + 1) + 1 ≤ 10000000 ∧
  ∀ (H' : Hp) (o : Addr) (F : List Int), Same H H' → H o = none → H' o = some (.lst (F.map V.int)) → F.length = n → (∀ (x : Nat) (f : Int), F[x]? = some f → 0 ≤ f ∧ Eqv (relP ps) x f ∧ ∀ y, 0 ≤ y → Eqv (relP ps) x y → f ≤ y) → Q (.ref o) H'
abbrev nHeads : List Str := ["_law_length", "_law_pairs", "_law_near", "_law_one", "_law_other", "_law_found", "_law_place", "_law_row", "_law_here"]
theorem scHeads : FnScope nHeads ["_law_length", "_law_pairs"] (defScope s_law_heads) := ⟨rfl, rfl, rfl, by decide +kernel, rfl, by decide +kernel, by decide +kernel⟩
theorem cnt_set {F : List Int} {h i : Nat} (hF : F[h]? = some (-1)) : (F.set h (i : Int)).count (-1) + 1 = F.count (-1) := by
  obtain ⟨hl, e⟩ := List.getElem?_eq_some_iff.mp hF
  rw [List.count_set hl, e]
  have e1 : ((-1 : Int) == -1) = true := rfl
  have e2 : ((i : Int) == -1) = false := by
    apply beq_false_of_ne
    omega
  rw [e1, e2]
  have : 0 < F.count (-1) := List.count_pos_iff.mpr (List.mem_of_getElem? hF)
  simp only [if_true, Bool.false_eq_true, if_false]
  omega
section
variable {P : Program} {w : World} {K : PySem.W.Frag} {mg : Str → Option Value} {base : Heap}
theorem ok_heads {f : Addr} {fd : FuncData} {k : Nat} (F : Fun K "_law_heads" "_law_heads" s_law_heads f fd) (mR : mg "range" = none) : FnOk P w K mg base CX0 (k + 1) f fd ["_law_length", "_law_pairs"] (spHeads K) := by
  refine F.ok scHeads (fun vs H Q E h => ?_) (fun cdv A outer s H vs Q E hr h => ?_)
  · obtain ⟨a, xs, ps, n, rfl, _⟩ := h; rfl
  obtain ⟨a, xs, ps, n, rfl, hX, pl, hps, hn, hpl, hB, q⟩ := h
  refine ⟨_, (C8.pss_cut (ps_setLc (i := 2) (own := [("_law_place", 6)]) (g := (gName 6)) (tt := tYes) rfl scHeads.nd rfl rfl (sw_true rfl rfl rfl (by decide +kernel)) (pi_range1 rfl mR (pa_cons (pv 0) pa_nil)) (blkOk_by (N := nHeads) (sc := defScope s_law_heads) (by decide +kernel)) (fun _ _ _ _ _ => (pg_name (i := 6) scHeads.nd rfl (.inl rfl))) (fun _ _ _ _ _ => pts_nil) (fun _ _ _ _ _ => (pe_lst pa_nil)))
    (C8.pss_cut (ps_for PassesOwn.never rfl (pi_list (pv 1)) (pg_tup rfl (pgs_cons (pg_name (i := 3) scHeads.nd rfl (.inl rfl)) (pgs_cons (pg_name (i := 4) scHeads.nd rfl (.inl rfl)) pgs_nil)))
      (pss_cons (ps_expr (pe_bm PySem.F.plainAttrs_list PySem.F.slot_list_append PySem.F.type_list_append mt_append (pe_ix ix_list (pv 2) (pv 3) (fun _ _ => rfl)) (pa_cons (pv 4) pa_nil)))
    (pss_one (ps_expr (pe_bm PySem.F.plainAttrs_list PySem.F.slot_list_append PySem.F.type_list_append mt_append (pe_ix ix_list (pv 2) (pv 4) (fun _ _ => rfl)) (pa_cons (pv 3) pa_nil))))))
    (C8.pss_cut (ps_setLc (i := 5) (own := [("_law_place", 6)]) (g := (gName 6)) (tt := tYes) rfl scHeads.nd rfl rfl (sw_true rfl rfl rfl (by decide +kernel)) (pi_range1 rfl mR (pa_cons (pv 0) pa_nil)) (blkOk_by (N := nHeads) (sc := defScope s_law_heads) (by decide +kernel)) (fun _ _ _ _ _ => (pg_name (i := 6) scHeads.nd rfl (.inl rfl))) (fun _ _ _ _ _ => pts_nil) (fun _ _ _ _ _ => (pe_un un_neg pe_int)))
    (pss_cons (ps_for PassesOwn.never rfl (pi_range1 rfl mR (pa_cons (pv 0) pa_nil)) (pg_name (i := 6) scHeads.nd rfl (.inl rfl))
      (pss_cons (ps_set (i := 7) scHeads.nd rfl (.inl rfl) (pe_lst (pa_cons (pv 6) pa_nil)))
    (pss_one (ps_while PassesOwn.never (PW.pt (pw_or (pt_cmpR op_eq (pe_ix ix_list (pv 5) (pv 6) (fun _ _ => rfl)) (pe_un un_neg pe_int) (nomark _)) (pw_or1 (pt_cmpR (op_neD hr.units) (pv 7) (pe_lst pa_nil) (nomark _)))))
      (pss_cons (ps_set (i := 8) scHeads.nd rfl (.inl rfl) (pe_bm0 PySem.F.plainAttrs_list PySem.F.slot_list_pop PySem.F.type_list_pop mt_pop (pv 7)))
    (pss_one (ps_if (pt_cmpR op_eq (pe_ix ix_list (pv 5) (pv 8) (fun _ _ => rfl)) (pe_un un_neg pe_int) (nomark _)) (pss_cons (ps_asg (pv 6) (pg_sub (pv 5) (pv 8) set_list))
    (pss_one (ps_set (i := 7) scHeads.nd rfl (.inl rfl) (pe_op op_cat (pv 7) (pe_ix ix_list (pv 2) (pv 8) (fun _ _ => rfl)))))) pss_nil)))))))
    (pss_one (ps_ret (pv 5))))))), ?_⟩
  -- near
  refine ⟨fun σ' H' => ∃ nA bs, σ' = [some (.int (n : Int)), some (.ref a), some (.ref nA), none, none, none, none, none, none] ∧ Same H H' ∧ H nA = none ∧ NearAt H H' nA bs (List.replicate n []), ?_, ?_⟩
  · refine ⟨.int (n : Int), rfl, (n : Int), rfl, by omega, by omega, fun D nD => ?_⟩
    refine lc_range (lo := 0) (n := n) (fun i H3 => Same H H3 ∧ ∃ bs : List Addr, H3 D = some (.lst (bs.map V.ref)) ∧ bs.length = i ∧ bs.Nodup ∧ D ∉ bs ∧ (∀ b ∈ bs, H b = none ∧ H3 b = some (.lst []))) ⟨same_upd nD, [], upd_same, rfl, List.nodup_nil, List.not_mem_nil, fun b hb => by cases hb⟩ (fun i H3 hi hP => ?_) (fun H3 hP => ?_)
    · obtain ⟨sm, bs, eD, hl, nd, na, hb⟩ := hP
      refine ⟨rfl, ?_⟩
      refine tYes_ok ?_
      refine iteT ?_
      refine ⟨(by show 0 ≤ sizeLine; decide), fun l nl => ?_⟩
      have s4 := same_upd (o := .lst []) nl
      have lD : D ≠ l := fun z => by rw [z, nl] at eD; cases eD
      have lb : l ∉ bs := fun z => by rw [(hb l z).2] at nl; cases nl
      refine ⟨bs.map V.ref, s4 _ _ eD, by rw [List.length_map, hl]; exact small1000 (by omega), same_over (sm.trans s4) nD, bs ++ [l], by rw [upd_same, List.map_append]; rfl, by rw [List.length_append, List.length_singleton, hl], ?_, ?_, fun b h => ?_⟩
      · rw [List.nodup_append]
        exact ⟨nd, by simp, fun x hx y hy => by rw [List.mem_singleton.mp hy]; exact fun z => lb (z ▸ hx)⟩
      · rw [List.mem_append, List.mem_singleton]
        rintro (z | z)
        · exact na z
        · exact lD z
      · rcases List.mem_append.mp h with h | h
        · have nbD : b ≠ D := fun z => na (z ▸ h)
          exact ⟨(hb b h).1, by rw [upd_ne nbD]; exact s4 _ _ (hb b h).2⟩
        · rw [List.mem_singleton.mp h]
          exact ⟨Same.free sm nl, by rw [upd_ne lD.symm]; exact upd_same⟩
    · obtain ⟨sm, bs, eD, hl, nd, na, hb⟩ := hP
      refine ⟨D, bs, rfl, sm, nD, eD, by rw [List.length_replicate]; exact hl, nd, na, fun b h => (hb b h).1, fun i b l h1 h2 => ?_⟩
      rw [List.getElem?_replicate] at h2
      split at h2
      · cases h2
        exact (hb b (List.mem_of_getElem? h1)).2
      · cases h2
  rintro σ' H1 ⟨nA, bs, rfl, s1, nnA, na1⟩
  -- the pairs
  refine ⟨fun σ' H' => ∃ N y3 y4, σ' = [some (.int (n : Int)), some (.ref a), some (.ref nA), y3, y4, none, none, none, none] ∧ Same H H' ∧ NearAt H H' nA bs N ∧ Mm n (sym ps) (2 * ps.length) N, ?_, ?_⟩
  · refine ⟨.ref a, rfl, a, rfl, ⟨_, s1.seq hX⟩, for_list (xs := xs) (fun i σ H3 => ∃ N y3 y4, σ = [some (.int (n : Int)), some (.ref a), some (.ref nA), y3, y4, none, none, none, none] ∧ Same H H3 ∧ NearAt H H3 nA bs N ∧ Mm n (sym (ps.take i)) (2 * i) N) ⟨_, none, none, rfl, s1, na1, Mm.nil n⟩ (fun i σ H3 _ ⟨_, _, _, _, sm, _⟩ => sm.seq hX) ?_ ?_⟩
    · rintro i v σ H3 hi ⟨N, y3, y4, rfl, sm, na3, mm⟩
      obtain ⟨t, p, rfl, ht, hp⟩ := pl.get hi
      have hil : i < ps.length := (List.getElem?_eq_some_iff.mp hp).1
      obtain ⟨⟨a1, a2⟩, a3, a4⟩ := hps p (List.mem_of_getElem? hp)
      refine ⟨t, _, rfl, .inl (.inl (sm _ _ ht)), rfl, _, _, rfl, _, _, rfl, rfl, ?_⟩
      obtain ⟨x, hx⟩ : ∃ x : Nat, p.1 = (x : Int) := ⟨p.1.toNat, by omega⟩
      obtain ⟨y, hy⟩ : ∃ y : Nat, p.2 = (y : Int) := ⟨p.2.toNat, by omega⟩
      rw [hx, hy]
      have xl : x < N.length := by rw [mm.len]; omega
      have xb : x < bs.length := by rw [na3.len]; exact xl
      obtain ⟨lx, hlx⟩ : ∃ l, N[x]? = some l := ⟨_, List.getElem?_eq_getElem xl⟩
      obtain ⟨bx, hbx⟩ : ∃ b, bs[x]? = some b := ⟨_, List.getElem?_eq_getElem xb⟩
      have ex := na3.ls x bx lx hbx hlx
      have bl1 := mm.bd x lx hlx
      refine ⟨.ref nA, rfl, .int (x : Int), rfl, nA, _, _, .ref bx, rfl, rfl, .inl (.inl na3.at_), atI_nat (by rw [List.getElem?_map, hbx]; rfl), .inl ⟨rfl, _, .inl (.inl ex)⟩, .int (y : Int), rfl, bx, _, _, rfl, rfl, ex, ?_, ?_⟩
      · rw [List.length_map]; exact Nat.lt_of_le_of_lt (show lx.length ≤ 2000000 by omega) (by decide)
      have na4 := na3.put hbx hlx (y : Int)
      have mm4 := mm.half hlx (y : Int)
      have sm4 : Same H (upd H3 bx (.lst (lx.map V.int ++ [.int (y : Int)]))) := same_over sm (na3.fr bx (List.mem_of_getElem? hbx))
      generalize upd H3 bx (.lst (lx.map V.int ++ [.int (y : Int)])) = H4 at *
      generalize N.set x (lx ++ [(y : Int)]) = N4 at *
      have yl : y < N4.length := by rw [mm4.len]; omega
      have yb : y < bs.length := by rw [na4.len]; exact yl
      obtain ⟨ly, hly⟩ : ∃ l, N4[y]? = some l := ⟨_, List.getElem?_eq_getElem yl⟩
      obtain ⟨by', hby⟩ : ∃ b, bs[y]? = some b := ⟨_, List.getElem?_eq_getElem yb⟩
      have ey := na4.ls y by' ly hby hly
      have bl2 := mm4.bd y ly hly
      refine ⟨.ref nA, rfl, .int (y : Int), rfl, nA, _, _, .ref by', rfl, rfl, .inl (.inl na4.at_), atI_nat (by rw [List.getElem?_map, hby]; rfl), .inl ⟨rfl, _, .inl (.inl ey)⟩, .int (x : Int), rfl, by', _, _, rfl, rfl, ey, ?_, ?_⟩
      · rw [List.length_map]; exact Nat.lt_of_le_of_lt (show ly.length ≤ 2000001 by omega) (by decide)
      refine ⟨_, _, _, rfl, same_over sm4 (na4.fr by' (List.mem_of_getElem? hby)), na4.put hby hly (x : Int), (mm4.half hly (x : Int)).imp (fun u v => ?_) (by omega)⟩
      have ep : p = ((x : Int), (y : Int)) := by rw [← hx, ← hy]
      rw [List.take_add_one, hp]
      show ((sym (ps.take i) u v ∨ (u = (x : Int) ∧ v = (y : Int))) ∨ (u = (y : Int) ∧ v = (x : Int))) ↔ ((u, v) ∈ ps.take i ++ [p] ∨ (v, u) ∈ ps.take i ++ [p])
      rw [List.mem_append, List.mem_append, List.mem_singleton, List.mem_singleton, ep, Prod.mk.injEq, Prod.mk.injEq]
      constructor
      · rintro ((( z | z) | z) | z)
        · exact .inl (.inl z)
        · exact .inr (.inl z)
        · exact .inl (.inr z)
        · exact .inr (.inr ⟨z.2, z.1⟩)
      · rintro ((z | z) | (z | z))
        · exact .inl (.inl (.inl z))
        · exact .inl (.inr z)
        · exact .inl (.inl (.inr z))
        · exact .inr ⟨z.2, z.1⟩
    · rintro σ H3 ⟨N, y3, y4, rfl, sm, na3, mm⟩
      rw [pl.len, List.take_length] at mm
      exact ⟨N, y3, y4, rfl, sm, na3, mm⟩
  rintro σ' H3 ⟨N, y3, y4, rfl, s3, na3, mm⟩
  -- found
  refine ⟨fun σ' H' => ∃ fA, σ' = [some (.int (n : Int)), some (.ref a), some (.ref nA), y3, y4, some (.ref fA), none, none, none] ∧ Same H3 H' ∧ H3 fA = none ∧ H' fA = some (.lst ((List.replicate n (-1)).map V.int)), ?_, ?_⟩
  · refine ⟨.int (n : Int), rfl, (n : Int), rfl, by omega, by omega, fun D nD => ?_⟩
    refine lc_range (lo := 0) (n := n) (fun i H4 => Same H3 H4 ∧ H4 D = some (.lst ((List.replicate i (-1)).map V.int))) ⟨same_upd nD, upd_same⟩ (fun i H4 hi hP => ?_) (fun H4 hP => ?_)
    · obtain ⟨sm, eD⟩ := hP
      refine ⟨rfl, ?_⟩
      refine tYes_ok ?_
      refine iteT ?_
      refine ⟨1, rfl, _, eD, by rw [List.length_map, List.length_replicate]; exact small1000 (by omega), same_over sm nD, ?_⟩
      rw [upd_same, List.replicate_succ', List.map_append]
      rfl
    · exact ⟨D, rfl, hP.1, nD, hP.2⟩
  rintro σ' H4 ⟨fA, rfl, s4, nfA, efA⟩
  have nfH : H fA = none := Same.free s3 nfA
  have fn : fA ≠ nA := fun z => by rw [z, na3.at_] at nfA; cases nfA
  have fb : fA ∉ bs := fun z => by
    obtain ⟨j, hj⟩ := List.mem_iff_getElem?.mp z
    have jl : j < N.length := by rw [← na3.len]; exact (List.getElem?_eq_some_iff.mp hj).1
    rw [na3.ls j fA _ hj (List.getElem?_eq_getElem jl)] at nfA
    cases nfA
  have na4 := na3.same s4
  have s04 := s3.trans s4
  -- each place
  refine ⟨.int (n : Int), rfl, (n : Int), rfl, by omega, by omega, for_range (lo := 0) (n := n) (fun i σ H5 => ∃ F y6 y7 y8, σ = [some (.int (n : Int)), some (.ref a), some (.ref nA), y3, y4, some (.ref fA), y6, y7, y8] ∧ Same H H5 ∧ NearAt H H5 nA bs N ∧ H5 fA = some (.lst (F.map V.int)) ∧ Dn n ps N i F) ⟨_, _, _, _, rfl, s04, na4, efA, Dn.zero⟩ (fun i σ H5 hi hP => ?_) (fun σ H5 hP => ?_)⟩
  · obtain ⟨F, y6, y7, y8, rfl, s5, na5, eF, dn⟩ := hP
    -- row = [place]
    refine ⟨.int (0 + (i : Int)), rfl, (by show 1 ≤ sizeLine; decide), fun rA nr => ?_⟩
    have s6 := same_upd (o := .lst [.int (0 + (i : Int))]) nr
    have rf : rA ≠ fA := fun z => by rw [z, eF] at nr; cases nr
    have rn : rA ≠ nA := fun z => by rw [z, na5.at_] at nr; cases nr
    have rb : rA ∉ bs := fun z => by
      obtain ⟨j, hj⟩ := List.mem_iff_getElem?.mp z
      have jl : j < N.length := by rw [← na5.len]; exact (List.getElem?_eq_some_iff.mp hj).1
      rw [na5.ls j rA _ hj (List.getElem?_eq_getElem jl)] at nr
      cases nr
    refine ⟨WH H n ps N a nA fA bs y3 y4 i, ⟨_, F, [(i : Int)], rA, _, rfl, s5.trans s6, na5.same s6, s6 _ _ eF, by rw [upd_same, Int.zero_add]; rfl, Same.free s5 nr, rf, rn, rb, dn.start hi, rfl, ?_⟩, ?_⟩
    · have : F.count (-1) ≤ n := by rw [← dn.len]; exact List.count_le_length
      have := Nat.mul_le_mul_right (2 * ps.length + 1) this
      show F.count (-1) * (2 * ps.length + 1) + 1 ≤ _
      omega
    rintro m σ H7 ⟨F, R, rA, y8, rfl, s7, na7, eF, eR, nR, rf, rn, rb, sr, hm, hm2⟩
    have hiF : i < F.length := by rw [sr.len]; exact hi
    obtain ⟨f, hf⟩ : ∃ f, F[i]? = some f := ⟨_, List.getElem?_eq_getElem hiF⟩
    have hfi : atI (F.map V.int) (0 + (i : Int)) = some (.int f) := by rw [Int.zero_add]; exact at_int hf
    refine ⟨.ref fA, rfl, .int (0 + (i : Int)), rfl, fA, _, _, .int f, rfl, rfl, .inl (.inl eF), hfi, 1, rfl, rfl, _, rfl, ite2 (fun c => ?_) (fun c => ?_)⟩
    · have c1 : f = -1 := V.int.inj (of_decide_eq_true c)
      have hR : R ≠ [] := fun z => by
        rcases sr.me with ⟨_, g, hg, hn⟩ | h
        · rw [Int.toNat_natCast, hf] at hg
          exact hn ((Option.some.inj hg).symm.trans c1)
        · rw [z] at h; cases h
      refine iteT ?_
      obtain ⟨R0, h, rfl⟩ : ∃ R0 h, R = R0 ++ [h] := ⟨R.dropLast, R.getLast hR, (List.dropLast_concat_getLast hR).symm⟩
      obtain ⟨h0, h1, _⟩ := sr.row h (List.mem_append_right _ List.mem_cons_self)
      obtain ⟨x, rfl⟩ : ∃ x : Nat, h = (x : Int) := ⟨h.toNat, by omega⟩
      refine ⟨fun σ' H' => ∃ m', m' < m ∧ WH H n ps N a nA fA bs y3 y4 i m' σ' H', fun σ' H' hN => hN, ?_⟩
      replace eR : H7 rA = some (.lst (R0.map V.int ++ [V.int (x : Int)])) := by rw [eR, List.map_append]; rfl
      have hlast : ((R0.map V.int ++ [V.int (x : Int)])[(R0.map V.int ++ [V.int (x : Int)]).length - 1]?) = some (.int (x : Int)) := by
        rw [List.length_append, List.length_singleton, Nat.add_sub_cancel, List.getElem?_append_right (Nat.le_refl _), Nat.sub_self]
        rfl
      refine ⟨.ref rA, rfl, .inl ⟨rfl, _, .inl (.inl eR)⟩, rA, _, _, rfl, rfl, eR, hlast, ?_⟩
      have eD : (R0.map V.int ++ [V.int (x : Int)]).dropLast = R0.map V.int := List.dropLast_concat
      rw [eD]
      have s9 : Same H (upd H7 rA (.lst (R0.map V.int))) := same_over s7 nR
      have na9 : NearAt H (upd H7 rA (.lst (R0.map V.int))) nA bs N := na7.over rn rb
      have eF9 : upd H7 rA (.lst (R0.map V.int)) fA = some (.lst (F.map V.int)) := by rw [upd_ne rf.symm]; exact eF
      have eR9 : upd H7 rA (.lst (R0.map V.int)) rA = some (.lst (R0.map V.int)) := upd_same
      generalize upd H7 rA (.lst (R0.map V.int)) = H9 at *
      have xF : x < F.length := by rw [sr.len]; omega
      obtain ⟨g, hg⟩ : ∃ g, F[x]? = some g := ⟨_, List.getElem?_eq_getElem xF⟩
      rw [List.length_append, List.length_singleton] at hm
      refine ⟨.ref fA, rfl, .int (x : Int), rfl, fA, _, _, .int g, rfl, rfl, .inl (.inl eF9), at_int hg, 1, rfl, rfl, _, rfl, ite2 (fun e => ?_) (fun e => ?_)⟩
      · have e1 : g = -1 := V.int.inj (of_decide_eq_true e)
        subst e1
        refine ⟨.int (0 + (i : Int)), rfl, .ref fA, rfl, .int (x : Int), rfl, fA, _, _, x, rfl, rfl, eF9, ixN_nat (by rw [List.length_map]; exact xF), ?_⟩
        have eS : (F.map V.int).set x (V.int (0 + (i : Int))) = (F.set x (i : Int)).map V.int := by rw [List.map_set, Int.zero_add]
        rw [eS]
        have s10 : Same H (upd H9 fA (.lst ((F.set x (i : Int)).map V.int))) := same_over s9 nfH
        have na10 : NearAt H (upd H9 fA (.lst ((F.set x (i : Int)).map V.int))) nA bs N := na9.over fn fb
        have eF10 : upd H9 fA (.lst ((F.set x (i : Int)).map V.int)) fA = some (.lst ((F.set x (i : Int)).map V.int)) := upd_same
        have eR10 : upd H9 fA (.lst ((F.set x (i : Int)).map V.int)) rA = some (.lst (R0.map V.int)) := by rw [upd_ne rf]; exact eR9
        generalize upd H9 fA (.lst ((F.set x (i : Int)).map V.int)) = H10 at *
        have xN : x < N.length := by rw [mm.len]; omega
        obtain ⟨l, hl⟩ : ∃ l, N[x]? = some l := ⟨_, List.getElem?_eq_getElem xN⟩
        obtain ⟨b, hb⟩ : ∃ b, bs[x]? = some b := ⟨_, List.getElem?_eq_getElem (by rw [na10.len]; exact xN)⟩
        have el := na10.ls x b l hb hl
        have bl := mm.bd x l hl
        have ct := cnt_set (i := i) hg
        rw [← ct, Nat.succ_mul] at hm
        refine ⟨.ref rA, rfl, .ref nA, rfl, .int (x : Int), rfl, nA, _, _, .ref b, rfl, rfl, .inl (.inl na10.at_), atI_nat (by rw [List.getElem?_map, hb]; rfl), rA, b, _, _, rfl, rfl, eR10, el, ?_, fun p np => ?_⟩
        · rw [List.length_map, List.length_map]
          exact Nat.le_trans (show R0.length + l.length ≤ 12000000 by omega) (by decide)
        have s11 := same_upd (o := .lst (R0.map V.int ++ l.map V.int)) np
        have pf : p ≠ fA := fun z => by rw [z, eF10] at np; cases np
        have pn : p ≠ nA := fun z => by rw [z, na10.at_] at np; cases np
        have pb : p ∉ bs := fun z => by
          obtain ⟨j, hj⟩ := List.mem_iff_getElem?.mp z
          have jl : j < N.length := by rw [← na10.len]; exact (List.getElem?_eq_some_iff.mp hj).1
          rw [na10.ls j p _ hj (List.getElem?_eq_getElem jl)] at np
          cases np
        exact ⟨(F.set x (i : Int)).count (-1) * (2 * ps.length + 1) + (R0 ++ l).length, by rw [List.length_append]; omega, F.set x (i : Int), R0 ++ l, p, _, rfl, s10.trans s11, na10.same s11, s11 _ _ eF10, by rw [upd_same, List.map_append], Same.free s10 np, pf, pn, pb, sr.take mm hps hg hl, rfl, by rw [List.length_append]; omega⟩
      · have e1 : g ≠ -1 := fun z => e (decide_eq_true (by rw [z]))
        exact ⟨F.count (-1) * (2 * ps.length + 1) + R0.length, by omega, F, R0, rA, _, rfl, s9, na9, eF9, eR9, nR, rf, rn, rb, sr.skip ⟨by omega, g, by rw [Int.toNat_natCast]; exact hg, e1⟩, rfl, by omega⟩
    · have c1 : f ≠ -1 := fun z => c (decide_eq_true (by rw [z]))
      refine ⟨.ref rA, rfl, (by show 0 ≤ sizeLine; decide), fun e0 ne0 => ?_⟩
      have s8 := same_upd (o := .lst []) ne0
      refine ⟨.list (R.map PyData.int), .list [], .lst (.inl (.inl (s8 _ _ eR))) (dpInts R), .lst (.inl (.inl upd_same)) .nil, shapedInts R, rfl, _, rfl, ?_⟩
      rw [eqv_nil]
      refine ite2 (fun d => ?_) (fun d => ?_)
      · have hR : R ≠ [] := of_decide_eq_true d
        replace s7 := s7.trans s8
        replace na7 := na7.same s8
        replace eF := s8 _ _ eF
        replace eR := s8 _ _ eR
        generalize upd H7 e0 (.lst []) = H7 at *
        obtain ⟨R0, h, rfl⟩ : ∃ R0 h, R = R0 ++ [h] := ⟨R.dropLast, R.getLast hR, (List.dropLast_concat_getLast hR).symm⟩
        obtain ⟨h0, h1, _⟩ := sr.row h (List.mem_append_right _ List.mem_cons_self)
        obtain ⟨x, rfl⟩ : ∃ x : Nat, h = (x : Int) := ⟨h.toNat, by omega⟩
        refine ⟨fun σ' H' => ∃ m', m' < m ∧ WH H n ps N a nA fA bs y3 y4 i m' σ' H', fun σ' H' hN => hN, ?_⟩
        replace eR : H7 rA = some (.lst (R0.map V.int ++ [V.int (x : Int)])) := by rw [eR, List.map_append]; rfl
        have hlast : ((R0.map V.int ++ [V.int (x : Int)])[(R0.map V.int ++ [V.int (x : Int)]).length - 1]?) = some (.int (x : Int)) := by
          rw [List.length_append, List.length_singleton, Nat.add_sub_cancel, List.getElem?_append_right (Nat.le_refl _), Nat.sub_self]
          rfl
        refine ⟨.ref rA, rfl, .inl ⟨rfl, _, .inl (.inl eR)⟩, rA, _, _, rfl, rfl, eR, hlast, ?_⟩
        have eD : (R0.map V.int ++ [V.int (x : Int)]).dropLast = R0.map V.int := List.dropLast_concat
        rw [eD]
        have s9 : Same H (upd H7 rA (.lst (R0.map V.int))) := same_over s7 nR
        have na9 : NearAt H (upd H7 rA (.lst (R0.map V.int))) nA bs N := na7.over rn rb
        have eF9 : upd H7 rA (.lst (R0.map V.int)) fA = some (.lst (F.map V.int)) := by rw [upd_ne rf.symm]; exact eF
        have eR9 : upd H7 rA (.lst (R0.map V.int)) rA = some (.lst (R0.map V.int)) := upd_same
        generalize upd H7 rA (.lst (R0.map V.int)) = H9 at *
        have xF : x < F.length := by rw [sr.len]; omega
        obtain ⟨g, hg⟩ : ∃ g, F[x]? = some g := ⟨_, List.getElem?_eq_getElem xF⟩
        rw [List.length_append, List.length_singleton] at hm
        refine ⟨.ref fA, rfl, .int (x : Int), rfl, fA, _, _, .int g, rfl, rfl, .inl (.inl eF9), at_int hg, 1, rfl, rfl, _, rfl, ite2 (fun e => ?_) (fun e => ?_)⟩
        · have e1 : g = -1 := V.int.inj (of_decide_eq_true e)
          subst e1
          refine ⟨.int (0 + (i : Int)), rfl, .ref fA, rfl, .int (x : Int), rfl, fA, _, _, x, rfl, rfl, eF9, ixN_nat (by rw [List.length_map]; exact xF), ?_⟩
          have eS : (F.map V.int).set x (V.int (0 + (i : Int))) = (F.set x (i : Int)).map V.int := by rw [List.map_set, Int.zero_add]
          rw [eS]
          have s10 : Same H (upd H9 fA (.lst ((F.set x (i : Int)).map V.int))) := same_over s9 nfH
          have na10 : NearAt H (upd H9 fA (.lst ((F.set x (i : Int)).map V.int))) nA bs N := na9.over fn fb
          have eF10 : upd H9 fA (.lst ((F.set x (i : Int)).map V.int)) fA = some (.lst ((F.set x (i : Int)).map V.int)) := upd_same
          have eR10 : upd H9 fA (.lst ((F.set x (i : Int)).map V.int)) rA = some (.lst (R0.map V.int)) := by rw [upd_ne rf]; exact eR9
          generalize upd H9 fA (.lst ((F.set x (i : Int)).map V.int)) = H10 at *
          have xN : x < N.length := by rw [mm.len]; omega
          obtain ⟨l, hl⟩ : ∃ l, N[x]? = some l := ⟨_, List.getElem?_eq_getElem xN⟩
          obtain ⟨b, hb⟩ : ∃ b, bs[x]? = some b := ⟨_, List.getElem?_eq_getElem (by rw [na10.len]; exact xN)⟩
          have el := na10.ls x b l hb hl
          have bl := mm.bd x l hl
          have ct := cnt_set (i := i) hg
          rw [← ct, Nat.succ_mul] at hm
          refine ⟨.ref rA, rfl, .ref nA, rfl, .int (x : Int), rfl, nA, _, _, .ref b, rfl, rfl, .inl (.inl na10.at_), atI_nat (by rw [List.getElem?_map, hb]; rfl), rA, b, _, _, rfl, rfl, eR10, el, ?_, fun p np => ?_⟩
          · rw [List.length_map, List.length_map]
            exact Nat.le_trans (show R0.length + l.length ≤ 12000000 by omega) (by decide)
          have s11 := same_upd (o := .lst (R0.map V.int ++ l.map V.int)) np
          have pf : p ≠ fA := fun z => by rw [z, eF10] at np; cases np
          have pn : p ≠ nA := fun z => by rw [z, na10.at_] at np; cases np
          have pb : p ∉ bs := fun z => by
            obtain ⟨j, hj⟩ := List.mem_iff_getElem?.mp z
            have jl : j < N.length := by rw [← na10.len]; exact (List.getElem?_eq_some_iff.mp hj).1
            rw [na10.ls j p _ hj (List.getElem?_eq_getElem jl)] at np
            cases np
          exact ⟨(F.set x (i : Int)).count (-1) * (2 * ps.length + 1) + (R0 ++ l).length, by rw [List.length_append]; omega, F.set x (i : Int), R0 ++ l, p, _, rfl, s10.trans s11, na10.same s11, s11 _ _ eF10, by rw [upd_same, List.map_append], Same.free s10 np, pf, pn, pb, sr.take mm hps hg hl, rfl, by rw [List.length_append]; omega⟩
        · have e1 : g ≠ -1 := fun z => e (decide_eq_true (by rw [z]))
          exact ⟨F.count (-1) * (2 * ps.length + 1) + R0.length, by omega, F, R0, rA, _, rfl, s9, na9, eF9, eR9, nR, rf, rn, rb, sr.skip ⟨by omega, g, by rw [Int.toNat_natCast]; exact hg, e1⟩, rfl, by omega⟩
      · have hR : R = [] := Classical.byContradiction fun z => d (decide_eq_true z)
        subst hR
        exact ⟨F, _, _, _, rfl, s7.trans s8, na7.same s8, s8 _ _ eF, sr.done mm hps⟩
  · obtain ⟨F, y6, y7, y8, rfl, s5, na5, eF, dn⟩ := hP
    exact ⟨.ref fA, rfl, q H5 fA F s5 nfH eF dn.len dn.all⟩
end
def spFirsts (K : PySem.W.Frag) : Sp := fun vs H Q _ => ∃ (a : Addr) (xs : List V) (ss : List Sy) (n : Nat), vs = [.int (n : Int), .ref a] ∧ SqL K H a xs ∧ SL H xs ss ∧ (∀ s ∈ ss, Good (n : Int) s) ∧ ss.length ≤ 25 ∧ n ≤ 430 ∧
  ∀ (H' : Hp) (o : Addr) (F : List Int), Same H H' → H o = none → H' o = some (.lst (F.map V.int)) → F.length = n → (∀ (x : Nat) (f : Int), F[x]? = some f → 0 ≤ f ∧ Eqv (relP (partF ss)) x f ∧ ∀ y, 0 ≤ y → Eqv (relP (partF ss)) x y → f ≤ y) → Q (.ref o) H'
abbrev nFirsts : List Str := ["_law_length", "_law_sayings_here"]
theorem scFirsts : FnScope nFirsts ["_law_length", "_law_sayings_here"] (defScope s_law_firsts) := ⟨rfl, rfl, rfl, by decide +kernel, rfl, by decide +kernel, by decide +kernel⟩
section
variable {P : Program} {w : World} {K : PySem.W.Frag} {mg : Str → Option Value} {base : Heap}
theorem ok_firsts {f fH fP : Addr} {fd fdH fdP : FuncData} {k : Nat} (F : Fun K "_law_firsts" "_law_firsts" s_law_firsts f fd) (GH : FnOk P w K mg base CX0 k fH fdH ["_law_length", "_law_pairs"] (spHeads K)) (kH : PySem.W.keepIn K (.ref fH) = true) (bH : Binds K fdH ["_law_length", "_law_pairs"] []) (mH_ : mg "_law_heads" = some (.ref fH))
    (GP : FnOk P w K mg base CX0 k fP fdP ["_law_sayings_here"] (spParts K)) (kP : PySem.W.keepIn K (.ref fP) = true) (bP : Binds K fdP ["_law_sayings_here"] []) (mP_ : mg "_law_partners" = some (.ref fP)) : FnOk P w K mg base CX0 (k + 1) f fd ["_law_length", "_law_sayings_here"] (spFirsts K) := by
  refine F.ok scFirsts (fun vs H Q E h => ?_) (fun cdv A outer s H vs Q E hr h => ?_)
  · obtain ⟨a, xs, ss, n, rfl, _⟩ := h; rfl
  obtain ⟨a, xs, ss, n, rfl, hX, sl, gd, hl, hn, q⟩ := h
  refine ⟨_, (pss_one (ps_ret (pe_call GH hr (by rfl) mH_ kH bH .nil pass0 (pa_cons (pv 0) (pa_cons (pe_call GP hr (by rfl) mP_ kP bP .nil pass0 (pa_cons (pv 1) pa_nil)) pa_nil))))), ?_⟩
  have len : ∀ ss : List Sy, (∀ s ∈ ss, Good (n : Int) s) → (partF ss).length ≤ ss.length * n := by
    intro ss
    induction ss with
    | nil => intro _; exact Nat.zero_le _
    | cons u ss ih =>
      intro h
      have h1 := ih fun s hs => h s (List.mem_cons_of_mem _ hs)
      obtain ⟨g1, g2, g3, g4, g5⟩ := h u List.mem_cons_self
      show (partOf u u.n.toNat ++ partF ss).length ≤ (ss.length + 1) * n
      rw [List.length_append]
      have : (partOf u u.n.toNat).length = u.n.toNat := by unfold partOf; rw [List.length_map, List.length_range]
      rw [this, Nat.succ_mul]
      omega
  have hpl := len ss gd
  have hb1 : ss.length * n ≤ 25 * 430 := Nat.mul_le_mul hl hn
  have hb2 : n * (2 * (partF ss).length + 1) ≤ 430 * 21501 := Nat.mul_le_mul hn (by omega)
  refine ⟨.int (n : Int), rfl, .ref a, rfl, a, xs, ss, rfl, hX, sl, fun s hs => ?_, by omega, fun H1 o zs s1 no eo pl _ => ?_⟩
  · obtain ⟨g1, g2, g3, g4, g5⟩ := gd s hs
    omega
  exact ⟨o, zs, _, n, rfl, .inl (.inl eo), pl, part_in gd, by omega, by omega, by omega, fun H2 o2 F s2 n2 e2 l2 h2 => q H2 o2 F (s1.trans s2) (Same.free s1 n2) e2 l2 h2⟩
end
end Rep
namespace Rep
open PySem L2
theorem szN (n : Nat) {m : Nat} (h : m = n) (h2 : Nat.ble n sizeLine = true := by decide) : m ≤ sizeLine := by rw [h]; exact Nat.le_of_ble_eq_true h2
theorem new_same {H H' : Hp} {p : Addr} {o : HO} (e : upd H p o = H') (n : H p = none) : Same H H' := by rw [← e]; exact same_upd n
theorem new_at {H H' : Hp} {p : Addr} {o : HO} (e : upd H p o = H') : H' p = some o := by rw [← e]; exact upd_same
end Rep
namespace Rep
open PySem L2
/-- a list's own method in a suite: its reading does not speak of the suite -/
theorem pe_bmK {X : Cx} {K : PySem.W.Frag} {o e : Expr} {es : List Expr} {to : TE} {t : TA} {name : Str} {apos cpos : Pos} {T id : String} {r : V → List V → Hp → VK → Prop} (hK : X.K = K) (pa : PlainAttrs T) (slot : Slot T name id) (hty : typeOf (.builtin id) = pure (.type "method_descriptor")) (hm : MtR X id r) (ho : PE X o to) (ha : PA X (e :: es) t)
    (hbase : attributeBase o name X.env (eval o X.env) = eval o X.env := by rfl)
    (hfew : ((backTo cpos (starEach (e :: es) X.env)).all (fun x => !x.1) && (backToKw cpos (keywordEach [] X.env)).all (fun x => x.1.isSome)
      && decide ((e :: es).length + ([] : List Keyword).length + (if ([] : List Keyword).isEmpty then 0 else 1) < 30)) = true := by rfl)
    (hline : (apos.endLine == cpos.line) = true := by rfl) (hs : starEach (e :: es) X.env = (false, eval e X.env) :: starEach es X.env := by rfl) (hplain : (backTo cpos (starEach es X.env)).any (·.1) = false := by rfl) :
    PE X (.Call (.Attribute o name apos) (e :: es) [] cpos) (tBM K T r to t) := by
  subst hK
  exact pe_bm pa slot hty hm ho ha hbase hfew hline hs hplain
end Rep
namespace Rep
open PySem L2
/-! breadth first: distances, and what came_from keeps -/
inductive Reach (A : Int → Int → Prop) (a : Int) : Nat → Int → Prop
  | zero : Reach A a 0 a
  | step {m : Nat} {p q : Int} : Reach A a m p → A p q → Reach A a (m + 1) q
def Dist (A : Int → Int → Prop) (a z : Int) (m : Nat) : Prop := Reach A a m z ∧ ∀ m', m' < m → ¬ Reach A a m' z
theorem dist_self {A : Int → Int → Prop} {a : Int} : Dist A a a 0 := ⟨.zero, fun m' h => absurd h (Nat.not_lt_zero _)⟩
theorem dist_uniq {A : Int → Int → Prop} {a z : Int} {m m' : Nat} (d : Dist A a z m) (d' : Dist A a z m') : m = m' := by
  rcases Nat.lt_trichotomy m m' with c | c | c
  · exact absurd d.1 (d'.2 m c)
  · exact c
  · exact absurd d'.1 (d.2 m' c)
theorem dist_pred {A : Int → Int → Prop} {a z : Int} {m : Nat} (d : Dist A a z (m + 1)) : ∃ p, Dist A a p m ∧ A p z := by
  obtain ⟨r, no⟩ := d
  cases r with
  | step rp h => exact ⟨_, ⟨rp, fun m' hm r' => no (m' + 1) (by omega) (.step r' h)⟩, h⟩
theorem dist_of {A : Int → Int → Prop} {a z : Int} : ∀ (m : Nat), Reach A a m z → ∃ m', m' ≤ m ∧ Dist A a z m' := by
  intro m
  induction m using Nat.strongRecOn with
  | _ m ih =>
    intro r
    by_cases c : ∃ m', m' < m ∧ Reach A a m' z
    · obtain ⟨m', h, r'⟩ := c
      obtain ⟨m2, h2, d⟩ := ih m' h r'
      exact ⟨m2, by omega, d⟩
    · exact ⟨m, Nat.le_refl _, r, fun m' h r' => c ⟨m', h, r'⟩⟩
theorem dist_upto {A : Int → Int → Prop} {a z : Int} : ∀ {m r : Nat}, Dist A a z m → r ≤ m → ∃ q, Dist A a q r
  | 0, r, d, h => ⟨z, by rw [show r = 0 by omega]; exact d⟩
  | m + 1, r, d, h => by
    by_cases c : r = m + 1
    · exact ⟨z, by rw [c]; exact d⟩
    · obtain ⟨p, dp, _⟩ := dist_pred d
      exact dist_upto dp (by omega)
theorem nodup_le : ∀ (n : Nat) (l : List Int), l.Nodup → (∀ x ∈ l, 0 ≤ x ∧ x < (n : Int)) → l.length ≤ n
  | 0, l, _, h => by
    cases l with
    | nil => exact Nat.le_refl _
    | cons x r => have := h x List.mem_cons_self; omega
  | n + 1, l, nd, h => by
    have ih := nodup_le n (l.filter fun x => decide (x < (n : Int))) (nd.filter _) fun x hx => by
      obtain ⟨h1, h2⟩ := List.mem_filter.mp hx
      exact ⟨(h x h1).1, of_decide_eq_true h2⟩
    have key : ∀ l : List Int, l.Nodup → (∀ x ∈ l, 0 ≤ x ∧ x < ((n + 1 : Nat) : Int)) → l.length ≤ (l.filter fun x => decide (x < (n : Int))).length + 1 := by
      intro l
      induction l with
      | nil => intro _ _; exact Nat.zero_le _
      | cons x r ihr =>
        intro nd h
        obtain ⟨h1, h2⟩ := List.nodup_cons.mp nd
        have hr := ihr h2 fun y hy => h y (List.mem_cons_of_mem _ hy)
        by_cases c : x < (n : Int)
        · rw [List.filter_cons_of_pos (by simpa using c), List.length_cons, List.length_cons]; omega
        · rw [List.filter_cons_of_neg (by simpa using c), List.length_cons]
          have e : r.filter (fun y => decide (y < (n : Int))) = r := List.filter_eq_self.mpr fun y hy => decide_eq_true (by
            have h3 := h x List.mem_cons_self
            have h4 := h y (List.mem_cons_of_mem _ hy)
            have h5 : y ≠ x := fun z => h1 (z ▸ hy)
            push_cast at h3 h4
            omega)
          rw [e]; omega
    have := key l nd h
    omega
def AdjS (ss : List Sy) (p q : Int) : Prop := ∃ s ∈ ss, q ∈ besF s p
theorem bes_in {n : Int} {s : Sy} (g : Good n s) {p q : Int} (h : q ∈ besF s p) : 0 ≤ q ∧ q < n := by
  obtain ⟨g1, g2, g3, g4, g5⟩ := g
  unfold besF metF turnS at h
  rcases List.mem_append.mp h with h | h
  · split at h
    · rw [List.mem_singleton] at h; (try dsimp only at h); split at h <;> omega
    · cases h
  · split at h
    · rw [List.mem_singleton] at h; (try dsimp only at h); split at h <;> omega
    · cases h
/-- a place come to, with the place and the saying that it came from -/
structure Ent where
  pl : Int
  fr : Option (Int × Nat)
def keysE (es : List Ent) : List Int := es.map Ent.pl
def kvE (es : List Ent) (vs : List V) : List (Key × V) := List.zipWith (fun e v => ((Sum.inl e.pl : Key), v)) es vs
def EntAt (H : Hp) (v : V) (e : Ent) : Prop := match e.fr with
  | none => v = .non
  | some (p, k) => ∃ t, v = .ref t ∧ H t = some (.tup [.int p, .int (k : Int)])
theorem EntAt.ts {H H' : Hp} (h : TS H H') {v : V} {e : Ent} (k : EntAt H v e) : EntAt H' v e := by
  unfold EntAt at k ⊢
  split
  · rename_i c; rw [c] at k; exact k
  · rename_i p k' c
    rw [c] at k
    obtain ⟨t, e1, e2⟩ := k
    exact ⟨t, e1, h _ _ e2⟩
def CamAt (H : Hp) (c : Addr) (es : List Ent) : Prop := ∃ vs, H c = some (.dK (kvE es vs)) ∧ LL EntAt H vs es
theorem kvE_len (es : List Ent) (vs : List V) : (kvE es vs).length ≤ es.length := by
  unfold kvE; rw [List.length_zipWith]; omega
theorem kvE_none {q : Int} : ∀ {es : List Ent} {vs : List V}, q ∉ keysE es → valV (kvE es vs) (Sum.inl q) = none
  | [], vs, _ => by unfold kvE; rw [List.zipWith_nil_left]; rfl
  | e :: es, [], _ => rfl
  | e :: es, v :: vs, h => by
    have h1 : ¬ ((Sum.inl e.pl : Key) = Sum.inl q) := fun z => h (List.mem_cons.mpr (.inl (Sum.inl.inj z).symm))
    show valV (((Sum.inl e.pl : Key), v) :: kvE es vs) _ = none
    rw [valV_neg h1]
    exact kvE_none fun z => h (List.mem_cons_of_mem _ z)
theorem kvE_some : ∀ {es : List Ent} {vs : List V} {i : Nat} {e : Ent} {v : V}, (keysE es).Nodup → es[i]? = some e → vs[i]? = some v → valV (kvE es vs) (Sum.inl e.pl) = some v
  | [], _, _, _, _, _, h, _ => by simp at h
  | _ :: _, [], _, _, _, _, _, h => by simp at h
  | e0 :: es, v0 :: vs, 0, e, v, nd, he, hv => by
    cases he; cases hv
    show valV (((Sum.inl e0.pl : Key), v0) :: kvE es vs) _ = _
    rw [valV_pos rfl]
  | e0 :: es, v0 :: vs, i + 1, e, v, nd, he, hv => by
    obtain ⟨h1, h2⟩ := List.nodup_cons.mp (show (e0.pl :: keysE es).Nodup from nd)
    have he : es[i]? = some e := he
    have hv : vs[i]? = some v := hv
    have hn : ¬ ((Sum.inl e0.pl : Key) = Sum.inl e.pl) := fun z => h1 ((Sum.inl.inj z) ▸ List.mem_map.mpr ⟨e, List.mem_of_getElem? he, rfl⟩)
    show valV (((Sum.inl e0.pl : Key), v0) :: kvE es vs) _ = _
    rw [valV_neg hn]
    exact kvE_some h2 he hv
theorem kvE_put {es : List Ent} {vs : List V} {e : Ent} {v : V} (hl : vs.length = es.length) (h : e.pl ∉ keysE es) : kvE (es ++ [e]) (vs ++ [v]) = putK (kvE es vs) (Sum.inl e.pl) v := by
  rw [putK_new v (kvE_none h)]
  unfold kvE
  rw [List.zipWith_append hl.symm]
  rfl
structure Came (ss : List Sy) (o : Int) (es : List Ent) : Prop where
  nd : (keysE es).Nodup
  fr : ∀ e ∈ es, (e.fr = none ∧ e.pl = o) ∨ ∃ (p : Int) (k : Nat) (s : Sy) (m : Nat), e.fr = some (p, k) ∧ ss[k]? = some s ∧ e.pl ∈ besF s p ∧ Dist (AdjS ss) o p m ∧ Dist (AdjS ss) o e.pl (m + 1)
theorem Came.in_ {ss : List Sy} {o : Int} {es : List Ent} {n : Nat} (c : Came ss o es) (gd : ∀ s ∈ ss, Good (n : Int) s) (o0 : 0 ≤ o) (o1 : o < (n : Int)) (q : Int) (h : q ∈ keysE es) : 0 ≤ q ∧ q < (n : Int) := by
  obtain ⟨e, he, rfl⟩ := List.mem_map.mp h
  rcases c.fr e he with ⟨_, z⟩ | ⟨p, k, s, m, _, hs, hq, _⟩
  · rw [z]; exact ⟨o0, o1⟩
  · exact bes_in (gd s (List.mem_of_getElem? hs)) hq
theorem Came.len {ss : List Sy} {o : Int} {es : List Ent} {n : Nat} (c : Came ss o es) (gd : ∀ s ∈ ss, Good (n : Int) s) (o0 : 0 ≤ o) (o1 : o < (n : Int)) : es.length ≤ n := by
  have := nodup_le n (keysE es) c.nd fun x hx => c.in_ gd o0 o1 x hx
  unfold keysE at this
  rw [List.length_map] at this
  exact this
/-- in the middle of a round -/
structure Mid (ss : List Sy) (o : Int) (r : Nat) (rs ks0 fr : List Int) (es : List Ent) : Prop where
  cm : Came ss o es
  keys : keysE es = ks0 ++ fr
  rsD : ∀ q, q ∈ rs ↔ Dist (AdjS ss) o q r
  ks : ∀ q, q ∈ ks0 ↔ ∃ m, m ≤ r ∧ Dist (AdjS ss) o q m
  frD : ∀ q ∈ fr, Dist (AdjS ss) o q (r + 1)
theorem dist_zero {A : Int → Int → Prop} {a z : Int} (d : Dist A a z 0) : z = a := by
  obtain ⟨r, _⟩ := d
  cases r; rfl
theorem Mid.start (ss : List Sy) (o : Int) : Mid ss o 0 [o] [o] [] [⟨o, none⟩] := by
  refine ⟨⟨by simp [keysE], fun e he => .inl ?_⟩, rfl, fun q => ⟨fun h => ?_, fun d => ?_⟩, fun q => ⟨fun h => ?_, fun ⟨m, hm, d⟩ => ?_⟩, fun q h => by cases h⟩
  · rw [List.mem_singleton] at he; subst he; exact ⟨rfl, rfl⟩
  · rw [List.mem_singleton.mp h]; exact dist_self
  · rw [dist_zero d]; exact List.mem_singleton.mpr rfl
  · rw [List.mem_singleton.mp h]; exact ⟨0, Nat.le_refl _, dist_self⟩
  · rw [show m = 0 by omega] at d; rw [dist_zero d]; exact List.mem_singleton.mpr rfl
section
variable {ss : List Sy} {o : Int} {r : Nat} {rs ks0 fr : List Int} {es : List Ent}
theorem Mid.end_ (h : Mid ss o r [] ks0 [] es) (q : Int) : q ∈ keysE es ↔ ∃ m, Dist (AdjS ss) o q m := by
  rw [h.keys, List.append_nil, h.ks]
  constructor
  · rintro ⟨m, _, d⟩; exact ⟨m, d⟩
  · rintro ⟨m, d⟩
    refine ⟨m, ?_, d⟩
    by_cases c : m ≤ r
    · exact c
    · obtain ⟨q', d'⟩ := dist_upto d (show r ≤ m by omega)
      exact absurd ((h.rsD q').mpr d') (by simp)
theorem Mid.visit (h : Mid ss o r rs ks0 fr es) {p to : Int} {j : Nat} {s : Sy} (hp : p ∈ rs) (hs : ss[j]? = some s) (hq : to ∈ besF s p) (hn : to ∉ keysE es) : Mid ss o r rs ks0 (fr ++ [to]) (es ++ [⟨to, some (p, j)⟩]) := by
  have dp := (h.rsD p).mp hp
  have dt : Dist (AdjS ss) o to (r + 1) := by
    refine ⟨.step dp.1 ⟨s, List.mem_of_getElem? hs, hq⟩, fun m' hm rm => hn ?_⟩
    obtain ⟨m2, h2, d2⟩ := dist_of m' rm
    rw [h.keys]
    exact List.mem_append_left _ ((h.ks to).mpr ⟨m2, by omega, d2⟩)
  refine ⟨⟨?_, fun e he => ?_⟩, ?_, h.rsD, h.ks, fun q hq => ?_⟩
  · show ((es ++ [(⟨to, some (p, j)⟩ : Ent)]).map Ent.pl).Nodup
    rw [List.map_append]
    refine List.nodup_append.mpr ⟨h.cm.nd, by simp, fun a ha b hb => ?_⟩
    rintro rfl
    rw [List.map_singleton, List.mem_singleton] at hb
    have hb : a = to := hb
    rw [hb] at ha
    exact hn ha
  · rcases List.mem_append.mp he with he | he
    · exact h.cm.fr e he
    · rw [List.mem_singleton] at he; subst he
      exact .inr ⟨p, j, s, r, rfl, hs, hq, dp, dt⟩
  · show (es ++ [(⟨to, some (p, j)⟩ : Ent)]).map Ent.pl = _
    rw [List.map_append, ← List.append_assoc]
    show keysE es ++ [to] = _
    rw [h.keys]
  · rcases List.mem_append.mp hq with hq | hq
    · exact h.frD q hq
    · rw [List.mem_singleton.mp hq]; exact dt
theorem Mid.over (h : Mid ss o r rs ks0 fr es) (all : ∀ p ∈ rs, ∀ s ∈ ss, ∀ q ∈ besF s p, q ∈ keysE es) : Mid ss o (r + 1) fr (ks0 ++ fr) [] es := by
  have sub : ∀ q, Dist (AdjS ss) o q (r + 1) → q ∈ fr := fun q d => by
    obtain ⟨p, dp, s, hs, hq⟩ := dist_pred d
    have hk := all p ((h.rsD p).mpr dp) s hs q hq
    rw [h.keys] at hk
    rcases List.mem_append.mp hk with hk | hk
    · obtain ⟨m, hm, d'⟩ := (h.ks q).mp hk
      have := dist_uniq d d'
      omega
    · exact hk
  refine ⟨h.cm, by rw [h.keys, List.append_nil], fun q => ⟨h.frD q, sub q⟩, fun q => ?_, fun q hq => by cases hq⟩
  rw [List.mem_append, h.ks]
  constructor
  · rintro (⟨m, hm, d⟩ | hq)
    · exact ⟨m, by omega, d⟩
    · exact ⟨r + 1, Nat.le_refl _, h.frD q hq⟩
  · rintro ⟨m, hm, d⟩
    by_cases c : m ≤ r
    · exact .inl ⟨m, c, d⟩
    · exact .inr (sub q (by rw [show r + 1 = m by omega]; exact d))
end
def spCf (K : PySem.W.Frag) : Sp := fun vs H Q _ => ∃ (a : Addr) (xs : List V) (ss : List Sy) (o : Int) (n : Nat), vs = [.ref a, .int o] ∧ SqL K H a xs ∧ SL H xs ss ∧ (∀ s ∈ ss, Good (n : Int) s) ∧ ss.length ≤ 1000 ∧ n ≤ 1000 ∧ 0 ≤ o ∧ o < (n : Int) ∧
  ∀ H' c es, Same H H' → H c = none → CamAt H' c es → Came ss o es → (∀ q, q ∈ keysE es ↔ ∃ m, Dist (AdjS ss) o q m) → Q (.ref c) H'
end Rep
namespace Rep
open PySem L2
/-! the law's own search: a row of places, each as far as the next or one nearer -/
structure Far (ss : List Sy) (o : Int) (at_ : Nat) (rs : List Int) (ds : List Nat) : Prop where
  len : ds.length = rs.length
  nd : rs.Nodup
  rch : ∀ (i : Nat) (q : Int) (d : Nat), rs[i]? = some q → ds[i]? = some d → Reach (AdjS ss) o d q
  clo : ∀ (i : Nat) (q : Int) (d : Nat), i < at_ → rs[i]? = some q → ds[i]? = some d → ∀ q', AdjS ss q q' → ∃ (j d' : Nat), rs[j]? = some q' ∧ ds[j]? = some d' ∧ d' ≤ d + 1
  mono : ∀ (i j d d' : Nat), i ≤ j → ds[i]? = some d → ds[j]? = some d' → d ≤ d'
  top : ∀ (j d d' : Nat), ds[at_]? = some d → ds[j]? = some d' → d' ≤ d + 1
  st : rs[0]? = some o ∧ ds[0]? = some 0
theorem one_get {α : Type} {x y : α} {i : Nat} (h : [x][i]? = some y) : i = 0 ∧ y = x := by
  match i, h with
  | 0, h => exact ⟨rfl, (Option.some.inj h).symm⟩
  | i + 1, h => simp at h
theorem snoc_get {α : Type} {l : List α} {x y : α} {i : Nat} (h : (l ++ [x])[i]? = some y) : (l[i]? = some y ∧ i < l.length) ∨ (i = l.length ∧ y = x) := by
  by_cases c : i < l.length
  · rw [List.getElem?_append_left c] at h; exact .inl ⟨h, c⟩
  · rw [List.getElem?_append_right (by omega)] at h
    obtain ⟨h1, h2⟩ := one_get h
    exact .inr ⟨by omega, h2⟩
theorem get_snoc {α : Type} {l : List α} {x y : α} {i : Nat} (h : l[i]? = some y) : (l ++ [x])[i]? = some y := by
  rw [List.getElem?_append_left (List.getElem?_eq_some_iff.mp h).1]; exact h
theorem nd_get {l : List Int} (nd : l.Nodup) {i j : Nat} {x : Int} (h : l[i]? = some x) (k : l[j]? = some x) : i = j := by
  obtain ⟨hi, ei⟩ := List.getElem?_eq_some_iff.mp h
  obtain ⟨hj, ej⟩ := List.getElem?_eq_some_iff.mp k
  rcases Nat.lt_trichotomy i j with c | c | c
  · exact absurd (ei.trans ej.symm) (List.pairwise_iff_getElem.mp nd i j hi hj c)
  · exact c
  · exact absurd (ej.trans ei.symm) (List.pairwise_iff_getElem.mp nd j i hj hi c)
theorem Far.start (ss : List Sy) (o : Int) : Far ss o 0 [o] [0] := by
  refine ⟨rfl, by simp, fun i q d h1 h2 => ?_, fun i q d h => absurd h (Nat.not_lt_zero _), fun i j d d' _ h1 h2 => ?_, fun j d d' h1 h2 => ?_, rfl, rfl⟩
  · obtain ⟨_, rfl⟩ := one_get h1
    obtain ⟨_, rfl⟩ := one_get h2
    exact .zero
  · obtain ⟨_, rfl⟩ := one_get h1
    exact Nat.zero_le _
  · obtain ⟨_, rfl⟩ := one_get h2
    exact Nat.zero_le _
section
variable {ss : List Sy} {o : Int} {at_ : Nat} {rs : List Int} {ds : List Nat}
theorem Far.get (h : Far ss o at_ rs ds) {i : Nat} {q : Int} (e : rs[i]? = some q) : ∃ d, ds[i]? = some d := by
  have := (List.getElem?_eq_some_iff.mp e).1
  exact ⟨_, List.getElem?_eq_getElem (by rw [h.len]; exact this)⟩
theorem Far.put (h : Far ss o at_ rs ds) {x q : Int} {d : Nat} (hx : rs[at_]? = some x) (hd : ds[at_]? = some d) (ha : AdjS ss x q) (hq : q ∉ rs) : Far ss o at_ (rs ++ [q]) (ds ++ [d + 1]) := by
  refine ⟨by rw [List.length_append, List.length_append, h.len]; rfl, ?_, fun i q' d' h1 h2 => ?_, fun i q' d' hi h1 h2 q'' ha' => ?_, fun i j d1 d2 hij h1 h2 => ?_, fun j d1 d2 h1 h2 => ?_, get_snoc h.st.1, get_snoc h.st.2⟩
  · refine List.nodup_append.mpr ⟨h.nd, by simp, fun a ha b hb => ?_⟩
    rw [List.mem_singleton] at hb
    rintro rfl
    exact hq (hb ▸ ha)
  · rcases snoc_get h1 with ⟨e1, l1⟩ | ⟨e1, rfl⟩
    · rcases snoc_get h2 with ⟨e2, _⟩ | ⟨e2, _⟩
      · exact h.rch i q' d' e1 e2
      · rw [h.len] at e2; omega
    · rcases snoc_get h2 with ⟨_, l2⟩ | ⟨_, rfl⟩
      · rw [h.len] at l2; omega
      · exact .step (h.rch at_ x d hx hd) ha
  · have lat := (List.getElem?_eq_some_iff.mp hx).1
    rcases snoc_get h1 with ⟨e1, l1⟩ | ⟨e1, rfl⟩
    · rcases snoc_get h2 with ⟨e2, _⟩ | ⟨e2, _⟩
      · obtain ⟨j, d2, a, b, c⟩ := h.clo i q' d' hi e1 e2 q'' ha'
        exact ⟨j, d2, get_snoc a, get_snoc b, c⟩
      · rw [h.len] at e2; omega
    · omega
  · rcases snoc_get h1 with ⟨e1, l1⟩ | ⟨e1, rfl⟩
    · rcases snoc_get h2 with ⟨e2, _⟩ | ⟨e2, rfl⟩
      · exact h.mono i j d1 d2 hij e1 e2
      · exact h.top i d d1 hd e1
    · rcases snoc_get h2 with ⟨e2, l2⟩ | ⟨e2, rfl⟩
      · omega
      · exact Nat.le_refl _
  · have e1 : d1 = d := by
      have := get_snoc (x := d + 1) hd
      rw [h1] at this
      exact Option.some.inj this
    subst e1
    rcases snoc_get h2 with ⟨e2, _⟩ | ⟨_, rfl⟩
    · exact h.top j d1 d2 hd e2
    · exact Nat.le_refl _
theorem Far.next (h : Far ss o at_ rs ds) {x : Int} (hx : rs[at_]? = some x) (all : ∀ q, AdjS ss x q → q ∈ rs) : Far ss o (at_ + 1) rs ds := by
  obtain ⟨d, hd⟩ := h.get hx
  refine ⟨h.len, h.nd, h.rch, fun i q' d' hi h1 h2 q'' ha' => ?_, h.mono, fun j d1 d2 h1 h2 => ?_, h.st⟩
  · by_cases c : i < at_
    · exact h.clo i q' d' c h1 h2 q'' ha'
    · have e : i = at_ := by omega
      subst e
      rw [hx] at h1
      rw [hd] at h2
      cases h1
      cases h2
      obtain ⟨j, hj⟩ := List.mem_iff_getElem?.mp (all q'' ha')
      obtain ⟨d2, hd2⟩ := h.get hj
      exact ⟨j, d2, hj, hd2, h.top j d d2 hd hd2⟩
  · have := h.mono at_ (at_ + 1) d d1 (Nat.le_succ _) hd h1
    have := h.top j d d2 hd h2
    omega
theorem Far.done (h : Far ss o at_ rs ds) (e : at_ = rs.length) (q : Int) (m : Nat) : Dist (AdjS ss) o q m ↔ ∃ j : Nat, rs[j]? = some q ∧ ds[j]? = some m := by
  have near : ∀ (m : Nat) (q : Int), Reach (AdjS ss) o m q → ∃ (j d : Nat), rs[j]? = some q ∧ ds[j]? = some d ∧ d ≤ m := by
    intro m q r
    induction r with
    | zero => exact ⟨0, 0, h.st.1, h.st.2, Nat.le_refl _⟩
    | @step m p q r ha ih =>
      obtain ⟨j, d, h1, h2, h3⟩ := ih
      have := (List.getElem?_eq_some_iff.mp h1).1
      obtain ⟨j', d', k1, k2, k3⟩ := h.clo j p d (by omega) h1 h2 q ha
      exact ⟨j', d', k1, k2, by omega⟩
  constructor
  · rintro ⟨r, no⟩
    obtain ⟨j, d, h1, h2, h3⟩ := near m q r
    have : ¬ d < m := fun z => no d z (h.rch j q d h1 h2)
    rw [show d = m by omega] at h2
    exact ⟨j, h1, h2⟩
  · rintro ⟨j, h1, h2⟩
    refine ⟨h.rch j q m h1 h2, fun m' hm r => ?_⟩
    obtain ⟨j', d', k1, k2, k3⟩ := near m' q r
    have e := nd_get h.nd h1 k1
    subst e
    rw [h2] at k2
    cases k2
    omega
theorem Far.in_ {n : Nat} (h : Far ss o at_ rs ds) (gd : ∀ s ∈ ss, Good (n : Int) s) (o0 : 0 ≤ o) (o1 : o < (n : Int)) {q : Int} (hq : q ∈ rs) : 0 ≤ q ∧ q < (n : Int) := by
  obtain ⟨j, hj⟩ := List.mem_iff_getElem?.mp hq
  obtain ⟨d, hd⟩ := h.get hj
  have r := h.rch j q d hj hd
  cases r with
  | zero => exact ⟨o0, o1⟩
  | step _ ha =>
    obtain ⟨s, hs, hb⟩ := ha
    exact bes_in (gd s hs) hb
theorem Far.few {n : Nat} (h : Far ss o at_ rs ds) (gd : ∀ s ∈ ss, Good (n : Int) s) (o0 : 0 ≤ o) (o1 : o < (n : Int)) : rs.length ≤ n := nodup_le n rs h.nd fun x hx => h.in_ gd o0 o1 hx
end
def entI (q : Int) : Ent := ⟨q, none⟩
def kvR (rs : List Int) (ds : List Nat) : List (Key × V) := kvE (rs.map entI) (ds.map fun (d : Nat) => V.int (d : Int))
theorem keysR (rs : List Int) : keysE (rs.map entI) = rs := by
  unfold keysE
  rw [List.map_map]
  exact List.map_id _
theorem kvR_none {rs : List Int} {ds : List Nat} {q : Int} (h : q ∉ rs) : valV (kvR rs ds) (Sum.inl q) = none := kvE_none (by rw [keysR]; exact h)
theorem kvR_some {rs : List Int} {ds : List Nat} {q : Int} {j d : Nat} (nd : rs.Nodup) (h1 : rs[j]? = some q) (h2 : ds[j]? = some d) : valV (kvR rs ds) (Sum.inl q) = some (.int (d : Int)) :=
  kvE_some (i := j) (e := entI q) (by rw [keysR]; exact nd) (by rw [List.getElem?_map, h1]; rfl) (by rw [List.getElem?_map, h2]; rfl)
theorem kvR_put {rs : List Int} {ds : List Nat} {q : Int} {d : Nat} (hl : ds.length = rs.length) (h : q ∉ rs) : kvR (rs ++ [q]) (ds ++ [d]) = putK (kvR rs ds) (Sum.inl q) (.int (d : Int)) := by
  unfold kvR
  rw [List.map_append, List.map_append]
  exact kvE_put (e := entI q) (by rw [List.length_map, List.length_map, hl]) (by rw [keysR]; exact h)
theorem kvR_len (rs : List Int) (ds : List Nat) : (kvR rs ds).length ≤ rs.length := by
  have := kvE_len (rs.map entI) (ds.map fun (d : Nat) => V.int (d : Int))
  rw [List.length_map] at this
  exact this
theorem adj_sym {ss : List Sy} {x y : Int} : AdjS ss x y ↔ sym (partF ss) x y := by
  have hh : ∀ (s : Sy) (u v : Int), (u, v) ∈ partOf s s.n.toNat ↔ hitP s u v (s.lo, s.hi) := fun s u v => by
    unfold hitP partOf
    rw [List.mem_map]
    constructor
    · rintro ⟨i, hi, e⟩
      have hi := List.mem_range.mp hi
      unfold partAt at e
      obtain ⟨e1, e2⟩ := Prod.mk.inj e
      dsimp only
      subst e1
      rw [show s.lo + (i : Int) - s.lo = (i : Int) by omega]
      exact ⟨by omega, by omega, e2.symm⟩
    · rintro ⟨h1, h2, h3⟩
      dsimp only at h1 h2 h3
      refine ⟨(u - s.lo).toNat, List.mem_range.mpr (by omega), ?_⟩
      unfold partAt
      rw [Int.toNat_of_nonneg h1, h3, show s.lo + (u - s.lo) = u by omega]
  have hs : ∀ (s : Sy) (u v : Int), hitP s u v (s.hi, s.lo) ↔ hitP s v u (s.lo, s.hi) := fun s u v => by
    unfold hitP
    dsimp only
    cases s.t with
    | true =>
      simp only [if_true]
      constructor <;> (rintro ⟨a, b, c⟩; exact ⟨by omega, by omega, by omega⟩)
    | false =>
      simp only [Bool.false_eq_true, if_false]
      constructor <;> (rintro ⟨a, b, c⟩; exact ⟨by omega, by omega, by omega⟩)
  unfold AdjS sym partF
  constructor
  · rintro ⟨s, h, hb⟩
    rcases mem_bes.mp hb with c | c
    · exact .inl (List.mem_flatMap.mpr ⟨s, h, (hh s x y).mpr c⟩)
    · exact .inr (List.mem_flatMap.mpr ⟨s, h, (hh s y x).mpr ((hs s x y).mp c)⟩)
  · rintro (c | c)
    · obtain ⟨s, h, hc⟩ := List.mem_flatMap.mp c
      exact ⟨s, h, mem_bes.mpr (.inl ((hh s x y).mp hc))⟩
    · obtain ⟨s, h, hc⟩ := List.mem_flatMap.mp c
      exact ⟨s, h, mem_bes.mpr (.inr ((hs s x y).mpr ((hh s y x).mp hc)))⟩
end Rep
namespace Rep
open PySem L2
abbrev nCf : List Str := ["sayings", "one", "came", "reached", "fresh", "place", "k", "saying", "to"]
theorem scCf : FnScope nCf ["sayings", "one"] (defScope sCame_from) := ⟨rfl, rfl, rfl, by decide +kernel, rfl, by decide +kernel, by decide +kernel⟩
structure TCf (Pg : Program) (w : World) (K : PySem.W.Frag) (mg : Str → Option Value) (base : Heap) (fB : Addr) (fdB : FuncData) : Prop where
  gB : FnOk Pg w K mg base CX0 7 fB fdB ["saying", "place"] (spBes)
  bB : Binds K fdB ["saying", "place"] []
  kB : PySem.W.keepIn K (.ref fB) = true
  mB : mg "beside" = some (.ref fB)
  menumerate : mg "enumerate" = none
section
variable {Pg : Program} {w : World} {K : PySem.W.Frag} {mg : Str → Option Value} {base : Heap}
theorem ok_cf {f fB : Addr} {fd fdB : FuncData} (F : Fun K "came_from" "came_from" sCame_from f fd) (T : TCf Pg w K mg base fB fdB) : FnOk Pg w K mg base CX0 8 f fd ["sayings", "one"] (spCf K) := by
  refine F.ok scCf (fun vs H Q E h => ?_) (fun cdv A outer s H vs Q E hr h => ?_)
  · obtain ⟨a, xs, ss, o, n, rfl, _⟩ := h; rfl
  obtain ⟨a, xs, ss, o, n, rfl, hX, sl, gd, hl, hn, o0, o1, q⟩ := h
  have hu := hu_of hr
  refine ⟨_, (C8.pss_cut (ps_set (i := 2) scCf.nd rfl (.inl rfl) (pe_disp (pps_cons (pv 1) pe_non pps_nil) rfl rfl (by simp) (by decide)))
    (C8.pss_cut (ps_set (i := 3) scCf.nd rfl (.inl rfl) (pe_lst (pa_cons (pv 1) pa_nil)))
    (pss_cons (ps_while PassesOwn.never (pt_truth (pv 3) (by intro _; rfl))
      (pss_cons (ps_set (i := 4) scCf.nd rfl (.inl rfl) (pe_lst pa_nil))
    (C8.pss_cut (ps_for PassesOwn.never rfl (pi_list (pv 3)) (pg_name (i := 5) scCf.nd rfl (.inl rfl))
      (pss_one (ps_for PassesOwn.never rfl (pi_enum (by rfl) T.menumerate (pa_cons (pv 0) pa_nil)) (pg_tup rfl (pgs_cons (pg_name (i := 6) scCf.nd rfl (.inl rfl)) (pgs_cons (pg_name (i := 7) scCf.nd rfl (.inl rfl)) pgs_nil)))
      (pss_one (ps_for PassesOwn.never rfl (pi_list (pe_call T.gB hr (by rfl) T.mB T.kB T.bB .nil pass0 (pa_cons (pv 7) (pa_cons (pv 5) pa_nil)))) (pg_name (i := 8) scCf.nd rfl (.inl rfl))
      (pss_one (ps_if (pt_cmp (pc_dnotin hu (pv 8) (pv 2))) (pss_cons (ps_dput hu (pv 2) (pv 8) (pe_tup (pa_cons (pv 5) (pa_cons (pv 6) pa_nil))) rfl)
    (pss_one (ps_expr (pe_bm PySem.F.plainAttrs_list PySem.F.slot_list_append PySem.F.type_list_append mt_append (pv 4) (pa_cons (pv 8) pa_nil))))) pss_nil)))))))
    (pss_one (ps_set (i := 3) scCf.nd rfl (.inl rfl) (pv 4))))))
    (pss_one (ps_ret (pv 2)))))), ?_⟩
  -- the dict
  refine ⟨fun σ' H' => ∃ c, σ' = [some (.ref a), some (.int o), some (.ref c), none, none, none, none, none, none] ∧ Same H H' ∧ H c = none ∧ H' c = some (.dK (kvE [⟨o, none⟩] [.non])), ?_, ?_⟩
  · intro c nc
    refine ⟨.int o, rfl, ?_⟩
    refine ⟨upd_same, [(Sum.inl o, .non)], rfl, by show 1 ≤ 15; decide, ?_⟩
    exact ⟨c, rfl, same_over (same_upd nc) nc, nc, upd_same⟩
  rintro σ' H1 ⟨c, rfl, s1, nc, ec⟩
  refine ⟨fun σ' H' => ∃ rA, σ' = [some (.ref a), some (.int o), some (.ref c), some (.ref rA), none, none, none, none, none] ∧ Same H1 H' ∧ H' rA = some (.lst ([o].map V.int)), ?_, ?_⟩
  · refine ⟨.int o, rfl, ?_⟩
    refine ⟨szN 1 rfl, fun rA n_rA => ?_⟩
    generalize e_rA : upd H1 rA _ = H2
    have s2 := new_same e_rA n_rA
    have z2 := new_at e_rA
    clear e_rA
    exact ⟨rA, rfl, s2, z2⟩
  rintro σ' H2 ⟨rA, rfl, s2, er⟩
  replace s1 := s1.trans s2
  replace ec := s2 _ _ ec
  refine ⟨fun m σ H' => ∃ (r : Nat) (rA : Addr) (rs ks0 : List Int) (es : List Ent) (y4 y5 y6 y7 y8 : Option V), σ = [some (.ref a), some (.int o), some (.ref c), some (.ref rA), y4, y5, y6, y7, y8] ∧ Same H H' ∧ CamAt H' c es ∧ H' rA = some (.lst (rs.map V.int)) ∧ Mid ss o r rs ks0 [] es ∧ rs.length ≤ n ∧ m = 2 * (n - es.length) + (if rs = [] then 0 else 1),
    ⟨_, 0, rA, [o], [o], [⟨o, none⟩], none, none, none, none, none, rfl, s1, ⟨[.non], ec, .one rfl⟩, er, Mid.start ss o, by show 1 ≤ n; omega, rfl⟩, ?_⟩
  rintro m σ H3 ⟨r, rA, rs, ks0, es, y4, y5, y6, y7, y8, rfl, s3, ca, er, md, lr, rfl⟩
  refine ⟨.ref rA, rfl, !(rs.map V.int).isEmpty, .inl ⟨_, .inl (.inl er), rfl⟩, ?_⟩
  have eL := md.cm.len gd o0 o1
  cases hrs : rs with
  | nil =>
    subst hrs
    refine iteF ?_
    exact ⟨.ref c, rfl, q H3 c es s3 nc ca md.cm md.end_⟩
  | cons x0 rs0 =>
    refine iteT ?_
    rw [← hrs]
    have v1 : (if rs = [] then 0 else 1) = 1 := by rw [if_neg (by rw [hrs]; simp)]
    rw [v1]
    clear hrs
    refine ⟨fun σ' H' => ∃ (rB : Addr) (fr : List Int) (es' : List Ent) (y4 y5 y6 y7 y8 : Option V), σ' = [some (.ref a), some (.int o), some (.ref c), some (.ref rB), y4, y5, y6, y7, y8] ∧ Same H H' ∧ CamAt H' c es' ∧ H' rB = some (.lst (fr.map V.int)) ∧ Mid ss o (r + 1) fr (ks0 ++ fr) [] es' ∧ es'.length = es.length + fr.length, fun σ' H' hN => ?_, ?_⟩
    · obtain ⟨rB, fr, es', y4, y5, y6, y7, y8, e1, e2, e3, e4, e5, e6⟩ := hN
      have eL' := e5.cm.len gd o0 o1
      refine ⟨_, ?_, r + 1, rB, fr, ks0 ++ fr, es', y4, y5, y6, y7, y8, e1, e2, e3, e4, e5, by omega, rfl⟩
      split
      · omega
      · rename_i z
        have : 0 < fr.length := List.length_pos_iff.mpr z
        omega
    refine ⟨szN 0 rfl, fun fA n_fA => ?_⟩
    generalize e_fA : upd H3 fA _ = H4
    have s4 := new_same e_fA n_fA
    have z4 := new_at e_fA
    clear e_fA
    have nf : H fA = none := by
      cases e : H fA with
      | none => rfl
      | some u => rw [s3 _ _ e] at n_fA; cases n_fA
    have cf : c ≠ fA := fun z => by
      obtain ⟨vs, h1, _⟩ := ca
      rw [z, n_fA] at h1; cases h1
    have ca4 : CamAt H4 c es := by
      obtain ⟨vs, h1, h2⟩ := ca
      exact ⟨vs, s4 _ _ h1, h2.imp fun _ _ z => z.ts (TS.of s4)⟩
    have md0 : Mid ss o r rs ks0 [] es := md
    have er4 := s4 _ _ er
    have hX4 := (s3.trans s4).seq hX
    have sl4 := SL.ts (TS.of (s3.trans s4)) sl
    -- what a round keeps
    let Rd : Hp → List Int → List Ent → Prop := fun H' fr es' => (∀ b u, H4 b = some u → b ≠ c → b ≠ fA → H' b = some u) ∧ CamAt H' c es' ∧ H' fA = some (.lst (fr.map V.int)) ∧ Mid ss o r rs ks0 fr es' ∧ es'.length = es.length + fr.length
    let Dn : Nat → List Ent → Prop := fun i es' => ∀ i', i' < i → ∀ p, rs[i']? = some p → ∀ s ∈ ss, ∀ q ∈ besF s p, q ∈ keysE es'
    have rd0 : Rd H4 [] es := ⟨fun b u e _ _ => e, ca4, z4, md, rfl⟩
    have fin : ∀ H' fr es', Rd H' fr es' → Same H H' := fun H' fr es' h b u e => h.1 b u (s4 _ _ (s3 _ _ e)) (fun z => by rw [z, nc] at e; cases e) (fun z => by rw [z, nf] at e; cases e)
    refine ⟨fun σ' H' => ∃ fr es' y5 y6 y7 y8, σ' = [some (.ref a), some (.int o), some (.ref c), some (.ref rA), some (.ref fA), y5, y6, y7, y8] ∧ Rd H' fr es' ∧ Dn rs.length es', ?_, ?_⟩
    · refine ⟨.ref rA, rfl, rA, rfl, ⟨_, .inl (.inl er4)⟩, for_list (xs := rs.map V.int) (fun i σ' H' => ∃ fr es' y5 y6 y7 y8, σ' = [some (.ref a), some (.int o), some (.ref c), some (.ref rA), some (.ref fA), y5, y6, y7, y8] ∧ Rd H' fr es' ∧ Dn i es') ⟨[], es, y5, y6, y7, y8, rfl, rd0, fun i' hi => absurd hi (Nat.not_lt_zero _)⟩ (fun i σ' H' _ hP => ?_) (fun i v σ' H5 hv hP => ?_) (fun σ' H' hP => by rw [List.length_map] at hP; exact hP)⟩
      · obtain ⟨_, _, _, _, _, _, _, rd, _⟩ := hP
        exact .inl (.inl (rd.1 _ _ er4 (fun z => by
          obtain ⟨vs, h1, _⟩ := ca4
          rw [z, h1] at er4; cases er4) fun z => by rw [z, n_fA] at er; cases er))
      · obtain ⟨fr, es', y5, y6, y7, y8, rfl, rd, dn⟩ := hP
        rw [List.getElem?_map] at hv
        obtain ⟨p, hp, rfl⟩ := Option.map_eq_some_iff.mp hv
        have hpm := List.mem_of_getElem? hp
        let D2 : Nat → List Ent → Prop := fun j es' => ∀ j', j' < j → ∀ s, ss[j']? = some s → ∀ q ∈ besF s p, q ∈ keysE es'
        have hX5 : ∀ H' fr es', Rd H' fr es' → SqL K H' a xs := fun H' fr es' h => (fin _ _ _ h).seq hX
        refine ⟨.ref a, rfl, a, xs, rfl, hX5 _ _ _ rd, ?_⟩
        refine for_it (walk_enum (K := K) (a := a) (xs := xs)) (fun j σ' H' => ∃ fr es' y6 y7 y8, σ' = [some (.ref a), some (.int o), some (.ref c), some (.ref rA), some (.ref fA), some (.int p), y6, y7, y8] ∧ Rd H' fr es' ∧ Dn i es' ∧ D2 j es') ⟨fr, es', y6, y7, y8, rfl, rd, dn, fun j' hj => absurd hj (Nat.not_lt_zero _)⟩ (fun j σ' H' _ hP => ?_) (fun j v σ' H6 H7 hj hP hy => ?_) (fun σ' H' hP => ?_)
        · obtain ⟨_, _, _, _, _, _, rd, _⟩ := hP
          exact hX5 _ _ _ rd
        · obtain ⟨fr, es', y6, y7, y8, rfl, rd, dn, d2⟩ := hP
          obtain ⟨T', v1, v2, rfl, nT, rfl, g1, g2⟩ := hy
          cases g1
          have g2 : xs[j]? = some v2 := g2
          obtain ⟨u, hu_, iu⟩ := sl.get g2
          have hum := List.mem_of_getElem? hu_
          have sT := same_upd (o := .tup [.int ((j : Nat) : Int), v2]) nT
          have eT : upd H6 T' (.tup [.int ((j : Nat) : Int), v2]) T' = some (.tup [.int ((j : Nat) : Int), v2]) := upd_same
          generalize upd H6 T' (.tup [.int ((j : Nat) : Int), v2]) = H7 at sT eT ⊢
          have rdS : ∀ {A B : Hp} {fr es'}, Rd A fr es' → Same A B → Rd B fr es' := fun {A B fr es'} h sm => ⟨fun b w e n1 n2 => sm _ _ (h.1 b w e n1 n2), (by
            obtain ⟨vs, h1, h2⟩ := h.2.1
            exact ⟨vs, sm _ _ h1, h2.imp fun _ _ z => z.ts (TS.of sm)⟩), sm _ _ h.2.2.1, h.2.2.2.1, h.2.2.2.2⟩
          replace rd := rdS rd sT
          refine ⟨T', _, rfl, .inl (.inl eT), rfl, _, _, rfl, _, _, rfl, rfl, ?_⟩
          refine ⟨v2, rfl, .int p, rfl, v2, u, p, rfl, iu.ts (TS.of (fin _ _ _ rd)), fun H8 l s8 nl el => ?_⟩
          have lf : l ≠ fA := fun z => by rw [z, rd.2.2.1] at nl; cases nl
          replace rd := rdS rd s8
          have lc : l ≠ c := fun z => by
            obtain ⟨vs, h1, _⟩ := rd.2.1
            rw [z, h1] at el; cases el
          refine ⟨l, rfl, ⟨_, .inl (.inl el)⟩, for_list (xs := (besF u p).map V.int) (fun t σ' H' => ∃ fr es' y8, σ' = [some (.ref a), some (.int o), some (.ref c), some (.ref rA), some (.ref fA), some (.int p), some (.int ((j : Nat) : Int)), some v2, y8] ∧ Rd H' fr es' ∧ Dn i es' ∧ D2 j es' ∧ (∀ t', t' < t → ∀ q, (besF u p)[t']? = some q → q ∈ keysE es') ∧ H' l = some (.lst ((besF u p).map V.int))) ⟨fr, es', y8, rfl, rd, dn, d2, fun t' ht => absurd ht (Nat.not_lt_zero _), el⟩ (fun t σ' H' _ hP => ?_) (fun t v σ' H9 hv hP => ?_) (fun σ' H' hP => ?_)⟩
          · obtain ⟨_, _, _, _, _, _, _, _, el⟩ := hP
            exact .inl (.inl el)
          · obtain ⟨fr, es', y8, rfl, rd, dn, d2, d3, el⟩ := hP
            rw [List.getElem?_map] at hv
            obtain ⟨to, hto, rfl⟩ := Option.map_eq_some_iff.mp hv
            have hq := List.mem_of_getElem? hto
            obtain ⟨k1, ⟨vs, ec, ll⟩, ef, md', ln⟩ := id rd
            refine ⟨.int to, rfl, .ref c, rfl, c, _, rfl, DGet.k (k := Sum.inl to) ec, _, rfl, ?_⟩
            by_cases c1 : to ∈ keysE es'
            · obtain ⟨e, he, ee⟩ := List.mem_map.mp c1
              obtain ⟨ie, hie⟩ := List.mem_iff_getElem?.mp he
              obtain ⟨v, hv, _⟩ := ll.get' hie
              have hval := kvE_some md'.cm.nd hie hv
              rw [ee] at hval
              rw [hval]
              refine iteF ?_
              refine ⟨fr, es', _, rfl, rd, dn, d2, fun t' ht q hq' => ?_, el⟩
              by_cases ct : t' < t
              · exact d3 t' ct q hq'
              · have e : t' = t := by omega
                subst e; rw [hto] at hq'; cases hq'; exact c1
            · rw [kvE_none c1]
              refine iteT ?_
              have eL' := md'.cm.len gd o0 o1
              have hsz : (kvE es' vs).length < sizeLine := Nat.lt_of_le_of_lt (Nat.le_trans (kvE_len es' vs) (show es'.length ≤ 1000 by omega)) (by decide)
              refine ⟨.int p, rfl, .int ((j : Nat) : Int), rfl, ?_⟩
              refine ⟨szN 2 rfl, fun t2 n_t2 => ?_⟩
              generalize e_t2 : upd H9 t2 _ = HA
              have sA := new_same e_t2 n_t2
              have zA := new_at e_t2
              clear e_t2
              refine ⟨.ref c, rfl, .int to, rfl, c, _, rfl, DPut.k (k := Sum.inl to) (sA _ _ ec) hsz, ?_⟩
              have md2 := md'.visit hpm hu_ hq c1
              have grow : ∀ {q : Int}, q ∈ keysE es' → q ∈ keysE (es' ++ [(⟨to, some (p, j)⟩ : Ent)]) := fun h => by
                show _ ∈ (es' ++ [(⟨to, some (p, j)⟩ : Ent)]).map Ent.pl
                rw [List.map_append]; exact List.mem_append_left _ h
              have c_t2 : t2 ≠ c := fun z => by rw [z, ec] at n_t2; cases n_t2
              have ef1 : upd HA c (.dK (putK (kvE es' vs) (Sum.inl to) (.ref t2))) fA = some (.lst (fr.map V.int)) := by rw [upd_ne (Ne.symm cf)]; exact sA _ _ ef
              refine ⟨.ref fA, rfl, .inl ⟨rfl, _, .inl (.inl ef1)⟩, .int to, rfl, fA, _, _, rfl, rfl, ef1, ?_, ?_⟩
              · rw [List.length_map]
                have : fr.length ≤ 1000 := by omega
                exact Nat.lt_of_le_of_lt this (by decide)
              · refine ⟨fr ++ [to], es' ++ [(⟨to, some (p, j)⟩ : Ent)], _, rfl, ⟨fun b w e n1 n2 => ?_, ⟨vs ++ [.ref t2], ?_, ?_⟩, ?_, md2, by rw [List.length_append, List.length_append]; show es'.length + 1 = es.length + (fr.length + 1); omega⟩, fun i' hi p' hp' s hs q hq => grow (dn i' hi p' hp' s hs q hq), fun j' hj s hs q hq => grow (d2 j' hj s hs q hq), fun t' ht q hq' => ?_, ?_⟩
                · rw [upd_ne n2, upd_ne n1]; exact sA _ _ (k1 b w e n1 n2)
                · rw [upd_ne cf, upd_same, ← kvE_put (e := ⟨to, some (p, j)⟩) (by rw [ll.len]) c1]
                · have tsx : ∀ {v : V} {e : Ent}, EntAt H9 v e → EntAt (upd (upd HA c (.dK (putK (kvE es' vs) (Sum.inl to) (.ref t2)))) fA (.lst (fr.map V.int ++ [.int to]))) v e := fun h => h.ts fun b ts e => by
                    have h1 : b ≠ c := fun z => by rw [z, ec] at e; cases e
                    have h2 : b ≠ fA := fun z => by rw [z, ef] at e; cases e
                    rw [upd_ne h2, upd_ne h1]; exact sA _ _ e
                  refine (ll.imp fun _ _ z => tsx z).snoc ⟨t2, rfl, ?_⟩
                  have h2 : t2 ≠ fA := fun z => by rw [z, ef] at n_t2; cases n_t2
                  rw [upd_ne h2, upd_ne c_t2]; exact zA
                · rw [upd_same, List.map_append]; rfl
                · by_cases ct : t' < t
                  · exact grow (d3 t' ct q hq')
                  · have e : t' = t := by omega
                    subst e; rw [hto] at hq'; cases hq'
                    show to ∈ (es' ++ [(⟨to, some (p, j)⟩ : Ent)]).map Ent.pl
                    rw [List.map_append]; exact List.mem_append_right _ List.mem_cons_self
                · rw [upd_ne lf, upd_ne lc]; exact sA _ _ el
          · obtain ⟨fr, es', y8, rfl, rd, dn, d2, d3, el⟩ := hP
            refine ⟨fr, es', _, _, _, rfl, rd, dn, fun j' hj s hs q hq => ?_⟩
            by_cases cj : j' < j
            · exact d2 j' cj s hs q hq
            · have e : j' = j := by omega
              subst e; rw [hu_] at hs; cases hs
              obtain ⟨t', ht'⟩ := List.mem_iff_getElem?.mp hq
              exact d3 t' (by rw [List.length_map]; exact (List.getElem?_eq_some_iff.mp ht').1) q ht'
        · obtain ⟨fr, es', y6, y7, y8, rfl, rd, dn, d2⟩ := hP
          refine ⟨fr, es', _, _, _, _, rfl, rd, fun i' hi p' hp' s hs q hq => ?_⟩
          by_cases ci : i' < i
          · exact dn i' ci p' hp' s hs q hq
          · have e : i' = i := by omega
            subst e
            rw [hp] at hp'
            cases hp'
            obtain ⟨j, hj⟩ := List.mem_iff_getElem?.mp hs
            exact d2 j (by have := (List.getElem?_eq_some_iff.mp hj).1; rw [sl.len]; exact this) s hj q hq
    rintro σ' H5 ⟨fr, es', y5, y6, y7, y8, rfl, rd, dn⟩
    obtain ⟨k1, k2, k3, k4, k5⟩ := id rd
    exact ⟨.ref fA, rfl, fA, fr, es', _, _, _, _, _, rfl, fin _ _ _ rd, k2, k3, k4.over fun p hp => by
      obtain ⟨i, hi⟩ := List.mem_iff_getElem?.mp hp
      exact dn i (List.getElem?_eq_some_iff.mp hi).1 p hi, k5⟩

end
end Rep
namespace Rep
open PySem L2 L2H RepHot
/-- what is told of a way -/
def WayV (H0 H : Hp) (ss : List Sy) (o z : Int) (v : V) : Prop := (v = .non ∧ ∀ m, ¬ Dist (AdjS ss) o z m) ∨ ∃ (l : Addr) (ys : List V) (sts : List Pr), v = .ref l ∧ H0 l = none ∧ H l = some (.lst ys) ∧ PL H ys sts ∧ leadsF ss o sts = some z ∧ Dist (AdjS ss) o z sts.length ∧ sts.length ≤ 1000
def spPthX (K : PySem.W.Frag) (NP : Addr) : Sp := fun vs H Q E => ∃ (a : Addr) (xs : List V) (ss : List Sy) (o z : Int) (n : Nat), vs = [.int (n : Int), .ref a, .int o, .int z] ∧ SqL K H a xs ∧ SL H xs ss ∧ (∀ s ∈ ss, Good (n : Int) s) ∧ ss.length ≤ 1000 ∧ n ≤ 1000 ∧
  (0 ≤ o ∧ o < (n : Int) ∧ 0 ≤ z ∧ z < (n : Int) → ∀ H' v, Same H H' → WayV H H' ss o z v → Q v H') ∧ (¬ (0 ≤ o ∧ o < (n : Int) ∧ 0 ≤ z ∧ z < (n : Int)) → E (.ref NP) none H)
/-- one more step ahead of the others -/
theorem leads_cons {ss : List Sy} {p q z : Int} {k : Nat} {s : Sy} {r : List Pr} (hs : ss[k]? = some s) (hq : q ∈ besF s p) (h : leadsF ss q r = some z) : leadsF ss p (((k : Int), q) :: r) = some z := by
  show (if 0 ≤ ((k : Int)) ∧ ∃ s, ss[((k : Int)).toNat]? = some s ∧ q ∈ besF s p then leadsF ss q r else none) = some z
  rw [if_pos ⟨by omega, s, by rw [Int.toNat_natCast]; exact hs, hq⟩]
  exact h
theorem dist_list {A : Int → Int → Prop} {a : Int} : ∀ (L : Nat) {z : Int}, Dist A a z L → ∃ l : List Int, l.length = L + 1 ∧ l.Nodup ∧ ∀ x ∈ l, ∃ m, m ≤ L ∧ Dist A a x m
  | 0, z, d => ⟨[z], rfl, by simp, fun x hx => by rw [List.mem_singleton.mp hx]; exact ⟨0, Nat.le_refl _, d⟩⟩
  | L + 1, z, d => by
    obtain ⟨p, dp, _⟩ := dist_pred d
    obtain ⟨l, h1, h2, h3⟩ := dist_list L dp
    refine ⟨z :: l, by simp [h1], List.nodup_cons.mpr ⟨fun hz => ?_, h2⟩, fun x hx => ?_⟩
    · obtain ⟨m, hm, dm⟩ := h3 z hz
      have := dist_uniq d dm
      omega
    · rcases List.mem_cons.mp hx with rfl | hx
      · exact ⟨L + 1, Nat.le_refl _, d⟩
      · obtain ⟨m, hm, dm⟩ := h3 x hx
        exact ⟨m, by omega, dm⟩
theorem dist_len {A : Int → Int → Prop} {a z : Int} {L n : Nat} (inn : ∀ q m, Dist A a q m → 0 ≤ q ∧ q < (n : Int)) (d : Dist A a z L) : L < n := by
  obtain ⟨l, h1, h2, h3⟩ := dist_list L d
  have := nodup_le n l h2 fun x hx => by obtain ⟨m, _, dm⟩ := h3 x hx; exact inn x m dm
  omega
theorem pl_rev {H : Hp} {vs : List V} {ps : List Pr} (h : PL H vs ps) : PL H vs.reverse ps.reverse := ⟨fun v hv => h.all v (List.mem_reverse.mp hv), by rw [List.map_reverse, h.eq]⟩
abbrev nPth : List Str := ["length", "sayings", "one", "other", "came", "steps", "place", "ahead", "k"]
theorem scPth : FnScope nPth ["length", "sayings", "one", "other"] (defScope sPath) := ⟨rfl, rfl, rfl, by decide +kernel, rfl, by decide +kernel, by decide +kernel⟩
structure TPth (Pg : Program) (w : World) (K : PySem.W.Frag) (mg : Str → Option Value) (base : Heap) (NP fL fS fP fC : Addr) (fdL fdS fdP fdC : FuncData) : Prop where
  gL : FnOk Pg w K mg base CX0 7 fL fdL ["length"] (spChkl)
  bL : Binds K fdL ["length"] []
  kL : PySem.W.keepIn K (.ref fL) = true
  mL : mg "check_length" = some (.ref fL)
  gS : FnOk Pg w K mg base CX0 7 fS fdS ["length", "sayings"] (spChkss K)
  bS : Binds K fdS ["length", "sayings"] []
  kS : PySem.W.keepIn K (.ref fS) = true
  mS : mg "check_sayings" = some (.ref fS)
  gP : FnOk Pg w K mg base (L2N.CX Pg w) 7 fP fdP ["length", "place"] (spChkpX NP)
  bP : Binds K fdP ["length", "place"] []
  kP : PySem.W.keepIn K (.ref fP) = true
  mP : mg "check_place" = some (.ref fP)
  gC : FnOk Pg w K mg base CX0 8 fC fdC ["sayings", "one"] (spCf K)
  bC : Binds K fdC ["sayings", "one"] []
  kC : PySem.W.keepIn K (.ref fC) = true
  mC : mg "came_from" = some (.ref fC)
section
variable {Pg : Program} {w : World} {K : PySem.W.Frag} {mg : Str → Option Value} {base : Heap}
theorem ok_pth {f NP fL fS fP fC : Addr} {fd fdL fdS fdP fdC : FuncData} (F : Fun K "path" "path" sPath f fd) (T : TPth Pg w K mg base NP fL fS fP fC fdL fdS fdP fdC) : FnOk Pg w K mg base (L2N.CX Pg w) 9 f fd ["length", "sayings", "one", "other"] (spPthX K NP) := by
  refine okN F scPth (fun vs H Q E h => ?_) (fun cdv A outer s H vs Q E hr h => ?_)
  · obtain ⟨a, xs, ss, o, z, n, rfl, _⟩ := h; rfl
  obtain ⟨a, xs, ss, o, z, n, rfl, hX, sl, gd, hl, hn, qq, qe⟩ := h
  have hu := hu_of hr
  have r7 : Room 7 _ := hr.mono (by decide)
  have nB : (n : Int) < 10 ^ 40 := Int.lt_of_le_of_lt (show (n : Int) ≤ 1000 by omega) (by decide)
  refine ⟨_, (C8.pss_cut (ps_expr (pe_call T.gL r7 (by rfl) T.mL T.kL T.bL .nil pass0 (pa_cons (pv 0) pa_nil)))
    (C8.pss_cut (ps_expr (pe_call T.gS r7 (by rfl) T.mS T.kS T.bS .nil pass0 (pa_cons (pv 0) (pa_cons (pv 1) pa_nil))))
    (C8.pss_cut (ps_expr (pe_call T.gP r7 (by rfl) T.mP T.kP T.bP .nil (L2N.passes_call (L2N.takes_of rfl rfl rfl rfl) (fun _ _ _ _ h => h)) (pa_cons (pv 0) (pa_cons (pv 2) pa_nil))))
    (C8.pss_cut (ps_expr (pe_call T.gP r7 (by rfl) T.mP T.kP T.bP .nil (L2N.passes_call (L2N.takes_of rfl rfl rfl rfl) (fun _ _ _ _ h => h)) (pa_cons (pv 0) (pa_cons (pv 3) pa_nil))))
    (C8.pss_cut (ps_set (i := 4) scPth.nd rfl (.inl rfl) (pe_call T.gC hr (by rfl) T.mC T.kC T.bC .nil pass0 (pa_cons (pv 1) (pa_cons (pv 2) pa_nil))))
    (C8.pss_cut (ps_if (pt_cmp (pc_dnotin hu (pv 3) (pv 4))) (pss_one (ps_ret pe_non)) pss_nil)
    (C8.pss_cut (ps_set (i := 5) scPth.nd rfl (.inl rfl) (pe_lst pa_nil))
    (C8.pss_cut (ps_set (i := 6) scPth.nd rfl (.inl rfl) (pv 3))
    (C8.pss_cut (ps_while (passes_of rfl) (pt_cmpR op_ne (pv 6) (pv 2) (nomark _))
      (pss_cons (ps_asg (pe_dget hu (pv 4) (pv 6) (fun _ _ => rfl)) (pg_tup rfl (pgs_cons (pg_name (i := 7) scPth.nd rfl (.inl rfl)) (pgs_cons (pg_name (i := 8) scPth.nd rfl (.inl rfl)) pgs_nil))))
    (pss_cons (ps_expr (pe_bm PySem.F.plainAttrs_list PySem.F.slot_list_append PySem.F.type_list_append mt_append (pv 5) (pa_cons (pe_tup (pa_cons (pv 8) (pa_cons (pv 6) pa_nil))) pa_nil)))
    (pss_one (ps_set (i := 6) scPth.nd rfl (.inl rfl) (pv 7))))))
    (C8.pss_cut (ps_expr (pe_bm0 PySem.F.plainAttrs_list PySem.F.slot_list_reverse PySem.F.type_list_reverse mt_reverse (pv 5)))
    (pss_one (ps_ret (pv 5))))))))))))), ?_⟩
  refine ⟨fun σ' H' => σ' = [some (.int (n : Int)), some (.ref a), some (.int o), some (.int z), none, none, none, none, none] ∧ H' = H, ?_, ?_⟩
  · exact ⟨.int (n : Int), rfl, (n : Int), rfl, by omega, nB, rfl, rfl⟩
  rintro σ' Ha ⟨rfl, eH⟩
  subst eH
  refine ⟨fun σ' H1 => σ' = [some (.int (n : Int)), some (.ref a), some (.int o), some (.int z), none, none, none, none, none] ∧ H1 = Ha, ?_, ?_⟩
  · exact ⟨.int (n : Int), rfl, .ref a, rfl, (n : Int), a, xs, ss, rfl, hX, sl, gd, rfl, rfl⟩
  rintro σ' Hb ⟨rfl, eH⟩
  subst eH
  refine ⟨fun σ' H1 => σ' = [some (.int (n : Int)), some (.ref a), some (.int o), some (.int z), none, none, none, none, none] ∧ H1 = Hb ∧ 0 ≤ o ∧ o < (n : Int), ?_, ?_⟩
  · exact ⟨.int (n : Int), rfl, .int o, rfl, (n : Int), o, rfl, fun g => ⟨rfl, rfl, g.1, g.2⟩, fun g => qe fun y => g ⟨y.1, y.2.1⟩⟩
  rintro σ' Hc ⟨rfl, eH, o0, o1⟩
  subst eH
  refine ⟨fun σ' H1 => σ' = [some (.int (n : Int)), some (.ref a), some (.int o), some (.int z), none, none, none, none, none] ∧ H1 = Hc ∧ 0 ≤ z ∧ z < (n : Int), ?_, ?_⟩
  · exact ⟨.int (n : Int), rfl, .int z, rfl, (n : Int), z, rfl, fun g => ⟨rfl, rfl, g.1, g.2⟩, fun g => qe fun y => g ⟨y.2.2.1, y.2.2.2⟩⟩
  rintro σ' H' ⟨rfl, eH, z0, z1⟩
  subst eH
  have q := qq ⟨o0, o1, z0, z1⟩
  clear qq qe
  -- what came from what
  refine ⟨fun σ' H1 => ∃ (c : Addr) (es : List Ent), σ' = [some (.int (n : Int)), some (.ref a), some (.int o), some (.int z), some (.ref c), none, none, none, none] ∧ Same H' H1 ∧ CamAt H1 c es ∧ Came ss o es ∧ (∀ q, q ∈ keysE es ↔ ∃ m, Dist (AdjS ss) o q m), ?_, ?_⟩
  · exact ⟨.ref a, rfl, .int o, rfl, a, xs, ss, o, n, rfl, hX, sl, gd, hl, hn, o0, o1, fun H1 c es s1 nc ca cm all => ⟨c, es, rfl, s1, ca, cm, all⟩⟩
  rintro σ' H1 ⟨c, es, rfl, s1, ca, cm, all⟩
  obtain ⟨vs, ec, ll⟩ := id ca
  refine ⟨fun σ' H2 => σ' = [some (.int (n : Int)), some (.ref a), some (.int o), some (.int z), some (.ref c), none, none, none, none] ∧ H2 = H1 ∧ z ∈ keysE es, ?_, ?_⟩
  · refine ⟨.int z, rfl, .ref c, rfl, c, _, rfl, DGet.k (k := Sum.inl z) ec, _, rfl, ?_⟩
    by_cases c1 : z ∈ keysE es
    · obtain ⟨e, he, ee⟩ := List.mem_map.mp c1
      obtain ⟨ie, hie⟩ := List.mem_iff_getElem?.mp he
      obtain ⟨v, hv, _⟩ := ll.get' hie
      have hval := kvE_some cm.nd hie hv
      rw [ee] at hval
      rw [hval]
      exact iteF ⟨rfl, rfl, c1⟩
    · rw [kvE_none c1]
      exact iteT (q H1 .non s1 (.inl ⟨rfl, fun m d => c1 ((all z).mpr ⟨m, d⟩)⟩))
  rintro σ' H2 ⟨rfl, eH, zin⟩
  subst eH
  obtain ⟨L, dL⟩ := (all z).mp zin
  refine ⟨fun σ' H3 => ∃ l, σ' = [some (.int (n : Int)), some (.ref a), some (.int o), some (.int z), some (.ref c), some (.ref l), none, none, none] ∧ Same H2 H3 ∧ H2 l = none ∧ H3 l = some (.lst []), ?_, ?_⟩
  · refine ⟨szN 0 rfl, fun l n_l => ?_⟩
    generalize e_l : upd H2 l _ = H3
    have s3 := new_same e_l n_l
    have z3 := new_at e_l
    clear e_l
    exact ⟨l, rfl, s3, n_l, z3⟩
  rintro σ' H3 ⟨l, rfl, s3, nl, el⟩
  have nl0 : H' l = none := by
    cases e : H' l with
    | none => rfl
    | some u => rw [s1 _ _ e] at nl; cases nl
  refine ⟨fun σ' H4 => σ' = [some (.int (n : Int)), some (.ref a), some (.int o), some (.int z), some (.ref c), some (.ref l), some (.int z), none, none] ∧ H4 = H3, ?_, ?_⟩
  · exact ⟨.int z, rfl, rfl, rfl⟩
  rintro σ' H4 ⟨rfl, eH⟩
  subst eH
  -- back from there
  refine ⟨fun σ' H5 => ∃ (y7 y8 : Option V) (ys : List V) (sts : List Pr), σ' = [some (.int (n : Int)), some (.ref a), some (.int o), some (.int z), some (.ref c), some (.ref l), some (.int o), y7, y8] ∧ Same H2 H5 ∧ H5 l = some (.lst ys) ∧ PL H5 ys sts ∧ leadsF ss o sts.reverse = some z ∧ sts.length = L, ?_, ?_⟩
  · refine ⟨fun m σ H5 => ∃ (p : Int) (y7 y8 : Option V) (ys : List V) (sts : List Pr), σ = [some (.int (n : Int)), some (.ref a), some (.int o), some (.int z), some (.ref c), some (.ref l), some (.int p), y7, y8] ∧ Same H2 H5 ∧ H5 l = some (.lst ys) ∧ PL H5 ys sts ∧ leadsF ss p sts.reverse = some z ∧ Dist (AdjS ss) o p m ∧ sts.length + m = L,
      ⟨L, z, none, none, [], [], rfl, s3, el, .nil, rfl, dL, by simp⟩, ?_⟩
    rintro m σ H5 ⟨p, y7, y8, ys, sts, rfl, s5, el, pl, ld, dp, lm⟩
    refine ⟨.int p, rfl, .int o, rfl, rfl, _, rfl, ?_⟩
    have lL : L < n := dist_len (fun q m d => cm.in_ gd o0 o1 q ((all q).mpr ⟨m, d⟩)) dL
    by_cases c1 : p = o
    · have m0 : m = 0 := by rw [c1] at dp; exact dist_uniq dp dist_self
      rw [show (!decide (V.int p = V.int o)) = false by rw [decide_eq_true (congrArg V.int c1)]; rfl]
      refine iteF ?_
      rw [c1] at ld ⊢
      exact ⟨y7, y8, ys, sts, rfl, s5, el, pl, ld, by omega⟩
    · rw [show (!decide (V.int p = V.int o)) = true by rw [decide_eq_false fun e => c1 (V.int.inj e)]; rfl]
      refine iteT ?_
      obtain ⟨e, he, ee⟩ := List.mem_map.mp ((all p).mpr ⟨m, dp⟩)
      obtain ⟨ie, hie⟩ := List.mem_iff_getElem?.mp he
      obtain ⟨v, hv, ev⟩ := ll.get' hie
      have hval := kvE_some cm.nd hie hv
      rw [ee] at hval
      have ec5 := s5 _ _ ec
      rcases cm.fr e he with ⟨_, z⟩ | ⟨p', k, u, m', efr, hs, hq, dp', dq⟩
      · rw [ee] at z; exact absurd z c1
      unfold EntAt at ev
      rw [efr] at ev
      obtain ⟨t, rfl, ht⟩ := ev
      rw [ee] at hq dq
      have em : m = m' + 1 := dist_uniq dp dq
      subst em
      refine ⟨fun σ' H' => ∃ (p : Int) (y7 y8 : Option V) (ys : List V) (sts : List Pr), σ' = [some (.int (n : Int)), some (.ref a), some (.int o), some (.int z), some (.ref c), some (.ref l), some (.int p), y7, y8] ∧ Same H2 H' ∧ H' l = some (.lst ys) ∧ PL H' ys sts ∧ leadsF ss p sts.reverse = some z ∧ Dist (AdjS ss) o p m' ∧ sts.length + m' = L, fun σ' H' hN => ⟨m', by omega, hN⟩, ?_⟩
      refine ⟨.ref c, rfl, .int p, rfl, c, .ref t, rfl, hval ▸ DGet.k (k := Sum.inl p) ec5, ?_⟩
      refine ⟨t, _, rfl, .inl (.inl (s5 _ _ ht)), rfl, _, _, rfl, _, _, rfl, rfl, ?_⟩
      refine ⟨.ref l, rfl, .inl ⟨rfl, _, .inl (.inl el)⟩, .int (k : Int), rfl, .int p, rfl, ?_⟩
      refine ⟨szN 2 rfl, fun t2 n_t2 => ?_⟩
      generalize e_t2 : upd H5 t2 _ = H6
      have s6 := new_same e_t2 n_t2
      have z6 := new_at e_t2
      clear e_t2
      refine ⟨l, _, _, rfl, rfl, s6 _ _ el, ?_, ?_⟩
      · rw [pl.len]
        exact Nat.lt_of_le_of_lt (show sts.length ≤ 1000 by omega) (by decide)
      refine ⟨.int p', rfl, p', _, _, _, sts ++ [((k : Int), p)], rfl, ?_, upd_same, ?_, ?_, dp', by rw [List.length_append]; show sts.length + 1 + m' = L; omega⟩
      · exact same_over (s5.trans s6) nl
      · have ts : TS H5 (upd H6 l (.lst (ys ++ [.ref t2]))) := fun b xs e => by
          have h1 : b ≠ l := fun y => by rw [y, el] at e; cases e
          rw [upd_ne h1]; exact s6 _ _ e
        have h2 : t2 ≠ l := fun y => by rw [y, el] at n_t2; cases n_t2
        exact (PL.ts ts pl).snoc (by rw [upd_ne h2]; exact z6)
      · rw [List.reverse_append]
        exact leads_cons hs hq ld
  rintro σ' H5 ⟨y7, y8, ys, sts, rfl, s5, el, pl, ld, lL⟩
  refine ⟨fun σ' H6 => σ' = [some (.int (n : Int)), some (.ref a), some (.int o), some (.int z), some (.ref c), some (.ref l), some (.int o), y7, y8] ∧ Same H2 H6 ∧ H6 l = some (.lst ys.reverse) ∧ PL H6 ys.reverse sts.reverse, ?_, ?_⟩
  · refine ⟨.ref l, rfl, .inl ⟨rfl, _, .inl (.inl el)⟩, l, ys, rfl, rfl, el, ?_⟩
    refine ⟨rfl, same_over s5 nl, upd_same, ?_⟩
    have ts : TS H5 (upd H5 l (.lst ys.reverse)) := fun b xs e => by
      have h1 : b ≠ l := fun y => by rw [y, el] at e; cases e
      rw [upd_ne h1]; exact e
    exact pl_rev (PL.ts ts pl)
  rintro σ' H6 ⟨rfl, s6, el6, pl6⟩
  have lL2 : L < n := dist_len (fun q m d => cm.in_ gd o0 o1 q ((all q).mpr ⟨m, d⟩)) dL
  exact ⟨.ref l, rfl, q H6 _ (s1.trans s6) (.inr ⟨l, _, _, rfl, nl0, el6, pl6, ld, by rw [List.length_reverse, lL]; exact dL, by rw [List.length_reverse]; omega⟩)⟩

end
end Rep
namespace Rep
open PySem L2
/-- sizes of digits -/
def Dg (z : Int) : Prop := 0 < z ∧ z.natAbs.log2 < 9000
theorem dg0 : ∀ y ∈ ([] : List Int), 0 < y ∧ y.natAbs.log2 < 9000 := fun y h => by cases h
theorem dgc {z : Int} {zs : List Int} (h : Dg z) (t : ∀ y ∈ zs, 0 < y ∧ y.natAbs.log2 < 9000) : ∀ y ∈ z :: zs, 0 < y ∧ y.natAbs.log2 < 9000 := fun y hy => by
  rcases List.mem_cons.mp hy with rfl | hy
  · exact h
  · exact t y hy
theorem dgT : Dg ((10 : Int) ^ (40 : Int).toNat) := ⟨by decide +kernel, by decide +kernel⟩
theorem dgS {z : Int} (h0 : 0 < z) (h1 : z ≤ 1000000) : Dg z := by
  refine ⟨h0, ?_⟩
  have h2 : z.natAbs < 2 ^ 20 := by omega
  have := (Nat.log2_lt (show z.natAbs ≠ 0 by omega)).mpr h2
  omega
theorem pT : 0 < (10 : Int) ^ (40 : Int).toNat := by decide +kernel
end Rep
namespace Rep
open PySem L2
/-- the dict of what is reached, and how far -/
def FarAt (H : Hp) (c : Addr) (ss : List Sy) (o : Int) : Prop := ∃ kvs : List (Key × V), H c = some (.dK kvs) ∧ ∀ (q : Int) (m : Nat), Dist (AdjS ss) o q m ↔ valV kvs (Sum.inl q) = some (.int (m : Int))
def spRc (K : PySem.W.Frag) : Sp := fun vs H Q _ => ∃ (a : Addr) (xs : List V) (ss : List Sy) (o : Int) (n : Nat), vs = [.int (n : Int), .ref a, .int o] ∧ SqL K H a xs ∧ SL H xs ss ∧ (∀ s ∈ ss, Good (n : Int) s) ∧ ss.length ≤ 100 ∧ n ≤ 1000 ∧ 0 ≤ o ∧ o < (n : Int) ∧
  ∀ H' c kvs, Same H H' → H c = none → H' c = some (.dK kvs) → (∀ (q : Int) (m : Nat), Dist (AdjS ss) o q m ↔ valV kvs (Sum.inl q) = some (.int (m : Int))) → (∀ q : Int, valV kvs (Sum.inl q) = none ∨ ∃ m, Dist (AdjS ss) o q m) → Q (.ref c) H'
def spFi (K : PySem.W.Frag) : Sp := fun vs H Q _ => ∃ (a1 d : Addr) (ns D : List Int) (kk : Int) (n : Nat), vs = [.ref a1, .int kk, .int (n : Int), .ref d, .int 15] ∧ SqL K H a1 (ns.map V.int) ∧ ns.length ≤ 63 ∧ H d = some (.lst (D.map V.int)) ∧ D.length = n ∧ 1 ≤ n ∧ n ≤ 400 ∧
  ∀ H' l ys ps, Same H H' → H l = none → H' l = some (.lst ys) → PL H' ys ps → (∀ p ∈ ps, (0 ≤ p.1 ∧ p.1 < (n : Int)) ∧ 0 ≤ p.2 ∧ p.2 < (n : Int)) → ps.length ≤ 15 → Q (.ref l) H'
def spWk (K : PySem.W.Frag) : Sp := fun vs H Q _ => ∃ (a l : Addr) (xs ys : List V) (ss : List Sy) (sts : List Pr) (o z : Int), vs = [.ref a, .ref l, .int o, .int z] ∧ SqL K H a xs ∧ SL H xs ss ∧ SqL K H l ys ∧ PL H ys sts ∧ leadsF ss o sts = some z ∧ ∀ H', Same H H' → Q (.bl true) H'
def spLdsX (K : PySem.W.Frag) (NP : Addr) : Sp := fun vs H Q E => ∃ (e x : Int) (a c : Addr) (xs ys : List V) (ss : List Sy) (sts : List Pr), vs = [.int e, .ref a, .int x, .ref c] ∧ SqL K H a xs ∧ SL H xs ss ∧ (∀ s ∈ ss, Good e s) ∧ 0 ≤ e ∧ e < 10 ^ 40 ∧ SqL K H c ys ∧ PL H ys sts ∧
  (0 ≤ x ∧ x < e → ∀ H', Same H H' → Q (oV (leadsF ss x sts)) H') ∧ (¬ (0 ≤ x ∧ x < e) → E (.ref NP) none H)
def spRf (K : PySem.W.Frag) : Sp := fun vs H Q _ => ∃ (a : Addr) (xs : List V) (ss : List Sy) (o z : Int) (n : Nat), vs = [.int (n : Int), .ref a, .int o, .int z] ∧ SqL K H a xs ∧ SL H xs ss ∧ (∀ s ∈ ss, Good (n : Int) s) ∧ ss.length ≤ 100 ∧ n ≤ 1000 ∧ ¬ (0 ≤ o ∧ o < (n : Int) ∧ 0 ≤ z ∧ z < (n : Int)) ∧ ∀ H', Same H H' → Q (.bl true) H'
end Rep
namespace Rep
open PySem L2
abbrev nRc : List Str := ["_law_length", "_law_sayings_here", "_law_start", "_law_near", "_law_one", "_law_other", "_law_far", "_law_row", "_law_at", "_law_to", "_law_place"]
theorem scRc : FnScope nRc ["_law_length", "_law_sayings_here", "_law_start"] (defScope s_law_reach) := ⟨rfl, rfl, rfl, by decide +kernel, rfl, by decide +kernel, by decide +kernel⟩
structure TRc (Pg : Program) (w : World) (K : PySem.W.Frag) (mg : Str → Option Value) (base : Heap) (fP : Addr) (fdP : FuncData) : Prop where
  gP : FnOk Pg w K mg base CX0 7 fP fdP ["_law_sayings_here"] (spParts K)
  bP : Binds K fdP ["_law_sayings_here"] []
  kP : PySem.W.keepIn K (.ref fP) = true
  mP : mg "_law_partners" = some (.ref fP)
  mR : mg "range" = none
  ml : mg "len" = none
section
variable {Pg : Program} {w : World} {K : PySem.W.Frag} {mg : Str → Option Value} {base : Heap}
theorem ok_rc {f fP : Addr} {fd fdP : FuncData} (F : Fun K "_law_reach" "_law_reach" s_law_reach f fd) (T : TRc Pg w K mg base fP fdP) : FnOk Pg w K mg base CX0 8 f fd ["_law_length", "_law_sayings_here", "_law_start"] (spRc K) := by
  refine F.ok scRc (fun vs H Q E h => ?_) (fun cdv A outer s H vs Q E hr h => ?_)
  · obtain ⟨a, xs, ss, o, n, rfl, _⟩ := h; rfl
  obtain ⟨a, xs, ss, o, n, rfl, hX, sl, gd, hl, hn, o0, o1, q⟩ := h
  have hu := hu_of hr
  refine ⟨_, (C8.pss_cut (ps_setLc (i := 3) (own := [("_law_place", 10)]) (g := (gName 10)) (tt := tYes) (te := (tLst tNil)) rfl scRc.nd rfl rfl (sw_true rfl rfl rfl (by decide +kernel)) (pi_range1 rfl T.mR (pa_cons (pv 0) pa_nil)) (blkOk_by (N := nRc) (sc := defScope s_law_reach) (by decide +kernel)) (fun _ _ _ _ _ => (pg_name (i := 10) scRc.nd rfl (.inl rfl))) (fun _ _ _ _ _ => pts_nil) (fun _ _ _ _ _ => (pe_lst pa_nil)))
    (C8.pss_cut (ps_for PassesOwn.never rfl (pi_list (pe_call T.gP hr (by rfl) T.mP T.kP T.bP .nil pass0 (pa_cons (pv 1) pa_nil))) (pg_tup rfl (pgs_cons (pg_name (i := 4) scRc.nd rfl (.inl rfl)) (pgs_cons (pg_name (i := 5) scRc.nd rfl (.inl rfl)) pgs_nil)))
      (C8.pss_cut (ps_expr (pe_bm PySem.F.plainAttrs_list PySem.F.slot_list_append PySem.F.type_list_append mt_append (pe_ix ix_list (pv 3) (pv 4) (fun _ _ => rfl)) (pa_cons (pv 5) pa_nil)))
    (pss_one (ps_expr (pe_bm PySem.F.plainAttrs_list PySem.F.slot_list_append PySem.F.type_list_append mt_append (pe_ix ix_list (pv 3) (pv 5) (fun _ _ => rfl)) (pa_cons (pv 4) pa_nil))))))
    (C8.pss_cut (ps_set (i := 6) scRc.nd rfl (.inl rfl) (pe_disp (pps_cons (pv 2) pe_int pps_nil) rfl rfl (by simp) (by decide)))
    (C8.pss_cut (ps_set (i := 7) scRc.nd rfl (.inl rfl) (pe_lst (pa_cons (pv 2) pa_nil)))
    (C8.pss_cut (ps_set (i := 8) scRc.nd rfl (.inl rfl) pe_int)
    (pss_cons (ps_while PassesOwn.never (pt_cmpR op_lt (pv 8) (pe_callB call_len_seq (by rfl) T.ml PySem.boot_len (pa_cons (pv 7) pa_nil)) (nomark _))
      (pss_cons (ps_for PassesOwn.never rfl (pi_list (pe_ix ix_list (pv 3) (pe_ix ix_list (pv 7) (pv 8) (fun _ _ => rfl)) (fun _ _ => rfl))) (pg_name (i := 9) scRc.nd rfl (.inl rfl))
      (pss_one (ps_if (pt_cmp (pc_dnotin hu (pv 9) (pv 6))) (pss_cons (ps_dput hu (pv 6) (pv 9) (pe_op op_add (pe_dget hu (pv 6) (pe_ix ix_list (pv 7) (pv 8) (fun _ _ => rfl)) (fun _ _ => rfl)) pe_int) rfl)
    (pss_one (ps_expr (pe_bm PySem.F.plainAttrs_list PySem.F.slot_list_append PySem.F.type_list_append mt_append (pv 7) (pa_cons (pv 9) pa_nil))))) pss_nil)))
    (pss_one (ps_set (i := 8) scRc.nd rfl (.inl rfl) (pe_op op_add (pv 8) pe_int)))))
    (pss_one (ps_ret (pv 6))))))))), ?_⟩
  -- near
  refine ⟨fun σ' H' => ∃ nA bs, σ' = [some (.int (n : Int)), some (.ref a), some (.int o), some (.ref nA), none, none, none, none, none, none, none] ∧ Same H H' ∧ H nA = none ∧ NearAt H H' nA bs (List.replicate n []), ?_, ?_⟩
  · refine ⟨.int (n : Int), rfl, (n : Int), rfl, by omega, by omega, fun D nD => ?_⟩
    refine lc_range (lo := 0) (n := n) (fun i H3 => Same H H3 ∧ ∃ bs : List Addr, H3 D = some (.lst (bs.map V.ref)) ∧ bs.length = i ∧ bs.Nodup ∧ D ∉ bs ∧ (∀ b ∈ bs, H b = none ∧ H3 b = some (.lst []))) ⟨same_upd nD, [], upd_same, rfl, List.nodup_nil, List.not_mem_nil, fun b hb => by cases hb⟩ (fun i H3 hi hP => ?_) (fun H3 hP => ?_)
    · obtain ⟨sm, bs, eD, hl, nd, na, hb⟩ := hP
      refine ⟨rfl, ?_⟩
      refine tYes_ok ?_
      refine iteT ?_
      refine ⟨(by show 0 ≤ sizeLine; decide), fun l nl => ?_⟩
      have s4 := same_upd (o := .lst []) nl
      have lD : D ≠ l := fun z => by rw [z, nl] at eD; cases eD
      have lb : l ∉ bs := fun z => by rw [(hb l z).2] at nl; cases nl
      refine ⟨bs.map V.ref, s4 _ _ eD, by rw [List.length_map, hl]; exact small1000 (by omega), same_over (sm.trans s4) nD, bs ++ [l], by rw [upd_same, List.map_append]; rfl, by rw [List.length_append, List.length_singleton, hl], ?_, ?_, fun b h => ?_⟩
      · rw [List.nodup_append]
        exact ⟨nd, by simp, fun x hx y hy => by rw [List.mem_singleton.mp hy]; exact fun z => lb (z ▸ hx)⟩
      · rw [List.mem_append, List.mem_singleton]
        rintro (z | z)
        · exact na z
        · exact lD z
      · rcases List.mem_append.mp h with h | h
        · have nbD : b ≠ D := fun z => na (z ▸ h)
          exact ⟨(hb b h).1, by rw [upd_ne nbD]; exact s4 _ _ (hb b h).2⟩
        · rw [List.mem_singleton.mp h]
          exact ⟨Same.free sm nl, by rw [upd_ne lD.symm]; exact upd_same⟩
    · obtain ⟨sm, bs, eD, hl, nd, na, hb⟩ := hP
      refine ⟨D, bs, rfl, sm, nD, eD, by rw [List.length_replicate]; exact hl, nd, na, fun b h => (hb b h).1, fun i b l h1 h2 => ?_⟩
      rw [List.getElem?_replicate] at h2
      split at h2
      · cases h2
        exact (hb b (List.mem_of_getElem? h1)).2
      · cases h2
  rintro σ' H1 ⟨nA, bs, rfl, s1, nnA, na1⟩
  -- the pairs
  refine ⟨fun σ' H' => ∃ N y4 y5, σ' = [some (.int (n : Int)), some (.ref a), some (.int o), some (.ref nA), y4, y5, none, none, none, none, none] ∧ Same H H' ∧ NearAt H H' nA bs N ∧ Mm n (sym (partF ss)) (2 * (partF ss).length) N, ?_, ?_⟩
  · refine ⟨.ref a, rfl, a, xs, ss, rfl, s1.seq hX, SL.ts (TS.of s1) sl, fun s hs => ?_, by omega, fun H2 o2 zs s2 no2 eo2 pl hz => ?_⟩
    · obtain ⟨g1, g2, g3, g4, g5⟩ := gd s hs
      omega
    have hps := part_in gd
    have hlp : (partF ss).length ≤ 1000000 := by rw [← pl.len]; have : 1000 * ss.length ≤ 1000 * 100 := Nat.mul_le_mul_left _ (by omega); omega
    have s12 := s1.trans s2
    have na2 := na1.same s2
    generalize partF ss = ps at pl hps hlp ⊢
    refine ⟨o2, rfl, ⟨_, .inl (.inl eo2)⟩, for_list (xs := zs) (fun i σ H3 => ∃ N y4 y5, σ = [some (.int (n : Int)), some (.ref a), some (.int o), some (.ref nA), y4, y5, none, none, none, none, none] ∧ H3 o2 = some (.lst zs) ∧ TS H2 H3 ∧ Same H H3 ∧ NearAt H H3 nA bs N ∧ Mm n (sym (ps.take i)) (2 * i) N) ⟨_, none, none, rfl, eo2, fun _ _ e => e, s12, na2, Mm.nil n⟩ (fun i σ H3 _ ⟨_, _, _, _, e, _⟩ => .inl (.inl e)) ?_ ?_⟩
    · rintro i v σ H3 hi ⟨N, y4, y5, rfl, eo3, ts, sm, na3, mm⟩
      obtain ⟨t, p, rfl, ht, hp⟩ := pl.get hi
      have hil : i < ps.length := (List.getElem?_eq_some_iff.mp hp).1
      obtain ⟨⟨a1, a2⟩, a3, a4⟩ := hps p (List.mem_of_getElem? hp)
      refine ⟨t, _, rfl, .inl (.inl (ts _ _ ht)), rfl, _, _, rfl, _, _, rfl, rfl, ?_⟩
      obtain ⟨x, hx⟩ : ∃ x : Nat, p.1 = (x : Int) := ⟨p.1.toNat, by omega⟩
      obtain ⟨y, hy⟩ : ∃ y : Nat, p.2 = (y : Int) := ⟨p.2.toNat, by omega⟩
      rw [hx, hy]
      have xl : x < N.length := by rw [mm.len]; omega
      have xb : x < bs.length := by rw [na3.len]; exact xl
      obtain ⟨lx, hlx⟩ : ∃ l, N[x]? = some l := ⟨_, List.getElem?_eq_getElem xl⟩
      obtain ⟨bx, hbx⟩ : ∃ b, bs[x]? = some b := ⟨_, List.getElem?_eq_getElem xb⟩
      have ex := na3.ls x bx lx hbx hlx
      have bl1 := mm.bd x lx hlx
      have ob : ∀ b ∈ bs, o2 ≠ b := fun b hb z => by
        obtain ⟨j, hj⟩ := List.mem_iff_getElem?.mp hb
        have jl : j < (List.replicate n ([] : List Int)).length := by rw [← na1.len]; exact (List.getElem?_eq_some_iff.mp hj).1
        have := na1.ls j b _ hj (List.getElem?_eq_getElem jl)
        rw [← z, no2] at this; cases this
      refine ⟨fun σ' H' => σ' = [some (.int (n : Int)), some (.ref a), some (.int o), some (.ref nA), some (.int (x : Int)), some (.int (y : Int)), none, none, none, none, none] ∧ H' = upd H3 bx (.lst (lx.map V.int ++ [.int (y : Int)])), ?_, ?_⟩
      · refine ⟨.ref nA, rfl, .int (x : Int), rfl, nA, _, _, .ref bx, rfl, rfl, .inl (.inl na3.at_), atI_nat (by rw [List.getElem?_map, hbx]; rfl), .inl ⟨rfl, _, .inl (.inl ex)⟩, .int (y : Int), rfl, bx, _, _, rfl, rfl, ex, ?_, rfl, rfl⟩
        rw [List.length_map]; exact Nat.lt_of_le_of_lt (show lx.length ≤ 2000000 by omega) (by decide)
      rintro σ' H4 ⟨rfl, e4⟩
      have na4 := na3.put hbx hlx (y : Int)
      have mm4 := mm.half hlx (y : Int)
      have sm4 : Same H (upd H3 bx (.lst (lx.map V.int ++ [.int (y : Int)]))) := same_over sm (na3.fr bx (List.mem_of_getElem? hbx))
      have ts4 : TS H2 (upd H3 bx (.lst (lx.map V.int ++ [.int (y : Int)]))) := fun b w e => TS.lst ex _ _ (ts _ _ e)
      have eo4 : upd H3 bx (.lst (lx.map V.int ++ [.int (y : Int)])) o2 = some (.lst zs) := by rw [upd_ne (ob bx (List.mem_of_getElem? hbx))]; exact eo3
      rw [← e4] at na4 sm4 ts4 eo4
      clear e4
      generalize N.set x (lx ++ [(y : Int)]) = N4 at *
      have yl : y < N4.length := by rw [mm4.len]; omega
      have yb : y < bs.length := by rw [na4.len]; exact yl
      obtain ⟨ly, hly⟩ : ∃ l, N4[y]? = some l := ⟨_, List.getElem?_eq_getElem yl⟩
      obtain ⟨by', hby⟩ : ∃ b, bs[y]? = some b := ⟨_, List.getElem?_eq_getElem yb⟩
      have ey := na4.ls y by' ly hby hly
      have bl2 := mm4.bd y ly hly
      refine ⟨.ref nA, rfl, .int (y : Int), rfl, nA, _, _, .ref by', rfl, rfl, .inl (.inl na4.at_), atI_nat (by rw [List.getElem?_map, hby]; rfl), .inl ⟨rfl, _, .inl (.inl ey)⟩, .int (x : Int), rfl, by', _, _, rfl, rfl, ey, ?_, ?_⟩
      · rw [List.length_map]; exact Nat.lt_of_le_of_lt (show ly.length ≤ 2000001 by omega) (by decide)
      refine ⟨_, _, _, rfl, by rw [upd_ne (ob by' (List.mem_of_getElem? hby))]; exact eo4, fun b w e => TS.lst ey _ _ (ts4 _ _ e), same_over sm4 (na4.fr by' (List.mem_of_getElem? hby)), na4.put hby hly (x : Int), (mm4.half hly (x : Int)).imp (fun u v => ?_) (by omega)⟩
      have ep : p = ((x : Int), (y : Int)) := by rw [← hx, ← hy]
      rw [List.take_add_one, hp]
      show ((sym (ps.take i) u v ∨ (u = (x : Int) ∧ v = (y : Int))) ∨ (u = (y : Int) ∧ v = (x : Int))) ↔ ((u, v) ∈ ps.take i ++ [p] ∨ (v, u) ∈ ps.take i ++ [p])
      rw [List.mem_append, List.mem_append, List.mem_singleton, List.mem_singleton, ep, Prod.mk.injEq, Prod.mk.injEq]
      constructor
      · rintro ((( z | z) | z) | z)
        · exact .inl (.inl z)
        · exact .inr (.inl z)
        · exact .inl (.inr z)
        · exact .inr (.inr ⟨z.2, z.1⟩)
      · rintro ((z | z) | (z | z))
        · exact .inl (.inl (.inl z))
        · exact .inl (.inr z)
        · exact .inl (.inl (.inr z))
        · exact .inr ⟨z.2, z.1⟩
    · rintro σ H3 ⟨N, y4, y5, rfl, _, _, sm, na3, mm⟩
      rw [pl.len, List.take_length] at mm
      exact ⟨N, y4, y5, rfl, sm, na3, mm⟩
  rintro σ' H3 ⟨N, y4, y5, rfl, s3, na3, mm⟩
  clear s1 na1 nnA
  -- far
  refine ⟨fun σ' H' => ∃ c, σ' = [some (.int (n : Int)), some (.ref a), some (.int o), some (.ref nA), y4, y5, some (.ref c), none, none, none, none] ∧ Same H3 H' ∧ H3 c = none ∧ H' c = some (.dK (kvR [o] [0])), ?_, ?_⟩
  · intro c nc
    refine ⟨.int o, rfl, ?_⟩
    refine ⟨upd_same, [(Sum.inl o, .int 0)], rfl, by show 1 ≤ 15; decide, ?_⟩
    exact ⟨c, rfl, same_over (same_upd nc) nc, nc, upd_same⟩
  rintro σ' H4 ⟨c, rfl, s4, nc, ec⟩
  refine ⟨fun σ' H' => ∃ rA, σ' = [some (.int (n : Int)), some (.ref a), some (.int o), some (.ref nA), y4, y5, some (.ref c), some (.ref rA), none, none, none] ∧ Same H4 H' ∧ H4 rA = none ∧ H' rA = some (.lst ([o].map V.int)), ?_, ?_⟩
  · refine ⟨.int o, rfl, ?_⟩
    refine ⟨szN 1 rfl, fun rA n_rA => ?_⟩
    generalize e_rA : upd H4 rA _ = H5
    have s5 := new_same e_rA n_rA
    have z5 := new_at e_rA
    clear e_rA
    exact ⟨rA, rfl, s5, n_rA, z5⟩
  rintro σ' H5 ⟨rA, rfl, s5, nr, er⟩
  refine ⟨fun σ' H' => σ' = [some (.int (n : Int)), some (.ref a), some (.int o), some (.ref nA), y4, y5, some (.ref c), some (.ref rA), some (.int 0), none, none] ∧ H' = H5, ?_, ?_⟩
  · exact ⟨rfl, rfl⟩
  rintro σ' H6 ⟨rfl, eH⟩
  subst eH
  have cr : c ≠ rA := fun z => by rw [← z, ec] at nr; cases nr
  have fresh : ∀ (G : Hp) (b : Addr), Same H3 G → G b = none → b ≠ nA ∧ b ∉ bs ∧ H b = none := fun G b sm nb => by
    have n3 : H3 b = none := Same.free sm nb
    refine ⟨(fun z => by rw [z, na3.at_] at n3; cases n3), fun z => ?_, Same.free s3 n3⟩
    obtain ⟨j, hj⟩ := List.mem_iff_getElem?.mp z
    have jl : j < N.length := by rw [← na3.len]; exact (List.getElem?_eq_some_iff.mp hj).1
    rw [na3.ls j b _ hj (List.getElem?_eq_getElem jl)] at n3
    cases n3
  obtain ⟨c1, c2, c3⟩ := fresh H3 c (Same.refl _) nc
  obtain ⟨r1, r2, r3⟩ := fresh H4 rA s4 nr
  have adj : ∀ (x : Nat) (l : List Int), N[x]? = some l → ∀ y, y ∈ l ↔ AdjS ss (x : Int) y := fun x l h y => by rw [mm.mem x l h y, adj_sym]
  let Rd : Hp → List Int → List Nat → Prop := fun H' rs ds => Same H H' ∧ NearAt H H' nA bs N ∧ H' c = some (.dK (kvR rs ds)) ∧ H' rA = some (.lst (rs.map V.int))
  have rd0 : Rd H6 [o] [0] := ⟨s3.trans (s4.trans s5), na3.same (s4.trans s5), s5 _ _ ec, er⟩
  refine ⟨fun m σ H' => ∃ (at_ : Nat) (rs : List Int) (ds : List Nat) (y9 : Option V), σ = [some (.int (n : Int)), some (.ref a), some (.int o), some (.ref nA), y4, y5, some (.ref c), some (.ref rA), some (.int (at_ : Int)), y9, none] ∧ Rd H' rs ds ∧ Far ss o at_ rs ds ∧ at_ ≤ rs.length ∧ m = n - at_,
    ⟨n, 0, [o], [0], none, rfl, rd0, Far.start ss o, Nat.zero_le _, rfl⟩, ?_⟩
  rintro m σ H7 ⟨at_, rs, ds, y9, rfl, rd, fa, hat, rfl⟩
  obtain ⟨k1, k2, k3, k4⟩ := id rd
  have few := fa.few gd o0 o1
  refine ⟨.int (at_ : Int), rfl, .ref rA, rfl, rA, _, rfl, .inl (.inl (.inl k4)), _, _, rfl, rfl, _, rfl, ?_⟩
  by_cases ca : at_ < rs.length
  · rw [decide_eq_true (show (at_ : Int) < ((rs.map V.int).length : Int) by rw [List.length_map]; omega)]
    refine iteT ?_
    obtain ⟨x, hx⟩ : ∃ x, rs[at_]? = some x := ⟨_, List.getElem?_eq_getElem ca⟩
    obtain ⟨d, hd⟩ := fa.get hx
    obtain ⟨x0, x1⟩ := fa.in_ gd o0 o1 (List.mem_of_getElem? hx)
    obtain ⟨u, rfl⟩ : ∃ u : Nat, x = (u : Int) := ⟨x.toNat, by omega⟩
    have ul : u < N.length := by rw [mm.len]; omega
    have ub : u < bs.length := by rw [k2.len]; exact ul
    obtain ⟨l, hl_⟩ : ∃ l, N[u]? = some l := ⟨_, List.getElem?_eq_getElem ul⟩
    obtain ⟨b, hb⟩ : ∃ b, bs[u]? = some b := ⟨_, List.getElem?_eq_getElem ub⟩
    have hbm := List.mem_of_getElem? hb
    have bc : b ≠ c := fun z => c2 (z ▸ hbm)
    have br : b ≠ rA := fun z => r2 (z ▸ hbm)
    refine ⟨fun σ' H' => ∃ (rs : List Int) (ds : List Nat) (y9 : Option V), σ' = [some (.int (n : Int)), some (.ref a), some (.int o), some (.ref nA), y4, y5, some (.ref c), some (.ref rA), some (.int ((at_ + 1 : Nat) : Int)), y9, none] ∧ Rd H' rs ds ∧ Far ss o (at_ + 1) rs ds ∧ at_ + 1 ≤ rs.length, (fun σ' H' ⟨rs, ds, y9, e1, e2, e3, e4⟩ => ⟨n - (at_ + 1), by omega, at_ + 1, rs, ds, y9, e1, e2, e3, e4, rfl⟩), ?_⟩
    refine ⟨.ref nA, rfl, .ref rA, rfl, .int (at_ : Int), rfl, rA, _, _, .int (u : Int), rfl, rfl, .inl (.inl k4), at_int hx, nA, _, _, .ref b, rfl, rfl, .inl (.inl k2.at_), atI_nat (by rw [List.getElem?_map, hb]; rfl), b, rfl, ⟨_, .inl (.inl (k2.ls u b l hb hl_))⟩, for_list (xs := l.map V.int) (fun t σ' H' => ∃ (rs : List Int) (ds : List Nat) (y9 : Option V), σ' = [some (.int (n : Int)), some (.ref a), some (.int o), some (.ref nA), y4, y5, some (.ref c), some (.ref rA), some (.int (at_ : Int)), y9, none] ∧ Rd H' rs ds ∧ Far ss o at_ rs ds ∧ rs[at_]? = some (u : Int) ∧ ds[at_]? = some d ∧ (∀ t', t' < t → ∀ q, l[t']? = some q → q ∈ rs)) ⟨rs, ds, y9, rfl, rd, fa, hx, hd, fun t' ht => absurd ht (Nat.not_lt_zero _)⟩ (fun t σ' H' _ hP => ?_) (fun t v σ' H8 hv hP => ?_) (fun σ' H8 hP => ?_)⟩
    · obtain ⟨_, _, _, _, rd, _⟩ := hP
      exact .inl (.inl (rd.2.1.ls u b l hb hl_))
    · clear k1 k2 k3 k4 rd fa hx hd few hat ca
      obtain ⟨rs, ds, y9, rfl, rd, fa, hx, hd, all⟩ := hP
      obtain ⟨k1, k2, k3, k4⟩ := id rd
      have few := fa.few gd o0 o1
      rw [List.getElem?_map] at hv
      obtain ⟨to, hto, rfl⟩ := Option.map_eq_some_iff.mp hv
      have hadj := (adj u l hl_ to).mp (List.mem_of_getElem? hto)
      have ex : ∀ rs' : List Int, (∀ q ∈ rs, q ∈ rs') → to ∈ rs' → ∀ t', t' < t + 1 → ∀ q, l[t']? = some q → q ∈ rs' := fun rs' sub h t' ht q hq => by
        by_cases ct : t' < t
        · exact sub q (all t' ct q hq)
        · have e : t' = t := by omega
          subst e; rw [hto] at hq; cases hq; exact h
      refine ⟨.int to, rfl, .ref c, rfl, c, _, rfl, DGet.k (k := Sum.inl to) k3, _, rfl, ?_⟩
      by_cases cin : to ∈ rs
      · obtain ⟨j, hj⟩ := List.mem_iff_getElem?.mp cin
        obtain ⟨dj, hdj⟩ := fa.get hj
        rw [kvR_some fa.nd hj hdj]
        refine iteF ?_
        exact ⟨rs, ds, _, rfl, rd, fa, hx, hd, ex rs (fun _ h => h) cin⟩
      · rw [kvR_none cin]
        refine iteT ?_
        have hsz : (kvR rs ds).length < sizeLine := Nat.lt_of_le_of_lt (Nat.le_trans (kvR_len rs ds) (show rs.length ≤ 1000 by omega)) (by decide)
        have hval := kvR_some fa.nd hx hd
        refine ⟨.ref c, rfl, .ref rA, rfl, .int (at_ : Int), rfl, rA, _, _, .int (u : Int), rfl, rfl, .inl (.inl k4), at_int hx, c, .int (d : Int), rfl, hval ▸ DGet.k (k := Sum.inl (u : Int)) k3, _, 1, rfl, rfl, ?_⟩
        refine ⟨.ref c, rfl, .int to, rfl, c, _, rfl, DPut.k (k := Sum.inl to) k3 hsz, ?_⟩
        have e1 : upd H8 c (.dK (putK (kvR rs ds) (Sum.inl to) (.int ((d : Int) + 1)))) rA = some (.lst (rs.map V.int)) := by rw [upd_ne (Ne.symm cr)]; exact k4
        refine ⟨.ref rA, rfl, .inl ⟨rfl, _, .inl (.inl e1)⟩, .int to, rfl, rA, _, _, rfl, rfl, e1, ?_, ?_⟩
        · rw [List.length_map]
          exact Nat.lt_of_le_of_lt (show rs.length ≤ 1000 by omega) (by decide)
        · refine ⟨rs ++ [to], ds ++ [d + 1], _, rfl, ⟨same_over (same_over k1 c3) r3, (k2.over c1 c2).over r1 r2, ?_, ?_⟩, fa.put hx hd hadj cin, get_snoc hx, get_snoc hd, ex _ (fun _ h => List.mem_append_left _ h) (List.mem_append_right _ List.mem_cons_self)⟩
          · rw [upd_ne cr, upd_same, kvR_put fa.len cin]
            rfl
          · rw [upd_same, List.map_append]; rfl
    · obtain ⟨rs, ds, y9, rfl, rd, fa, hx, hd, all⟩ := hP
      rw [List.length_map] at all
      have ca := (List.getElem?_eq_some_iff.mp hx).1
      have few := fa.few gd o0 o1
      refine ⟨.int (at_ : Int), rfl, _, 1, rfl, rfl, ?_⟩
      refine ⟨rs, ds, _, rfl, rd, fa.next hx fun q hq => ?_, by omega⟩
      obtain ⟨t', ht'⟩ := List.mem_iff_getElem?.mp ((adj u l hl_ q).mpr hq)
      exact all t' (List.getElem?_eq_some_iff.mp ht').1 q ht'
  · rw [decide_eq_false (show ¬ (at_ : Int) < ((rs.map V.int).length : Int) by rw [List.length_map]; omega)]
    refine iteF ?_
    have e : at_ = rs.length := by omega
    have key : ∀ (q : Int) (m : Nat), Dist (AdjS ss) o q m ↔ valV (kvR rs ds) (Sum.inl q) = some (.int (m : Int)) := fun q m => by
      rw [fa.done e q m]
      constructor
      · rintro ⟨j, h1, h2⟩
        exact kvR_some fa.nd h1 h2
      · intro h
        by_cases cin : q ∈ rs
        · obtain ⟨j, hj⟩ := List.mem_iff_getElem?.mp cin
          obtain ⟨dj, hdj⟩ := fa.get hj
          rw [kvR_some fa.nd hj hdj] at h
          have : dj = m := by have := V.int.inj (Option.some.inj h); omega
          exact ⟨j, hj, this ▸ hdj⟩
        · rw [kvR_none cin] at h; cases h
    refine ⟨.ref c, rfl, q H7 c _ k1 c3 k3 key fun q => ?_⟩
    by_cases cin : q ∈ rs
    · obtain ⟨j, hj⟩ := List.mem_iff_getElem?.mp cin
      obtain ⟨dj, hdj⟩ := fa.get hj
      exact .inr ⟨dj, (key q dj).mpr (kvR_some fa.nd hj hdj)⟩
    · exact .inl (kvR_none cin)

end
end Rep
namespace Rep
open PySem L2
abbrev nFi : List Str := ["_law_script", "_law_k", "_law_length", "_law_heads_here", "_law_many", "_law_found", "_law_turn", "_law_one", "_law_other", "_law_way", "_law_kin_here", "_law_place"]
theorem scFi : FnScope nFi ["_law_script", "_law_k", "_law_length", "_law_heads_here", "_law_many"] (defScope s_law_alike_pairs) := ⟨rfl, rfl, rfl, by decide +kernel, rfl, by decide +kernel, by decide +kernel⟩
structure TFi (Pg : Program) (w : World) (K : PySem.W.Frag) (mg : Str → Option Value) (base : Heap) (fD : Addr) (fdD : FuncData) : Prop where
  gD : FnOk Pg w K mg base CX0 6 fD fdD ["_law_script", "_law_k", "_law_sizes"] (spDig K)
  bD : Binds K fdD ["_law_script", "_law_k", "_law_sizes"] []
  kD : PySem.W.keepIn K (.ref fD) = true
  mD : mg "_law_digits" = some (.ref fD)
  mR : mg "range" = none
  ml : mg "len" = none
section
variable {Pg : Program} {w : World} {K : PySem.W.Frag} {mg : Str → Option Value} {base : Heap}
theorem ok_fi {f fD : Addr} {fd fdD : FuncData} (F : Fun K "_law_alike_pairs" "_law_alike_pairs" s_law_alike_pairs f fd) (T : TFi Pg w K mg base fD fdD) : FnOk Pg w K mg base CX0 7 f fd ["_law_script", "_law_k", "_law_length", "_law_heads_here", "_law_many"] (spFi K) := by
  refine F.ok scFi (fun vs H Q E h => ?_) (fun cdv A outer s H vs Q E hr h => ?_)
  · obtain ⟨a1, d, ns, D, kk, n, rfl, _⟩ := h; rfl
  obtain ⟨a1, d, ns, D, kk, n, rfl, hS, h63, ed, hD, hn1, hn, q⟩ := h
  refine ⟨_, (C8.pss_cut (ps_set (i := 5) scFi.nd rfl (.inl rfl) (pe_lst pa_nil))
    (C8.pss_cut (ps_for PassesOwn.never rfl (pi_range1 rfl T.mR (pa_cons (pv 4) pa_nil)) (pg_name (i := 6) scFi.nd rfl (.inl rfl))
      (C8.pss_cut (ps_asg (pe_call T.gD hr (by rfl) T.mD T.kD T.bD .nil pass0 (pa_cons (pv 0) (pa_cons (pe_op op_add (pv 1) (pv 6)) (pa_cons (pe_lst (pa_cons (pv 2) (pa_cons (pv 2) (pa_cons pe_int pa_nil)))) pa_nil)))) (pg_lst rfl (pgs_cons (pg_name (i := 7) scFi.nd rfl (.inr rfl)) (pgs_cons (pg_name (i := 8) scFi.nd rfl (.inl rfl)) (pgs_cons (pg_name (i := 9) scFi.nd rfl (.inl rfl)) pgs_nil)))))
    (C8.pss_cut (ps_setLc (i := 10) (own := [("_law_place", 11)]) (g := (gName 11)) (tt := (tTest (tOp rEq (tOp (rIxL K) (tVar 3) (tVar 11)) (tOp (rIxL K) (tVar 3) (tVar 7))))) (te := (tVar 11)) rfl scFi.nd rfl rfl (sw_true rfl rfl rfl (by decide +kernel)) (pi_range1 rfl T.mR (pa_cons (pv 2) pa_nil)) (blkOk_by (N := nFi) (sc := defScope s_law_alike_pairs) (by decide +kernel)) (fun _ _ _ _ _ => (pg_name (i := 11) scFi.nd rfl (.inl rfl))) (fun _ _ _ _ _ => (pts_one (pt_cmpR op_eq (pe_ix ix_list (pv 3) (pv 11) (fun _ _ => rfl)) (pe_ix ix_list (pv 3) (pv 7) (fun _ _ => rfl)) (nomark _)))) (fun _ _ _ _ _ => (pv 11)))
    (C8.pss_cut (ps_if (pt_cmpR op_eq (pv 9) pe_int (nomark _)) (pss_one (ps_set (i := 8) scFi.nd rfl (.inl rfl) (pe_ix ix_list (pv 10) (pe_op op_mod (pv 8) (pe_callB call_len_seq (by rfl) T.ml PySem.boot_len (pa_cons (pv 10) pa_nil))) (fun _ _ => rfl)))) pss_nil)
    (pss_one (ps_expr (pe_bm PySem.F.plainAttrs_list PySem.F.slot_list_append PySem.F.type_list_append mt_append (pv 5) (pa_cons (pe_tup (pa_cons (pv 7) (pa_cons (pv 8) pa_nil))) pa_nil))))))))
    (pss_one (ps_ret (pv 5))))), ?_⟩
  refine ⟨fun σ' H' => ∃ l, σ' = [some (.ref a1), some (.int kk), some (.int (n : Int)), some (.ref d), some (.int 15), some (.ref l), none, none, none, none, none, none] ∧ Same H H' ∧ H l = none ∧ H' l = some (.lst []), ?_, ?_⟩
  · refine ⟨szN 0 rfl, fun l n_l => ?_⟩
    generalize e_l : upd H l _ = H1
    have s1 := new_same e_l n_l
    have z1 := new_at e_l
    clear e_l
    exact ⟨l, rfl, s1, n_l, z1⟩
  rintro σ' H1 ⟨l, rfl, s1, nl, el⟩
  refine ⟨fun σ' H' => ∃ (y6 y7 y8 y9 y10 : Option V) (ys : List V) (ps : List Pr), σ' = [some (.ref a1), some (.int kk), some (.int (n : Int)), some (.ref d), some (.int 15), some (.ref l), y6, y7, y8, y9, y10, none] ∧ Same H H' ∧ H' l = some (.lst ys) ∧ PL H' ys ps ∧ (∀ p ∈ ps, (0 ≤ p.1 ∧ p.1 < (n : Int)) ∧ 0 ≤ p.2 ∧ p.2 < (n : Int)) ∧ ps.length ≤ 15, ?_, ?_⟩
  · refine ⟨.int 15, rfl, 15, rfl, by decide, by decide, for_range (lo := 0) (n := 15) (fun j σ' H' => ∃ (y6 y7 y8 y9 y10 : Option V) (ys : List V) (ps : List Pr), σ' = [some (.ref a1), some (.int kk), some (.int (n : Int)), some (.ref d), some (.int 15), some (.ref l), y6, y7, y8, y9, y10, none] ∧ Same H H' ∧ H' l = some (.lst ys) ∧ PL H' ys ps ∧ (∀ p ∈ ps, (0 ≤ p.1 ∧ p.1 < (n : Int)) ∧ 0 ≤ p.2 ∧ p.2 < (n : Int)) ∧ ps.length ≤ j) ⟨_, _, _, _, _, [], [], rfl, s1, el, .nil, (fun p h => by cases h), Nat.zero_le _⟩ (fun j σ' H2 hj hP => ?_) (fun σ' H2 hP => hP)⟩
    obtain ⟨y6, y7, y8, y9, y10, ys, ps, rfl, s2, el2, pl, hp, lp⟩ := hP
    refine ⟨fun σ' H' => ∃ (o z w : Int), σ' = [some (.ref a1), some (.int kk), some (.int (n : Int)), some (.ref d), some (.int 15), some (.ref l), some (.int (0 + (j : Int))), some (.int o), some (.int z), some (.int w), y10, none] ∧ Same H2 H' ∧ 0 ≤ o ∧ o < (n : Int) ∧ 0 ≤ z ∧ z < (n : Int), ?_, ?_⟩
    · refine ⟨.ref a1, rfl, .int kk, rfl, .int (0 + (j : Int)), rfl, _, _, rfl, rfl, .int (n : Int), rfl, .int (n : Int), rfl, ?_⟩
      refine ⟨szN 3 rfl, fun l1 n_l1 => ?_⟩
      generalize e_l1 : upd H2 l1 _ = H3
      have s3 := new_same e_l1 n_l1
      have z3 := new_at e_l1
      clear e_l1
      refine ⟨a1, l1, ns, [(n : Int), (n : Int), 3], kk + (0 + (j : Int)), rfl, (s2.trans s3).seq hS, h63, .inl (.inl z3), by show 3 ≤ 1000; decide, dgc (dgS (by omega) (by omega)) (dgc (dgS (by omega) (by omega)) (dgc ⟨by decide, by decide⟩ dg0)), fun H4 pd s4 np ep => ?_⟩
      generalize rawF ns (kk + (0 + (j : Int))) = ra at ep
      have ep : H4 pd = some (.lst [.int (ra % (n : Int)), .int (ra / (n : Int) % (n : Int)), .int (ra / (n : Int) / (n : Int) % 3)]) := ep
      exact ⟨pd, _, rfl, .inl (.inl ep), rfl, _, _, rfl, _, _, rfl, _, _, rfl, rfl, _, _, _, rfl, s3.trans s4, Int.emod_nonneg _ (by omega), Int.emod_lt_of_pos _ (by omega), Int.emod_nonneg _ (by omega), Int.emod_lt_of_pos _ (by omega)⟩
    rintro σ' H3 ⟨o, z, w, rfl, s3, o0, o1, z0, z1⟩
    have s23 := s2.trans s3
    have ed3 := s23 _ _ ed
    obtain ⟨u, rfl⟩ : ∃ u : Nat, o = (u : Int) := ⟨o.toNat, by omega⟩
    obtain ⟨fu, hfu⟩ : ∃ f, D[u]? = some f := ⟨_, List.getElem?_eq_getElem (show u < D.length by omega)⟩
    -- those alike
    refine ⟨fun σ' H' => ∃ (kA : Addr) (ks : List Int), σ' = [some (.ref a1), some (.int kk), some (.int (n : Int)), some (.ref d), some (.int 15), some (.ref l), some (.int (0 + (j : Int))), some (.int (u : Int)), some (.int z), some (.int w), some (.ref kA), none] ∧ Same H3 H' ∧ H' kA = some (.lst (ks.map V.int)) ∧ (∀ x ∈ ks, 0 ≤ x ∧ x < (n : Int)) ∧ 0 < ks.length, ?_, ?_⟩
    · refine ⟨.int (n : Int), rfl, (n : Int), rfl, by omega, by omega, fun Dc nD => ?_⟩
      refine lc_range (lo := 0) (n := n) (fun i H4 => Same H3 H4 ∧ ∃ ks : List Int, H4 Dc = some (.lst (ks.map V.int)) ∧ (∀ x ∈ ks, 0 ≤ x ∧ x < (n : Int)) ∧ ks.length ≤ i ∧ (u < i → 0 < ks.length)) ⟨same_upd nD, [], upd_same, (fun x h => by cases h), Nat.zero_le _, fun h => absurd h (Nat.not_lt_zero _)⟩ (fun i H4 hi hP => ?_) (fun H4 hP => ?_)
      · obtain ⟨sm, ks, eD, hk, lk, hu⟩ := hP
        obtain ⟨fi, hfi⟩ : ∃ f, D[i]? = some f := ⟨_, List.getElem?_eq_getElem (show i < D.length by omega)⟩
        refine ⟨rfl, ?_⟩
        refine ⟨.ref d, rfl, .int (0 + (i : Int)), rfl, d, _, _, .int fi, rfl, rfl, .inl (.inl (sm _ _ ed3)), by rw [Int.zero_add]; exact at_int hfi, .ref d, rfl, .int (u : Int), rfl, d, _, _, .int fu, rfl, rfl, .inl (.inl (sm _ _ ed3)), at_int hfu, rfl, _, rfl, ite2 (fun c => ?_) (fun c => ?_)⟩
        · refine ⟨.int (0 + (i : Int)), rfl, _, eD, by rw [List.length_map]; exact small1000 (by omega), same_over sm nD, ks ++ [0 + (i : Int)], by rw [upd_same, List.map_append]; rfl, fun x hx => ?_, by rw [List.length_append]; show ks.length + 1 ≤ i + 1; omega, fun _ => by rw [List.length_append]; show 0 < ks.length + 1; omega⟩
          rcases List.mem_append.mp hx with hx | hx
          · exact hk x hx
          · rw [List.mem_singleton.mp hx]; omega
        · refine ⟨sm, ks, eD, hk, by omega, fun h => hu ?_⟩
          by_cases e : u = i
          · subst e
            rw [hfu] at hfi
            cases hfi
            exact absurd (decide_eq_true rfl) c
          · omega
      · obtain ⟨sm, ks, eD, hk, _, hu⟩ := hP
        exact ⟨Dc, ks, rfl, sm, eD, hk, hu (by omega)⟩
    rintro σ' H4 ⟨kA, ks, rfl, s4, ek, hk, k0⟩
    refine ⟨fun σ' H' => ∃ (z : Int), σ' = [some (.ref a1), some (.int kk), some (.int (n : Int)), some (.ref d), some (.int 15), some (.ref l), some (.int (0 + (j : Int))), some (.int (u : Int)), some (.int z), some (.int w), some (.ref kA), none] ∧ H' = H4 ∧ 0 ≤ z ∧ z < (n : Int), ?_, ?_⟩
    · refine ⟨.int w, rfl, rfl, _, rfl, ite2 (fun c => ?_) (fun c => ?_)⟩
      · have hl : (0 : Int) < ((ks.map V.int).length : Int) := by rw [List.length_map]; omega
        have m0 := Int.emod_nonneg z (show ((ks.map V.int).length : Int) ≠ 0 by omega)
        have m1 := Int.emod_lt_of_pos z hl
        obtain ⟨t, ht⟩ : ∃ t : Nat, z % ((ks.map V.int).length : Int) = (t : Int) := ⟨(z % ((ks.map V.int).length : Int)).toNat, by omega⟩
        rw [List.length_map] at hl m0 m1 ht
        obtain ⟨x, hx⟩ : ∃ x, ks[t]? = some x := ⟨_, List.getElem?_eq_getElem (show t < ks.length by omega)⟩
        obtain ⟨x0, x1⟩ := hk x (List.mem_of_getElem? hx)
        exact ⟨.ref kA, rfl, .int z, rfl, .ref kA, rfl, kA, _, rfl, .inl (.inl (.inl ek)), _, _, rfl, rfl, by rw [List.length_map]; exact hl, kA, _, _, .int x, rfl, rfl, .inl (.inl ek), by rw [List.length_map, ht]; exact at_int hx, x, rfl, rfl, x0, x1⟩
      · exact ⟨z, rfl, rfl, z0, z1⟩
    rintro σ' H5 ⟨z', rfl, eH, z0', z1'⟩
    subst eH
    have s5 := s23.trans s4
    have el5 := s4 _ _ (s3 _ _ el2)
    refine ⟨.ref l, rfl, .inl ⟨rfl, _, .inl (.inl el5)⟩, .int (u : Int), rfl, .int z', rfl, ?_⟩
    refine ⟨szN 2 rfl, fun t n_t => ?_⟩
    generalize e_t : upd H5 t _ = H6
    have s6 := new_same e_t n_t
    have z6 := new_at e_t
    clear e_t
    have el6 := s6 _ _ el5
    refine ⟨l, _, _, rfl, rfl, el6, by rw [pl.len]; exact small1000 (by omega), ?_⟩
    refine ⟨_, _, _, _, _, _, ps ++ [((u : Int), z')], rfl, same_over (s5.trans s6) nl, upd_same, PL.ts (TS.lst el6) ((PL.ts (TS.of (s3.trans (s4.trans s6))) pl).snoc (a := (u : Int)) (b := z') z6), fun p hp' => ?_, by rw [List.length_append]; show ps.length + 1 ≤ j + 1; omega⟩
    rcases List.mem_append.mp hp' with hp' | hp'
    · exact hp p hp'
    · rw [List.mem_singleton.mp hp']; exact ⟨⟨o0, o1⟩, z0', z1'⟩
  rintro σ' H2 ⟨y6, y7, y8, y9, y10, ys, ps, rfl, s2, el2, pl, hp, lp⟩
  exact ⟨.ref l, rfl, q H2 l ys ps s2 nl el2 pl hp lp⟩

end
end Rep
namespace Rep
open PySem L2
abbrev nWk : List Str := ["_law_sayings_here", "_law_steps", "_law_one", "_law_other", "_law_here", "_law_step"]
theorem scWk : FnScope nWk ["_law_sayings_here", "_law_steps", "_law_one", "_law_other"] (defScope s_law_walked) := ⟨rfl, rfl, rfl, by decide +kernel, rfl, by decide +kernel, by decide +kernel⟩
structure TWk (Pg : Program) (w : World) (K : PySem.W.Frag) (mg : Str → Option Value) (base : Heap) (fE fY : Addr) (fdE fdY : FuncData) : Prop where
  gE : FnOk Pg w K mg base CX0 7 fE fdE ["_law_told", "_law_due"] (spSame 7)
  bE : Binds K fdE ["_law_told", "_law_due"] []
  kE : PySem.W.keepIn K (.ref fE) = true
  mE : mg "_law_same" = some (.ref fE)
  gY : FnOk Pg w K mg base CX0 7 fY fdY ["_law_saying_here", "_law_here", "_law_to"] (spLay)
  bY : Binds K fdY ["_law_saying_here", "_law_here", "_law_to"] []
  kY : PySem.W.keepIn K (.ref fY) = true
  mY : mg "_law_lays" = some (.ref fY)
  misinstance : mg "isinstance" = none
  mtuple : mg "tuple" = none
  ml : mg "len" = none
section
variable {Pg : Program} {w : World} {K : PySem.W.Frag} {mg : Str → Option Value} {base : Heap}
theorem ok_wk {f fE fY : Addr} {fd fdE fdY : FuncData} (F : Fun K "_law_walked" "_law_walked" s_law_walked f fd) (T : TWk Pg w K mg base fE fY fdE fdY) : FnOk Pg w K mg base CX0 8 f fd ["_law_sayings_here", "_law_steps", "_law_one", "_law_other"] (spWk K) := by
  refine F.ok scWk (fun vs H Q E h => ?_) (fun cdv A outer s H vs Q E hr h => ?_)
  · obtain ⟨a, l, xs, ys, ss, sts, o, z, rfl, _⟩ := h; rfl
  obtain ⟨a, l, xs, ys, ss, sts, o, z, rfl, hX, sl, hY, pl, ld, q⟩ := h
  have r7 : Room 7 _ := hr.mono (by decide)
  refine ⟨_, (C8.pss_cut (ps_set (i := 4) scWk.nd rfl (.inl rfl) (pv 2))
    (C8.pss_cut (ps_for PassesOwn.never rfl (pi_list (pv 1)) (pg_name (i := 5) scWk.nd rfl (.inl rfl))
      (C8.pss_cut (ps_if (PW.pt (pw_or (pt_not (pt_val (pe_callB call_isi (by rfl) T.misinstance PyProof.Rows.boot_isinstance (pa_cons (pv 5) (pa_cons (pe_bltn (v := .ty "tuple") (by rfl) T.mtuple PyProof.Rows.boot_tuple rfl) pa_nil))))) (pw_or (pt_cmpR op_ne (pe_callB call_len_seq (by rfl) T.ml PySem.boot_len (pa_cons (pv 5) pa_nil)) pe_int (nomark _)) (pw_or1 (pt_not (pt_val (pe_call T.gE r7 (by rfl) T.mE T.kE T.bE .nil pass0 (pa_cons (pv 5) (pa_cons (pe_tup (pa_cons (pe_op op_add (pe_ix ix_tup (pv 5) pe_int (fun _ _ => rfl)) pe_int) (pa_cons (pe_op op_add (pe_ix ix_tup (pv 5) pe_int (fun _ _ => rfl)) pe_int) pa_nil))) pa_nil))))))))) (pss_one (ps_ret pe_bl)) pss_nil)
    (C8.pss_cut (ps_if (PW.pt (pw_or (pt_not (pt_chain op_le op_lt pe_int (pe_ix ix_tup (pv 5) pe_int (fun _ _ => rfl)) (pe_callB call_len_seq (by rfl) T.ml PySem.boot_len (pa_cons (pv 0) pa_nil)))) (pw_or1 (pt_not (pt_val (pe_call T.gY r7 (by rfl) T.mY T.kY T.bY .nil pass0 (pa_cons (pe_ix ix_list (pv 0) (pe_ix ix_tup (pv 5) pe_int (fun _ _ => rfl)) (fun _ _ => rfl)) (pa_cons (pv 4) (pa_cons (pe_ix ix_tup (pv 5) pe_int (fun _ _ => rfl)) pa_nil))))))))) (pss_one (ps_ret pe_bl)) pss_nil)
    (pss_one (ps_set (i := 4) scWk.nd rfl (.inl rfl) (pe_ix ix_tup (pv 5) pe_int (fun _ _ => rfl)))))))
    (pss_one (ps_ret (pe_cmpR op_eq (pv 4) (pv 3) (nomark _)))))), ?_⟩
  refine ⟨fun σ' H' => σ' = [some (.ref a), some (.ref l), some (.int o), some (.int z), some (.int o), none] ∧ H' = H, ?_, ?_⟩
  · exact ⟨.int o, rfl, rfl, rfl⟩
  rintro σ' H1 ⟨rfl, eH⟩
  subst eH
  refine ⟨fun σ' H' => ∃ y5, σ' = [some (.ref a), some (.ref l), some (.int o), some (.int z), some (.int z), y5] ∧ Same H1 H', ?_, ?_⟩
  · refine ⟨.ref l, rfl, l, rfl, ⟨_, hY⟩, for_list (xs := ys) (fun j σ' H' => ∃ (p : Int) (y5 : Option V), σ' = [some (.ref a), some (.ref l), some (.int o), some (.int z), some (.int p), y5] ∧ Same H1 H' ∧ leadsF ss p (sts.drop j) = some z) ⟨o, none, rfl, Same.refl _, ld⟩ (fun j σ' H' _ hP => ?_) (fun j v σ' H3 hv hP => ?_) (fun σ' H3 hP => ?_)⟩
    · obtain ⟨_, _, _, sm, _⟩ := hP
      exact sm.seq hY
    · obtain ⟨p, y5, rfl, s3, el⟩ := hP
      obtain ⟨tp, st, rfl, htp, hst⟩ := pl.get hv
      obtain ⟨hi, est⟩ := List.getElem?_eq_some_iff.mp hst
      have ed : sts.drop j = st :: sts.drop (j + 1) := by rw [List.drop_eq_getElem_cons hi, est]
      rw [ed] at el
      have es : leadsF ss p (st :: sts.drop (j + 1)) = if 0 ≤ st.1 ∧ ∃ s, ss[st.1.toNat]? = some s ∧ st.2 ∈ besF s p then leadsF ss st.2 (sts.drop (j + 1)) else none := rfl
      rw [es] at el
      split at el
      · rename_i c
        obtain ⟨c0, s, hs, hb⟩ := c
        replace htp := s3 _ _ htp
        have dt := DT.pair (n := 5) htp
        have ti := dt.ty (K := K)
        have cl := (List.getElem?_eq_some_iff.mp hs).1
        have c1 : st.1 < ((xs.length : Nat) : Int) := by rw [sl.len]; omega
        obtain ⟨sv, gsv, isv⟩ := sl.get' hs
        refine ⟨fun σ' H' => σ' = [some (.ref a), some (.ref l), some (.int o), some (.int z), some (.int p), some (.ref tp)] ∧ Same H3 H', ?_, ?_⟩
        · refine ⟨.ref tp, rfl, _, _, _, _, true, rfl, .ty _, ti, kit_ty (show kitB "tuple" "tuple" = some true by decide +kernel), ?_⟩
          refine ⟨true, rfl, iteF ?_⟩
          refine ⟨.ref tp, rfl, tp, _, rfl, .inr (.inl (.inl htp)), rfl, _, rfl, ?_⟩
          refine iteF ?_
          refine ⟨.ref tp, rfl, .ref tp, rfl, tp, _, 0, .int st.1, rfl, rfl, .inl (.inl htp), rfl, _, 0, rfl, rfl, .ref tp, rfl, tp, _, 1, .int st.2, rfl, rfl, .inl (.inl htp), rfl, _, 0, rfl, rfl, ?_⟩
          refine ⟨szN 2 rfl, fun t2 n_t2 => ?_⟩
          generalize e_t2 : upd H3 t2 _ = H4
          have s4 := new_same e_t2 n_t2
          have z4 := new_at e_t2
          clear e_t2
          have z4 : H4 t2 = some (.tup [.int (st.1 + 0), .int (st.2 + 0)]) := z4
          rw [Int.add_zero, Int.add_zero] at z4
          refine ⟨.ref tp, .ref t2, pD st, rfl, dt.same s4, DT.pair (p := st) z4, fun H5 s5 => ?_⟩
          exact ⟨true, rfl, iteF ⟨rfl, s4.trans s5⟩⟩
        rintro σ' H4 ⟨rfl, s4⟩
        have htp4 := s4 _ _ htp
        have s34 := s3.trans s4
        refine ⟨fun σ' H' => σ' = [some (.ref a), some (.ref l), some (.int o), some (.int z), some (.int p), some (.ref tp)] ∧ Same H4 H', ?_, ?_⟩
        · refine ⟨.ref tp, rfl, tp, _, 0, .int st.1, rfl, rfl, .inl (.inl htp4), rfl, 0, st.1, rfl, rfl, true, congrArg V.bl (decide_eq_true c0), ?_⟩
          refine iteT ⟨.ref a, rfl, a, _, rfl, .inl (s34.seq hX), st.1, _, rfl, rfl, true, congrArg V.bl (decide_eq_true c1), ?_⟩
          refine iteF ?_
          refine ⟨.ref a, rfl, .ref tp, rfl, tp, _, 0, .int st.1, rfl, rfl, .inl (.inl htp4), rfl, a, xs, st.1, sv, rfl, rfl, s34.seq hX, by rw [← Int.toNat_of_nonneg c0]; exact atI_nat gsv, .int p, rfl, .ref tp, rfl, tp, _, 1, .int st.2, rfl, rfl, .inl (.inl htp4), rfl, sv, s, p, st.2, rfl, isv.ts (TS.of s34), fun H6 s6 => ?_⟩
          rw [decide_eq_true hb]
          exact ⟨true, rfl, iteF ⟨rfl, s6⟩⟩
        rintro σ' H5 ⟨rfl, s5⟩
        exact ⟨.ref tp, rfl, tp, _, 1, .int st.2, rfl, rfl, .inl (.inl (s5 _ _ htp4)), rfl, st.2, _, rfl, s34.trans s5, el⟩
      · cases el
    · obtain ⟨p, y5, rfl, s3, el⟩ := hP
      rw [pl.len, List.drop_length] at el
      cases el
      exact ⟨y5, rfl, s3⟩
  rintro σ' H2 ⟨y5, rfl, s2⟩
  refine ⟨.int z, rfl, .int z, rfl, rfl, ?_⟩
  rw [decide_eq_true rfl]
  exact q H2 s2

end
end Rep
namespace Rep
open PySem L2 L2H RepHot
theorem szL (xs : List V) (h : xs.length + 1 ≤ 1000) : xs.length < sizeLine := Nat.lt_of_lt_of_le (Nat.lt_of_succ_le h) (by decide)
abbrev nRf : List Str := ["_law_length", "_law_sayings_here", "_law_one", "_law_other", "_law_words", "_law_door", "_law_e"]
theorem scRf : FnScope nRf ["_law_length", "_law_sayings_here", "_law_one", "_law_other"] (defScope s_law_refused) := ⟨rfl, rfl, rfl, by decide +kernel, rfl, by decide +kernel, by decide +kernel⟩
structure TRf (Pg : Program) (w : World) (K : PySem.W.Frag) (mg : Str → Option Value) (base : Heap) (NP RE : Addr) (cs : List Addr) (fA fB fK : Addr) (fdA fdB fdK : FuncData) : Prop where
  gA : FnOk Pg w K mg base (L2N.CX Pg w) 9 fA fdA ["length", "sayings", "one", "other"] (spPthX K NP)
  bA : Binds K fdA ["length", "sayings", "one", "other"] []
  kA : PySem.W.keepIn K (.ref fA) = true
  mA : mg "path" = some (.ref fA)
  gB : FnOk Pg w K mg base (L2N.CX Pg w) 8 fB fdB ["length", "sayings", "one", "steps"] (spLdsX K NP)
  bB : Binds K fdB ["length", "sayings", "one", "steps"] []
  kB : PySem.W.keepIn K (.ref fB) = true
  mB : mg "leads" = some (.ref fB)
  gK : FnP Pg w K mg base CX0 7 fK fdK ["_law_e"] (spKin K cs)
  bK : Binds K fdK ["_law_e"] []
  kK : PySem.W.keepIn K (.ref fK) = true
  mK : mg "_law_kin" = some (.ref fK)
  mR : mg "range" = none
  mI : mg "int" = none
  gR : mg "RepriseError" = some (.ref RE)
  exN : PySem.W.exmOne K (.ref NP) (.ref RE) = some true
  kdN : KinD K cs NP 2
section
variable {Pg : Program} {w : World} {K : PySem.W.Frag} {mg : Str → Option Value} {base : Heap}
theorem ok_rf {f NP RE : Addr} {cs : List Addr} {fA fB fK : Addr} {fd fdA fdB fdK : FuncData} (F : Fun K "_law_refused" "_law_refused" s_law_refused f fd) (T : TRf Pg w K mg base NP RE cs fA fB fK fdA fdB fdK) : FnOk Pg w K mg base CX0 10 f fd ["_law_length", "_law_sayings_here", "_law_one", "_law_other"] (spRf K) := by
  refine F.ok scRf (fun vs H Q E h => ?_) (fun cdv A outer s H vs Q E hr h => ?_)
  · obtain ⟨a, xs, ss, o, z, n, rfl, _⟩ := h; rfl
  obtain ⟨a, xs, ss, o, z, n, rfl, hX, sl, gd, hl, hn, hne, q⟩ := h
  have r9 : Room 9 _ := hr
  have r8 : Room 8 _ := hr.mono (by decide)
  have r7 : Room 7 _ := hr.mono (by decide)
  have nB : (n : Int) < 10 ^ 40 := Int.lt_of_le_of_lt (show (n : Int) ≤ 1000 by omega) (by decide)
  refine ⟨_, (C8.pss_cut (ps_set (i := 4) scRf.nd rfl (.inl rfl) (pe_lst pa_nil))
    (C8.pss_cut (ps_for PassesOwn.never rfl (pi_range1 rfl T.mR (pa_cons pe_int pa_nil)) (pg_name (i := 5) scRf.nd rfl (.inl rfl))
      (C8.pss_cut (L2N.ps_try_as (i := 6) rfl rfl scRf.nd rfl rfl ⟨rfl, by decide, .inl T.gR⟩ takesN
      (fun W pn xe tk _ => (pss_one (ps_if (pt_cmpR op_eq (pv 5) pe_int (nomark _)) (pss_one (ps_expr (pe_callS T.gA r9 (by rfl) T.mA T.kA T.bA (fun σ => L2N.passAt tk σ) (pa_cons (pv 0) (pa_cons (pv 1) (pa_cons (pv 2) (pa_cons (pv 3) pa_nil))))))) (pss_one (ps_expr (pe_callS T.gB r8 (by rfl) T.mB T.kB T.bB (fun σ => L2N.passAt tk σ) (pa_cons (pv 0) (pa_cons (pv 1) (pa_cons (pe_ix (r := rIxL K) ix_list (pe_lst (pa_cons (pv 2) (pa_cons (pv 3) pa_nil))) (pe_callTy call_int1 (by rfl) T.mI PyProof.Rows.boot_int (pa_cons (pe_chain op_le op_lt pe_int (pv 2) (pv 0)) pa_nil)) (fun _ _ => rfl)) (pa_cons (pe_lst pa_nil) pa_nil))))))))))
      (fun a oe cls d pn hz hf => (pss_one (ps_expr (pe_bmK (K := K) rfl PySem.F.plainAttrs_list PySem.F.slot_list_append PySem.F.type_list_append mt_append (pv 4) (pa_cons (pe_callP T.gK (room_suite r7) (hot_of hz hf) List.mem_cons_self hz.zc (by rfl) T.mK T.kK T.bK (pa_cons (pv 6) pa_nil)) pa_nil)))))) pss_nil))
    (pss_one (ps_ret (pe_cmpR (op_eqD hr.units) (pv 4) (pe_lst (pa_cons pe_str (pa_cons pe_str pa_nil))) (nomark _)))))), ?_⟩
  refine ⟨fun σ' H' => ∃ wA, σ' = [some (.int (n : Int)), some (.ref a), some (.int o), some (.int z), some (.ref wA), none, none] ∧ Same H H' ∧ H' wA = some (.lst []) ∧ H wA = none, ?_, ?_⟩
  · refine ⟨szN 0 rfl, fun wA n_wA => ?_⟩
    generalize e_wA : upd H wA _ = H1
    have s1 := new_same e_wA n_wA
    have z1 := new_at e_wA
    clear e_wA
    exact ⟨wA, rfl, s1, z1, n_wA⟩
  rintro σ' H1 ⟨wA, rfl, s1, z1, nw⟩
  refine ⟨fun σ' H' => ∃ y5 y6, σ' = [some (.int (n : Int)), some (.ref a), some (.int o), some (.int z), some (.ref wA), y5, y6] ∧ Same H H' ∧ H' wA = some (.lst (([Str.ofString "NoPlace", Str.ofString "NoPlace"] : List Str).map V.str)), ?_, ?_⟩
  · refine ⟨2, rfl, by decide, by decide, for_range (lo := 0) (n := ((2 : Int)).toNat) (fun j σ' H' => ∃ y5 y6, σ' = [some (.int (n : Int)), some (.ref a), some (.int o), some (.int z), some (.ref wA), y5, y6] ∧ Same H H' ∧ H' wA = some (.lst ((([Str.ofString "NoPlace", Str.ofString "NoPlace"] : List Str).take j).map V.str))) ⟨none, none, rfl, s1, z1⟩ (fun j σ' H2 hj hP => ?_) (fun σ' H2 hP => hP)⟩
    obtain ⟨y5, y6, rfl, s2, z2⟩ := hP
    refine ⟨fun σ' H' => ∃ y5 y6, σ' = [some (.int (n : Int)), some (.ref a), some (.int o), some (.int z), some (.ref wA), y5, y6] ∧ Same H H' ∧ H' wA = some (.lst ((([Str.ofString "NoPlace", Str.ofString "NoPlace"] : List Str).take (j + 1)).map V.str)), ?_, fun σ' H' h => h⟩
    match j, hj with
    | 0, _ =>
      refine ⟨.int (0 + ((0 : Nat) : Int)), rfl, rfl, true, rfl, iteT ?_⟩
      exact ⟨.int (n : Int), rfl, .ref a, rfl, .int o, rfl, .int z, rfl, a, xs, ss, o, z, n, rfl, s2.seq hX, SL.ts (TS.of s2) sl, gd, by omega, hn, fun g => absurd g hne, fun _ => ⟨true, T.exN, fun _ a na => ⟨.ref wA, rfl, .inl ⟨rfl, _, .inl (.inl z2)⟩, .ref a, rfl, NP, 2, rfl, rfl, T.kdN, rfl, fun H5 s5 => ⟨wA, _, _, rfl, rfl, s5 _ _ z2, szL _ (by decide), _, _, rfl, same_over (s2.trans s5) nw, upd_same⟩⟩, fun z => nomatch z⟩⟩
    | 1, _ =>
      refine ⟨.int (0 + ((1 : Nat) : Int)), rfl, rfl, false, rfl, iteF ?_⟩
      refine ⟨.int (n : Int), rfl, .ref a, rfl, .int o, rfl, .int z, rfl, ?_⟩
      refine ⟨szN 2 rfl, fun l1 n_l1 => ?_⟩
      generalize e_l1 : upd H2 l1 _ = H3
      have s3 := new_same e_l1 n_l1
      have z3 := new_at e_l1
      clear e_l1
      by_cases c0 : 0 ≤ o
      · refine ⟨.int o, rfl, 0, o, rfl, rfl, true, congrArg V.bl (decide_eq_true c0), ?_⟩
        refine iteT ⟨.int (n : Int), rfl, o, (n : Int), rfl, rfl, ?_⟩
        by_cases c1 : o < (n : Int)
        · refine .inr ⟨true, congrArg (fun b => [V.bl b]) (decide_eq_true c1), l1, _, 1, .int z, rfl, rfl, .inl (.inl z3), rfl, ?_⟩
          refine ⟨szN 0 rfl, fun l2 n_l2 => ?_⟩
          generalize e_l2 : upd H3 l2 _ = H4
          have s4 := new_same e_l2 n_l2
          have z4 := new_at e_l2
          clear e_l2
          have s34 := s3.trans s4
          exact ⟨(n : Int), z, a, l2, xs, [], ss, [], rfl, (s2.trans s34).seq hX, SL.ts (TS.of (s2.trans s34)) sl, gd, by omega, nB, .inl (.inl z4), PL.nil, fun g => absurd g (by omega), fun _ => ⟨true, T.exN, fun _ a na => ⟨.ref wA, rfl, .inl ⟨rfl, _, .inl (.inl (s34 _ _ z2))⟩, .ref a, rfl, NP, 2, rfl, rfl, T.kdN, rfl, fun H5 s5 => ⟨wA, _, _, rfl, rfl, s5 _ _ (s34 _ _ z2), szL _ (by decide), _, _, rfl, same_over ((s2.trans s34).trans s5) nw, upd_same⟩⟩, fun z => nomatch z⟩⟩
        · refine .inr ⟨false, congrArg (fun b => [V.bl b]) (decide_eq_false c1), l1, _, 0, .int o, rfl, rfl, .inl (.inl z3), rfl, ?_⟩
          refine ⟨szN 0 rfl, fun l2 n_l2 => ?_⟩
          generalize e_l2 : upd H3 l2 _ = H4
          have s4 := new_same e_l2 n_l2
          have z4 := new_at e_l2
          clear e_l2
          have s34 := s3.trans s4
          exact ⟨(n : Int), o, a, l2, xs, [], ss, [], rfl, (s2.trans s34).seq hX, SL.ts (TS.of (s2.trans s34)) sl, gd, by omega, nB, .inl (.inl z4), PL.nil, fun g => absurd g (by omega), fun _ => ⟨true, T.exN, fun _ a na => ⟨.ref wA, rfl, .inl ⟨rfl, _, .inl (.inl (s34 _ _ z2))⟩, .ref a, rfl, NP, 2, rfl, rfl, T.kdN, rfl, fun H5 s5 => ⟨wA, _, _, rfl, rfl, s5 _ _ (s34 _ _ z2), szL _ (by decide), _, _, rfl, same_over ((s2.trans s34).trans s5) nw, upd_same⟩⟩, fun z => nomatch z⟩⟩
      · refine ⟨.int o, rfl, 0, o, rfl, rfl, false, congrArg V.bl (decide_eq_false c0), ?_⟩
        refine iteF ?_
        refine .inr ⟨false, rfl, l1, _, 0, .int o, rfl, rfl, .inl (.inl z3), rfl, ?_⟩
        refine ⟨szN 0 rfl, fun l2 n_l2 => ?_⟩
        generalize e_l2 : upd H3 l2 _ = H4
        have s4 := new_same e_l2 n_l2
        have z4 := new_at e_l2
        clear e_l2
        have s34 := s3.trans s4
        exact ⟨(n : Int), o, a, l2, xs, [], ss, [], rfl, (s2.trans s34).seq hX, SL.ts (TS.of (s2.trans s34)) sl, gd, by omega, nB, .inl (.inl z4), PL.nil, fun g => absurd g (by omega), fun _ => ⟨true, T.exN, fun _ a na => ⟨.ref wA, rfl, .inl ⟨rfl, _, .inl (.inl (s34 _ _ z2))⟩, .ref a, rfl, NP, 2, rfl, rfl, T.kdN, rfl, fun H5 s5 => ⟨wA, _, _, rfl, rfl, s5 _ _ (s34 _ _ z2), szL _ (by decide), _, _, rfl, same_over ((s2.trans s34).trans s5) nw, upd_same⟩⟩, fun z => nomatch z⟩⟩
  rintro σ' H2 ⟨y5, y6, rfl, s2, z2⟩
  refine ⟨.ref wA, rfl, ?_⟩
  refine ⟨szN 2 rfl, fun l1 n_l1 => ?_⟩
  generalize e_l1 : upd H2 l1 _ = H3
  have s3 := new_same e_l1 n_l1
  have z3 := new_at e_l1
  clear e_l1
  refine ⟨.list [.str "NoPlace", .str "NoPlace"], .list [.str "NoPlace", .str "NoPlace"], .lst (.inl (.inl (s3 _ _ z2))) (.cons (.str _) (.cons (.str _) .nil)), .lst (.inl (.inl z3)) (.cons (.str _) (.cons (.str _) .nil)), by decide +kernel, by decide +kernel, ?_⟩
  rw [show PyData.eqv (.list [.str "NoPlace", .str "NoPlace"]) (.list [.str "NoPlace", .str "NoPlace"]) = true by decide +kernel]
  exact q _ (s2.trans s3)

end
end Rep
namespace Rep
open PySem L2 L2H RepHot
abbrev nLx : List Str := ["length", "sayings", "one", "steps", "place", "k", "to"]
theorem scLx : FnScope nLx ["length", "sayings", "one", "steps"] (defScope sLeads) := ⟨rfl, rfl, rfl, by decide +kernel, rfl, by decide +kernel, by decide +kernel⟩
structure TLx (Pg : Program) (w : World) (K : PySem.W.Frag) (mg : Str → Option Value) (base : Heap) (NP fL fS fP fB : Addr) (fdL fdS fdP fdB : FuncData) : Prop where
  gL : FnOk Pg w K mg base CX0 7 fL fdL ["length"] (spChkl)
  bL : Binds K fdL ["length"] []
  kL : PySem.W.keepIn K (.ref fL) = true
  mL : mg "check_length" = some (.ref fL)
  gS : FnOk Pg w K mg base CX0 7 fS fdS ["length", "sayings"] (spChkss K)
  bS : Binds K fdS ["length", "sayings"] []
  kS : PySem.W.keepIn K (.ref fS) = true
  mS : mg "check_sayings" = some (.ref fS)
  gP : FnOk Pg w K mg base (L2N.CX Pg w) 7 fP fdP ["length", "place"] (spChkpX NP)
  bP : Binds K fdP ["length", "place"] []
  kP : PySem.W.keepIn K (.ref fP) = true
  mP : mg "check_place" = some (.ref fP)
  gB : FnOk Pg w K mg base CX0 7 fB fdB ["saying", "place"] (spBes)
  bB : Binds K fdB ["saying", "place"] []
  kB : PySem.W.keepIn K (.ref fB) = true
  mB : mg "beside" = some (.ref fB)
  ml : mg "len" = none
section
variable {Pg : Program} {w : World} {K : PySem.W.Frag} {mg : Str → Option Value} {base : Heap}
theorem ok_lx {f NP fL fS fP fB : Addr} {fd fdL fdS fdP fdB : FuncData} (F : Fun K "leads" "leads" sLeads f fd) (T : TLx Pg w K mg base NP fL fS fP fB fdL fdS fdP fdB) : FnOk Pg w K mg base (L2N.CX Pg w) 8 f fd ["length", "sayings", "one", "steps"] (spLdsX K NP) := by
  refine okN F scLx (fun vs H Q E h => ?_) (fun cdv A outer s H vs Q E hr h => ?_)
  · obtain ⟨e, x, a, c, xs, ys, ss, sts, rfl, _⟩ := h; rfl
  obtain ⟨e, x, a, c, xs, ys, ss, sts, rfl, hX, sl, gd, he0, he, hY, pl, q, qe⟩ := h
  have r7 := hr
  refine ⟨_, (pss_cons (ps_expr (pe_call T.gL r7 (by rfl) T.mL T.kL T.bL .nil pass0 (pa_cons (pv 0) pa_nil)))
    (pss_cons (ps_expr (pe_call T.gS r7 (by rfl) T.mS T.kS T.bS .nil pass0 (pa_cons (pv 0) (pa_cons (pv 1) pa_nil))))
    (pss_cons (ps_expr (pe_call T.gP r7 (by rfl) T.mP T.kP T.bP .nil (L2N.passes_call (L2N.takes_of rfl rfl rfl rfl) (fun _ _ _ _ h => h)) (pa_cons (pv 0) (pa_cons (pv 2) pa_nil))))
    (pss_cons (ps_set (i := 4) scLx.nd rfl (.inl rfl) (pv 2))
    (pss_cons (ps_for (passes_of rfl) rfl (pi_list (pv 3)) (pg_tup rfl (pgs_cons (pg_name (i := 5) scLx.nd rfl (.inl rfl)) (pgs_cons (pg_name (i := 6) scLx.nd rfl (.inl rfl)) pgs_nil)))
      (pss_cons (ps_if (PW.pt (pw_or (pt_cmpR op_lt (pv 5) pe_int (nomark _)) (pw_or (pt_cmpR op_ge (pv 5) (pe_callB call_len_seq (by rfl) T.ml PySem.boot_len (pa_cons (pv 1) pa_nil)) (nomark _)) (pw_or1 (pt_cmpR op_notIn_seq (pv 6) (pe_call T.gB r7 (by rfl) T.mB T.kB T.bB .nil pass0 (pa_cons (pe_ix ix_list (pv 1) (pv 5) (fun _ _ => rfl)) (pa_cons (pv 4) pa_nil))) (by rfl)))))) (pss_one (ps_ret pe_non)) pss_nil)
    (pss_one (ps_set (i := 4) scLx.nd rfl (.inl rfl) (pv 6)))))
    (pss_one (ps_ret (pv 4)))))))), ?_⟩
  refine ⟨.int e, rfl, e, rfl, by omega, he, ?_⟩
  refine ⟨.int e, rfl, .ref a, rfl, e, a, xs, ss, rfl, hX, sl, gd, ?_⟩
  refine ⟨.int e, rfl, .int x, rfl, e, x, rfl, fun g => ?_, fun g => qe g⟩
  replace q := q g
  clear qe
  refine ⟨.int x, rfl, ?_⟩
  refine ⟨.ref c, rfl, c, rfl, ⟨_, hY⟩, for_list (xs := ys) (fun i σ H3 => ∃ p y5 y6, σ = [some (.int e), some (.ref a), some (.int x), some (.ref c), some (.int p), y5, y6] ∧ Same H H3 ∧ leadsF ss x sts = leadsF ss p (sts.drop i)) ⟨x, none, none, rfl, Same.refl _, rfl⟩ (fun i σ H3 _ hP => ?_) (fun i v σ H3 hv hP => ?_) (fun σ H3 hP => ?_)⟩
  · obtain ⟨_, _, _, _, sm, _⟩ := hP
    exact sm.seq hY
  · obtain ⟨p, y5, y6, rfl, sm, el⟩ := hP
    obtain ⟨tp, st, rfl, htp, hst⟩ := pl.get hv
    obtain ⟨hi, est⟩ := List.getElem?_eq_some_iff.mp hst
    have ed : sts.drop i = st :: sts.drop (i + 1) := by rw [List.drop_eq_getElem_cons hi, est]
    rw [ed] at el
    have es : leadsF ss p (st :: sts.drop (i + 1)) = if 0 ≤ st.1 ∧ ∃ s, ss[st.1.toNat]? = some s ∧ st.2 ∈ besF s p then leadsF ss st.2 (sts.drop (i + 1)) else none := rfl
    refine ⟨tp, [.int st.1, .int st.2], rfl, .inl (.inl (sm _ _ htp)), rfl, _, _, rfl, _, _, rfl, rfl, ?_⟩
    refine ⟨.int st.1, rfl, _, 0, rfl, rfl, _, rfl, ite2 (fun c1 => ?_) (fun c1 => ?_)⟩
    · have c1 := of_decide_eq_true c1
      refine iteT ?_
      rw [el, es, if_neg (fun z => by have := z.1; omega)] at q
      exact q H3 sm
    have c1 : ¬ st.1 < 0 := fun z => c1 (decide_eq_true z)
    refine ⟨.int st.1, rfl, .ref a, rfl, a, xs, rfl, .inl (sm.seq hX), _, _, rfl, rfl, _, rfl, ite2 (fun c2 => ?_) (fun c2 => ?_)⟩
    · have c2 : st.1 ≥ (xs.length : Int) := of_decide_eq_true c2
      refine iteT ?_
      rw [el, es, if_neg (fun ⟨_, s, z, _⟩ => by
        have := (List.getElem?_eq_some_iff.mp z).1
        rw [sl.len] at c2
        omega)] at q
      exact q H3 sm
    have c2 : ¬ st.1 ≥ (xs.length : Int) := fun z => c2 (decide_eq_true z)
    obtain ⟨j, hj⟩ : ∃ j : Nat, st.1 = (j : Int) := ⟨st.1.toNat, by omega⟩
    have hjx : j < xs.length := by omega
    have gx : xs[j]? = some xs[j] := List.getElem?_eq_getElem hjx
    generalize xs[j] = sv at gx
    obtain ⟨s, hs, is_⟩ := sl.get gx
    refine ⟨.int st.2, rfl, .ref a, rfl, .int st.1, rfl, a, xs, st.1, sv, rfl, rfl, sm.seq hX, by rw [hj]; exact atI_nat gx, .int p, rfl, sv, s, p, rfl, is_.ts (TS.of sm), fun H4 l s4 nl el4 => ?_⟩
    refine ⟨l, _, rfl, .inl (.inl (.inl el4)), rfl, flat_ints _, _, rfl, ?_⟩
    show if (!inV (.int st.2) ((besF s p).map V.int)) = true then _ else _
    rw [in_ints]
    by_cases c3 : st.2 ∈ besF s p
    · rw [decide_eq_true c3]
      refine iteF ?_
      refine ⟨.int st.2, rfl, st.2, _, _, rfl, sm.trans s4, ?_⟩
      rw [el, es, if_pos ⟨by omega, s, by rw [hj, Int.toNat_natCast]; exact hs, c3⟩]
    · rw [decide_eq_false c3]
      refine iteT ?_
      rw [el, es, if_neg (fun ⟨_, s', z, w⟩ => by
        rw [hj, Int.toNat_natCast, hs] at z
        cases z
        exact c3 w)] at q
      exact q H4 (sm.trans s4)
  · obtain ⟨p, y5, y6, rfl, sm, el⟩ := hP
    rw [pl.len, List.drop_length] at el
    rw [el] at q
    exact ⟨.int p, rfl, q H3 sm⟩

end
end Rep
namespace Rep
open PySem L2
theorem cut63 {xs : List V} (h : xs.length ≤ 63) : cutV xs none (some 63) = xs := by
  unfold cutV
  rw [show HT.sIx xs.length xs.length (some 63) = min 63 xs.length from HT.sIx_nat xs.length xs.length 63, HT.sIx_none]
  show (xs.take (min 63 xs.length - 0)) = xs
  exact List.take_of_length_le (by omega)
def syD (s : Sy) : PyData := .tuple [.int s.lo, .int s.hi, .int s.n, .bool s.t]
theorem SL.dp {K : PySem.W.Frag} {H : Hp} : ∀ {vs : List V} {ss : List Sy}, SL H vs ss → DpAll K H vs (ss.map syD)
  | [], [], _ => .nil
  | [], _ :: _, h => by have := h.len; simp at this
  | _ :: _, [], h => by have := h.len; simp at this
  | v :: vs, s :: ss, h => by
    obtain ⟨t, rfl, ht⟩ := h.at_ 0 v s rfl rfl
    refine .cons (.tup (.inl (.inl ht)) (.cons (.int _) (.cons (.int _) (.cons (.int _) (.cons (.bl _) .nil))))) (SL.dp ⟨?_, fun i w u h1 h2 => h.at_ (i + 1) w u h1 h2⟩)
    have := h.len
    simpa using this
theorem canSy : ∀ ss : List Sy, PyData.canLayAll0 (ss.map syD) = true
  | [] => rfl
  | _ :: r => by
    show (true && PyData.canLayAll0 (r.map syD)) = true
    rw [canSy r]; rfl
theorem depSy : ∀ ss : List Sy, PyData.depthAll (ss.map syD) ≤ 1
  | [] => Nat.zero_le _
  | _ :: r => by
    show max 1 (PyData.depthAll (r.map syD)) ≤ 1
    have := depSy r
    omega
theorem shapedSy (ss : List Sy) : SeqAt.shaped (.list (ss.map syD)) = true := by
  unfold SeqAt.shaped
  rw [show PyData.canLay0 (.list (ss.map syD)) = true from canSy ss]
  refine decide_eq_true ?_
  show PyData.depthAll (ss.map syD) + 1 ≤ 64
  have := depSy ss
  omega
theorem Good.more {e : Int} {s : Sy} (h : Good e s) : Good (e + 1) s := by
  obtain ⟨a, b, c, d, g⟩ := h
  exact ⟨a, b, c, by omega, by omega⟩
def spLaw25 (K : PySem.W.Frag) : Sp := fun vs H Q _ => ∃ (a : Addr) (ns : List Int), vs = [.ref a] ∧ SqL K H a (ns.map V.int) ∧ ns.length ≤ 63 ∧ ∀ H', Q (.bl true) H'
def spPth (K : PySem.W.Frag) (NP : Addr) : Sp := fun vs H Q _ => spPthX K NP vs H Q (fun _ _ _ => False)
def spLdsC (K : PySem.W.Frag) (NP : Addr) : Sp := fun vs H Q _ => spLdsX K NP vs H Q (fun _ _ _ => False)
abbrev nLaw : List Str := ["_law_script", "_law_most", "_law_length", "_law_sayings_here", "_law_heads_here", "_law_one", "_law_other", "_law_far", "_law_turn", "_law_handed", "_law_told", "_law_place"]
theorem scLaw : FnScope nLaw ["_law_script"] (defScope sLaw) := ⟨rfl, rfl, rfl, by decide +kernel, rfl, by decide +kernel, by decide +kernel⟩
structure TLaw24 (Pg : Program) (w : World) (K : PySem.W.Frag) (mg : Str → Option Value) (base : Heap) (NP fS fD fF fO fZ fA fB fW fE fJ : Addr) (fdS fdD fdF fdO fdZ fdA fdB fdW fdE fdJ : FuncData) : Prop where
  gS : FnOk Pg w K mg base CX0 7 fS fdS ["_law_script", "_law_most"] (spSong K)
  bS : Binds K fdS ["_law_script", "_law_most"] []
  kS : PySem.W.keepIn K (.ref fS) = true
  mS : mg "_law_crowded_song" = some (.ref fS)
  gD : FnOk Pg w K mg base CX0 7 fD fdD ["_law_script", "_law_k", "_law_sizes"] (spDig K)
  bD : Binds K fdD ["_law_script", "_law_k", "_law_sizes"] []
  kD : PySem.W.keepIn K (.ref fD) = true
  mD : mg "_law_digits" = some (.ref fD)
  gF : FnOk Pg w K mg base CX0 7 fF fdF ["_law_length", "_law_sayings_here"] (spFirsts K)
  bF : Binds K fdF ["_law_length", "_law_sayings_here"] []
  kF : PySem.W.keepIn K (.ref fF) = true
  mF : mg "_law_firsts" = some (.ref fF)
  gO : FnOk Pg w K mg base CX0 7 fO fdO ["_law_script", "_law_k", "_law_length", "_law_heads_here", "_law_many"] (spFi K)
  bO : Binds K fdO ["_law_script", "_law_k", "_law_length", "_law_heads_here", "_law_many"] []
  kO : PySem.W.keepIn K (.ref fO) = true
  mO : mg "_law_alike_pairs" = some (.ref fO)
  gZ : FnOk Pg w K mg base CX0 8 fZ fdZ ["_law_length", "_law_sayings_here", "_law_start"] (spRc K)
  bZ : Binds K fdZ ["_law_length", "_law_sayings_here", "_law_start"] []
  kZ : PySem.W.keepIn K (.ref fZ) = true
  mZ : mg "_law_reach" = some (.ref fZ)
  gA : FnOk Pg w K mg base CX0 9 fA fdA ["length", "sayings", "one", "other"] (spPth K NP)
  bA : Binds K fdA ["length", "sayings", "one", "other"] []
  kA : PySem.W.keepIn K (.ref fA) = true
  mA : mg "path" = some (.ref fA)
  gB : FnOk Pg w K mg base CX0 8 fB fdB ["length", "sayings", "one", "steps"] (spLdsC K NP)
  bB : Binds K fdB ["length", "sayings", "one", "steps"] []
  kB : PySem.W.keepIn K (.ref fB) = true
  mB : mg "leads" = some (.ref fB)
  gW : FnOk Pg w K mg base CX0 8 fW fdW ["_law_sayings_here", "_law_steps", "_law_one", "_law_other"] (spWk K)
  bW : Binds K fdW ["_law_sayings_here", "_law_steps", "_law_one", "_law_other"] []
  kW : PySem.W.keepIn K (.ref fW) = true
  mW : mg "_law_walked" = some (.ref fW)
  gE : FnOk Pg w K mg base CX0 7 fE fdE ["_law_told", "_law_due"] (spSame 7)
  bE : Binds K fdE ["_law_told", "_law_due"] []
  kE : PySem.W.keepIn K (.ref fE) = true
  mE : mg "_law_same" = some (.ref fE)
  gJ : FnOk Pg w K mg base CX0 10 fJ fdJ ["_law_length", "_law_sayings_here", "_law_one", "_law_other"] (spRf K)
  bJ : Binds K fdJ ["_law_length", "_law_sayings_here", "_law_one", "_law_other"] []
  kJ : PySem.W.keepIn K (.ref fJ) = true
  mJ : mg "_law_refused" = some (.ref fJ)
  mL : mg "list" = none
  mR : mg "range" = none
  misinstance : mg "isinstance" = none
  ml : mg "len" = none
section
variable {Pg : Program} {w : World} {K : PySem.W.Frag} {mg : Str → Option Value} {base : Heap}
theorem ok_law24 {f NP fS fD fF fO fZ fA fB fW fE fJ : Addr} {fd fdS fdD fdF fdO fdZ fdA fdB fdW fdE fdJ : FuncData} (F : Fun K "law" "law" sLaw f fd) (T : TLaw24 Pg w K mg base NP fS fD fF fO fZ fA fB fW fE fJ fdS fdD fdF fdO fdZ fdA fdB fdW fdE fdJ) : FnOk Pg w K mg base CX0 11 f fd ["_law_script"] (spLaw25 K) := by
  refine F.ok scLaw (fun vs H Q E h => ?_) (fun cdv A outer s H vs Q E hr h => ?_)
  · obtain ⟨a, ns, rfl, _⟩ := h; rfl
  obtain ⟨a, ns, rfl, hS, h63, q⟩ := h
  have r7 : Room 7 _ := hr.mono (by decide)
  have r8 : Room 8 _ := hr.mono (by decide)
  have r9 : Room 9 _ := hr.mono (by decide)
  have r10 : Room 10 _ := hr
  have hu := hu_of hr
  refine ⟨_, (C8.pss_cut (ps_set (i := 0) scLaw.nd rfl (.inl rfl) (pe_slice sl_list (pv 0) po_none (po_some pe_int)))
    (C8.pss_cut (ps_set (i := 1) scLaw.nd rfl (.inl rfl) (pe_ix ix_list (pe_op op_cat (pe_op op_rep (pe_lst (pa_cons pe_int pa_nil)) pe_int) (pe_lst (pa_cons pe_int pa_nil))) (pe_ix ix_list (pe_call T.gD r7 (by rfl) T.mD T.kD T.bD .nil pass0 (pa_cons (pv 0) (pa_cons pe_int (pa_cons (pe_lst (pa_cons pe_int pa_nil)) pa_nil)))) pe_int (fun _ _ => rfl)) (fun _ _ => rfl)))
    (C8.pss_cut (ps_asg (pe_call T.gS r7 (by rfl) T.mS T.kS T.bS .nil pass0 (pa_cons (pv 0) (pa_cons (pv 1) pa_nil))) (pg_tup rfl (pgs_cons (pg_name (i := 2) scLaw.nd rfl (.inl rfl)) (pgs_cons (pg_name (i := 3) scLaw.nd rfl (.inl rfl)) pgs_nil))))
    (C8.pss_cut (ps_set (i := 2) scLaw.nd rfl (.inl rfl) (pe_op op_add (pv 2) pe_int))
    (C8.pss_cut (ps_set (i := 4) scLaw.nd rfl (.inl rfl) (pe_call T.gF r7 (by rfl) T.mF T.kF T.bF .nil pass0 (pa_cons (pv 2) (pa_cons (pv 3) pa_nil))))
    (C8.pss_cut (ps_for PassesOwn.never rfl (pi_list (pe_op op_cat (pe_call T.gO r7 (by rfl) T.mO T.kO T.bO .nil pass0 (pa_cons (pv 0) (pa_cons pe_int (pa_cons (pv 2) (pa_cons (pv 4) (pa_cons pe_int pa_nil)))))) (pe_lst (pa_cons (pe_tup (pa_cons pe_int (pa_cons pe_int pa_nil))) pa_nil)))) (pg_tup rfl (pgs_cons (pg_name (i := 5) scLaw.nd rfl (.inl rfl)) (pgs_cons (pg_name (i := 6) scLaw.nd rfl (.inl rfl)) pgs_nil)))
      (C8.pss_cut (ps_set (i := 7) scLaw.nd rfl (.inl rfl) (pe_call T.gZ r8 (by rfl) T.mZ T.kZ T.bZ .nil pass0 (pa_cons (pv 2) (pa_cons (pv 3) (pa_cons (pv 5) pa_nil)))))
    (pss_one (ps_for PassesOwn.never rfl (pi_range1 rfl T.mR (pa_cons pe_int pa_nil)) (pg_name (i := 8) scLaw.nd rfl (.inl rfl))
      (C8.pss_cut (ps_set (i := 9) scLaw.nd rfl (.inl rfl) (pe_callTy call_list_of (by rfl) T.mL PyProof.Rows.boot_list (pa_cons (pv 3) pa_nil)))
    (C8.pss_cut (ps_set (i := 10) scLaw.nd rfl (.inl rfl) (pe_call T.gA r9 (by rfl) T.mA T.kA T.bA .nil pass0 (pa_cons (pv 2) (pa_cons (pv 9) (pa_cons (pv 5) (pa_cons (pv 6) pa_nil))))))
    (C8.pss_cut (ps_if (PW.pt (pw_or (pt_cmpR (op_neD hr.units) (pv 9) (pv 3) (nomark _)) (pw_or1 (pt_cmpR op_ne (pe_cmpR op_isN (pv 10) pe_non (nomark _)) (pe_cmp (pc_dnotin hu (pv 6) (pv 7))) (nomark _))))) (pss_one (ps_ret pe_bl)) pss_nil)
    (pss_one (ps_if (pt_cmpR op_notN (pv 10) pe_non (nomark _)) (C8.pss_cut (ps_if (PW.pt (pw_or (pt_not (pt_val (pe_callB call_isi (by rfl) T.misinstance PyProof.Rows.boot_isinstance (pa_cons (pv 10) (pa_cons (pe_bltn (v := .ty "list") (by rfl) T.mL PyProof.Rows.boot_list rfl) pa_nil))))) (pw_or (pt_cmpR op_ne (pe_callB call_len_seq (by rfl) T.ml PySem.boot_len (pa_cons (pv 10) pa_nil)) (pe_dget hu (pv 7) (pv 6) (fun _ _ => rfl)) (nomark _)) (pw_or1 (pt_not (pt_val (pe_call T.gW r8 (by rfl) T.mW T.kW T.bW .nil pass0 (pa_cons (pv 3) (pa_cons (pv 10) (pa_cons (pv 5) (pa_cons (pv 6) pa_nil))))))))))) (pss_one (ps_ret pe_bl)) pss_nil)
    (C8.pss_cut (ps_if (pt_not (pt_val (pe_call T.gE r7 (by rfl) T.mE T.kE T.bE .nil pass0 (pa_cons (pe_call T.gB r8 (by rfl) T.mB T.kB T.bB .nil pass0 (pa_cons (pv 2) (pa_cons (pv 9) (pa_cons (pv 5) (pa_cons (pe_callTy call_list_of (by rfl) T.mL PyProof.Rows.boot_list (pa_cons (pv 10) pa_nil)) pa_nil))))) (pa_cons (pv 6) pa_nil))))) (pss_one (ps_ret pe_bl)) pss_nil)
    (pss_one (ps_expr (pe_bm PySem.F.plainAttrs_list PySem.F.slot_list_append PySem.F.type_list_append mt_append (pv 10) (pa_cons (pe_tup (pa_cons pe_int (pa_cons pe_int pa_nil))) pa_nil)))))) pss_nil)))))))))
    (C8.pss_cut (ps_set (i := 7) scLaw.nd rfl (.inl rfl) (pe_ix ix_list (pe_call T.gD r7 (by rfl) T.mD T.kD T.bD .nil pass0 (pa_cons (pv 0) (pa_cons pe_int (pa_cons (pe_lst (pa_cons (pe_op op_pow pe_int pe_int) pa_nil)) pa_nil)))) pe_int (fun _ _ => rfl)))
    (C8.pss_cut (ps_for PassesOwn.never rfl (pi_tup (pe_tup (pa_cons (pe_un un_neg pe_int) (pa_cons (pv 2) (pa_cons (pe_op op_add (pv 2) (pv 7)) (pa_cons (pe_op op_sub (pe_un un_neg pe_int) (pv 7)) pa_nil)))))) (pg_name (i := 11) scLaw.nd rfl (.inl rfl))
      (pss_one (ps_if (PW.pt (pw_or (pt_not (pt_val (pe_call T.gJ r10 (by rfl) T.mJ T.kJ T.bJ .nil pass0 (pa_cons (pv 2) (pa_cons (pv 3) (pa_cons (pv 11) (pa_cons pe_int pa_nil))))))) (pw_or1 (pt_not (pt_val (pe_call T.gJ r10 (by rfl) T.mJ T.kJ T.bJ .nil pass0 (pa_cons (pv 2) (pa_cons (pv 3) (pa_cons pe_int (pa_cons (pv 11) pa_nil)))))))))) (pss_one (ps_ret pe_bl)) pss_nil)))
    (pss_one (ps_ret pe_bl)))))))))), ?_⟩
  have hlV : (ns.map V.int).length ≤ 63 := by rw [List.length_map]; exact h63
  refine ⟨fun σ' H' => ∃ a1, σ' = [some (.ref a1), none, none, none, none, none, none, none, none, none, none, none] ∧ H' a1 = some (.lst (ns.map V.int)), ?_, ?_⟩
  · refine ⟨.ref a, rfl, 63, rfl, a, ns.map V.int, rfl, hS, fun a1 n1 => ?_⟩
    rw [cut63 hlV]
    exact ⟨a1, rfl, upd_same⟩
  clear hS
  rintro σ' H1 ⟨a1, rfl, e1⟩
  -- most
  refine ⟨fun σ' H' => ∃ m : Int, σ' = [some (.ref a1), some (.int m), none, none, none, none, none, none, none, none, none, none] ∧ Same H1 H' ∧ 2 ≤ m ∧ m ≤ 399, ?_, ?_⟩
  · refine ⟨szN 1 rfl, fun l1 n_l1 => ?_⟩
    generalize e_l1 : upd H1 l1 _ = H2
    have q1 := new_same e_l1 n_l1
    have z1 := new_at e_l1
    clear e_l1
    refine ⟨l1, 7, _, rfl, rfl, z1, by decide, by decide, (by show 1 * 7 ≤ sizeLine; decide), ?_⟩
    intro l2 n_l2
    generalize e_l2 : upd H2 l2 _ = H3
    have q2 := new_same e_l2 n_l2
    have z2 := new_at e_l2
    clear e_l2
    have z2 : H3 l2 = some (.lst [.int 119, .int 119, .int 119, .int 119, .int 119, .int 119, .int 119]) := z2
    refine ⟨szN 1 rfl, fun l3 n_l3 => ?_⟩
    generalize e_l3 : upd H3 l3 _ = H4
    have q3 := new_same e_l3 n_l3
    have z3 := new_at e_l3
    clear e_l3
    refine ⟨l2, l3, _, _, rfl, rfl, q3 _ _ z2, z3, (by show 7 + 1 ≤ sizeLine; decide), ?_⟩
    intro l4 n_l4
    generalize e_l4 : upd H4 l4 _ = H5
    have q4 := new_same e_l4 n_l4
    have z4 := new_at e_l4
    clear e_l4
    have z4 : H5 l4 = some (.lst [.int 119, .int 119, .int 119, .int 119, .int 119, .int 119, .int 119, .int 399]) := z4
    refine ⟨.ref a1, rfl, ?_⟩
    refine ⟨szN 1 rfl, fun l5 n_l5 => ?_⟩
    generalize e_l5 : upd H5 l5 _ = H6
    have q5 := new_same e_l5 n_l5
    have z5 := new_at e_l5
    clear e_l5
    have sA := q1.trans (q2.trans (q3.trans (q4.trans q5)))
    refine ⟨a1, l5, ns, [8], 62, rfl, .inl (.inl (sA _ _ e1)), h63, .inl (.inl z5), by decide, ?_, fun H7 pd s6 np ep => ?_⟩
    · intro z hz
      rw [List.mem_singleton.mp hz]
      exact ⟨by decide, by decide⟩
    have ep : H7 pd = some (.lst [.int (rawF ns 62 % 8)]) := ep
    have hm0 : 0 ≤ rawF ns 62 % 8 := Int.emod_nonneg _ (by decide)
    have hm1 : rawF ns 62 % 8 < 8 := Int.emod_lt_of_pos _ (by decide)
    generalize rawF ns 62 % 8 = g at *
    refine ⟨pd, _, 0, _, rfl, rfl, .inl (.inl ep), rfl, ?_⟩
    have hg : ∃ m : Int, atI [V.int 119, .int 119, .int 119, .int 119, .int 119, .int 119, .int 119, .int 399] g = some (.int m) ∧ 2 ≤ m ∧ m ≤ 399 := by
      have : g = 0 ∨ g = 1 ∨ g = 2 ∨ g = 3 ∨ g = 4 ∨ g = 5 ∨ g = 6 ∨ g = 7 := by omega
      rcases this with rfl | rfl | rfl | rfl | rfl | rfl | rfl | rfl
      · exact ⟨119, rfl, by decide, by decide⟩
      · exact ⟨119, rfl, by decide, by decide⟩
      · exact ⟨119, rfl, by decide, by decide⟩
      · exact ⟨119, rfl, by decide, by decide⟩
      · exact ⟨119, rfl, by decide, by decide⟩
      · exact ⟨119, rfl, by decide, by decide⟩
      · exact ⟨119, rfl, by decide, by decide⟩
      · exact ⟨399, rfl, by decide, by decide⟩
    obtain ⟨m, hm, m1, m2⟩ := hg
    exact ⟨l4, _, g, .int m, rfl, rfl, .inl (.inl (s6 _ _ (q5 _ _ z4))), hm, m, rfl, sA.trans s6, m1, m2⟩
  rintro σ' H2 ⟨m, rfl, s2, m1, m2⟩
  replace e1 := s2 _ _ e1
  clear s2
  refine ⟨fun σ' H' => ∃ (n : Nat) (o : Addr) (xs : List V) (ss : List Sy), σ' = [some (.ref a1), some (.int m), some (.int (n : Int)), some (.ref o), none, none, none, none, none, none, none, none] ∧ Same H2 H' ∧ H' o = some (.lst xs) ∧ SL H' xs ss ∧ (∀ s ∈ ss, Good ((n : Int) + 1) s) ∧ ss.length ≤ 24 ∧ n ≤ 399, ?_, ?_⟩
  · refine ⟨.ref a1, rfl, .int m, rfl, a1, ns, m, rfl, .inl (.inl e1), h63, m1, by omega, fun H3 t o xs ss L s3 et no eo sl gd hl hL0 hL1 => ?_⟩
    obtain ⟨n, rfl⟩ : ∃ n : Nat, L = (n : Int) := ⟨L.toNat, by omega⟩
    exact ⟨t, _, rfl, .inl (.inl et), rfl, _, _, rfl, _, _, rfl, rfl, n, o, xs, ss, rfl, s3, eo, sl, fun s hs => (gd s hs).more, hl, by omega⟩
  rintro σ' H3 ⟨n0, o, xs, ss, rfl, s3, eo, sl, gd, hl, hn0⟩
  replace e1 := s3 _ _ e1
  clear s3
  obtain ⟨n, hn⟩ : ∃ n : Nat, n = n0 + 1 := ⟨_, rfl⟩
  have hnI : (n0 : Int) + 1 = (n : Int) := by omega
  rw [hnI] at gd
  have n1 : 1 ≤ n := by omega
  have n400 : n ≤ 400 := by omega
  have nB : (n : Int) < 10 ^ 40 := Int.lt_of_le_of_lt (show (n : Int) ≤ 1000 by omega) (by decide)
  refine ⟨fun σ' H' => σ' = [some (.ref a1), some (.int m), some (.int (n : Int)), some (.ref o), none, none, none, none, none, none, none, none] ∧ H' = H3, ?_, ?_⟩
  · exact ⟨.int (n0 : Int), rfl, _, 1, rfl, rfl, by rw [← hnI]; rfl, rfl⟩
  rintro σ' H' ⟨rfl, eH⟩
  subst eH
  -- the heads
  refine ⟨fun σ' H4 => ∃ (d : Addr) (D : List Int), σ' = [some (.ref a1), some (.int m), some (.int (n : Int)), some (.ref o), some (.ref d), none, none, none, none, none, none, none] ∧ Same H' H4 ∧ H4 d = some (.lst (D.map V.int)) ∧ D.length = n, ?_, ?_⟩
  · exact ⟨.int (n : Int), rfl, .ref o, rfl, o, xs, ss, n, rfl, .inl (.inl eo), sl, gd, by omega, by omega, fun H4 d D s4 nd ed lD hD => ⟨d, D, rfl, s4, ed, lD⟩⟩
  rintro σ' H4 ⟨d, D, rfl, s4, ed, lD⟩
  replace e1 := s4 _ _ e1
  replace eo := s4 _ _ eo
  replace sl := SL.ts (TS.of s4) sl
  clear s4 hn0 hnI hn
  -- the pairs
  refine ⟨fun σ' H' => ∃ (y5 y6 y7 y8 y9 y10 : Option V), σ' = [some (.ref a1), some (.int m), some (.int (n : Int)), some (.ref o), some (.ref d), y5, y6, y7, y8, y9, y10, none] ∧ Same H4 H', ?_, ?_⟩
  · refine ⟨.ref a1, rfl, .int (n : Int), rfl, .ref d, rfl, a1, d, ns, D, 10, n, rfl, .inl (.inl e1), h63, ed, lD, n1, n400, fun H5 l ys ps s5 nl el pl hp lp => ?_⟩
    refine ⟨szN 2 rfl, fun t0 n_t0 => ?_⟩
    generalize e_t0 : upd H5 t0 _ = H6
    have s6 := new_same e_t0 n_t0
    have z6 := new_at e_t0
    clear e_t0
    refine ⟨szN 1 rfl, fun l2 n_l2 => ?_⟩
    generalize e_l2 : upd H6 l2 _ = H7
    have s7 := new_same e_l2 n_l2
    have z7 := new_at e_l2
    clear e_l2
    have pl7 := (PL.ts (TS.of (s6.trans s7)) pl).snoc (a := 0) (b := 0) (s7 _ _ z6)
    refine ⟨l, l2, _, _, rfl, rfl, s7 _ _ (s6 _ _ el), z7, ?_, ?_⟩
    · rw [pl.len]
      exact Nat.le_trans (show ps.length + 1 ≤ 1000 by omega) (by decide)
    intro l3 n_l3
    generalize e_l3 : upd H7 l3 _ = H8
    have s8 := new_same e_l3 n_l3
    have z8 := new_at e_l3
    clear e_l3
    have pl8 := PL.ts (TS.of s8) pl7
    have s48 := s5.trans (s6.trans (s7.trans s8))
    have hp8 : ∀ p ∈ ps ++ [((0 : Int), (0 : Int))], (0 ≤ p.1 ∧ p.1 < (n : Int)) ∧ 0 ≤ p.2 ∧ p.2 < (n : Int) := fun p h => by
      rcases List.mem_append.mp h with h | h
      · exact hp p h
      · rw [List.mem_singleton.mp h]; exact ⟨⟨by decide, by show (0 : Int) < n; omega⟩, by decide, by show (0 : Int) < n; omega⟩
    clear pl pl7 hp lp z6 z7 el
    generalize ps ++ [((0 : Int), (0 : Int))] = ps at pl8 hp8
    refine ⟨l3, rfl, ⟨_, .inl (.inl z8)⟩, for_list (xs := ys ++ [.ref t0]) (fun k σ' H' => ∃ (y5 y6 y7 y8 y9 y10 : Option V), σ' = [some (.ref a1), some (.int m), some (.int (n : Int)), some (.ref o), some (.ref d), y5, y6, y7, y8, y9, y10, none] ∧ Same H8 H') ⟨_, _, _, _, _, _, rfl, Same.refl _⟩ (fun k σ' H' _ hP => ?_) (fun k v σ' H9 hv hP => ?_) (fun σ' H9 hP => ?_)⟩
    · obtain ⟨_, _, _, _, _, _, _, sm⟩ := hP
      exact .inl (.inl (sm _ _ z8))
    · obtain ⟨y5, y6, y7, y8, y9, y10, rfl, s9⟩ := hP
      obtain ⟨t, p, rfl, ht, hpp⟩ := pl8.get hv
      obtain ⟨⟨a0, a1'⟩, b0, b1⟩ := hp8 p (List.mem_of_getElem? hpp)
      obtain ⟨p1, p2⟩ := p
      dsimp only at a0 a1' b0 b1 ht
      refine ⟨t, _, rfl, .inl (.inl (s9 _ _ ht)), rfl, _, _, rfl, _, _, rfl, rfl, ?_⟩
      have s49 := s48.trans s9
      have eo9 := s49 _ _ eo
      have sl9 := SL.ts (TS.of s49) sl
      -- how far
      refine ⟨fun σ' H' => ∃ (c : Addr) (kvs : List (Key × V)), σ' = [some (.ref a1), some (.int m), some (.int (n : Int)), some (.ref o), some (.ref d), some (.int p1), some (.int p2), some (.ref c), y8, y9, y10, none] ∧ Same H9 H' ∧ H' c = some (.dK kvs) ∧ (∀ (q : Int) (m : Nat), Dist (AdjS ss) p1 q m ↔ valV kvs (Sum.inl q) = some (.int (m : Int))) ∧ (∀ q : Int, valV kvs (Sum.inl q) = none ∨ ∃ m, Dist (AdjS ss) p1 q m), ?_, ?_⟩
      · exact ⟨.int (n : Int), rfl, .ref o, rfl, .int p1, rfl, o, xs, ss, p1, n, rfl, .inl (.inl eo9), sl9, gd, by omega, by omega, a0, a1', fun HA c kvs sA nc ec far fan => ⟨c, kvs, rfl, sA, ec, far, fan⟩⟩
      rintro σ' HA ⟨c, kvs, rfl, sA, ec, far, fan⟩
      refine ⟨2, rfl, by decide, by decide, for_range (lo := 0) (n := ((2 : Int)).toNat) (fun j σ' H' => ∃ (y8 y9 y10 : Option V), σ' = [some (.ref a1), some (.int m), some (.int (n : Int)), some (.ref o), some (.ref d), some (.int p1), some (.int p2), some (.ref c), y8, y9, y10, none] ∧ Same HA H') ⟨_, _, _, rfl, Same.refl _⟩ (fun j σ' HB hj hP => ?_) (fun σ' HB hP => ?_)⟩
      · clear y8 y9 y10
        obtain ⟨y8, y9, y10, rfl, sB⟩ := hP
        have sAB := sA.trans sB
        refine ⟨fun σ' H' => ∃ h, σ' = [some (.ref a1), some (.int m), some (.int (n : Int)), some (.ref o), some (.ref d), some (.int p1), some (.int p2), some (.ref c), some (.int (0 + (j : Int))), some (.ref h), y10, none] ∧ Same HB H' ∧ H' h = some (.lst xs), ?_, ?_⟩
        · refine ⟨.ref o, rfl, o, xs, rfl, .inl (.inl (.inl (sAB _ _ eo9))), ?_⟩
          intro h n_h
          generalize e_h : upd HB h _ = HC
          have sC := new_same e_h n_h
          have zC := new_at e_h
          clear e_h
          exact ⟨h, rfl, sC, zC⟩
        rintro σ' HC ⟨h, rfl, sC, eh⟩
        have sAC := sAB.trans sC
        have slC := SL.ts (TS.of sAC) sl9
        refine ⟨fun σ' H' => ∃ v, σ' = [some (.ref a1), some (.int m), some (.int (n : Int)), some (.ref o), some (.ref d), some (.int p1), some (.int p2), some (.ref c), some (.int (0 + (j : Int))), some (.ref h), some v, none] ∧ Same HC H' ∧ WayV HC H' ss p1 p2 v, ?_, ?_⟩
        · exact ⟨.int (n : Int), rfl, .ref h, rfl, .int p1, rfl, .int p2, rfl, h, xs, ss, p1, p2, n, rfl, .inl (.inl eh), slC, gd, by omega, by omega, fun _ HD v sD wv => ⟨v, rfl, sD, wv⟩, fun z => z ⟨a0, a1', b0, b1⟩⟩
        rintro σ' HD ⟨v, rfl, sD, wv⟩
        have sCD := sB.trans (sC.trans sD)
        have ecD := sCD _ _ ec
        have ehD := sD _ _ eh
        have eoD := sCD _ _ (sA _ _ eo9)
        have slD := SL.ts (TS.of sD) slC
        refine ⟨fun σ' H' => σ' = [some (.ref a1), some (.int m), some (.int (n : Int)), some (.ref o), some (.ref d), some (.int p1), some (.int p2), some (.ref c), some (.int (0 + (j : Int))), some (.ref h), some v, none] ∧ H' = HD, ?_, ?_⟩
        · refine ⟨.ref h, rfl, .ref o, rfl, _, _, .lst (.inl (.inl ehD)) (SL.dp slD), .lst (.inl (.inl eoD)) (SL.dp slD), shapedSy _, shapedSy _, _, rfl, ?_⟩
          rw [SeqAt.eqv_refl _ (show PyData.canLay0 (.list (ss.map syD)) = true from canSy ss)]
          refine iteF ?_
          refine ⟨v, rfl, rfl, .int p2, rfl, .ref c, rfl, c, _, rfl, DGet.k (k := Sum.inl p2) ecD, rfl, _, rfl, ?_⟩
          rcases wv with ⟨rfl, no⟩ | ⟨l, ys, sts, rfl, _, _, _, _, dz, _⟩
          · rcases fan p2 with z | ⟨m, z⟩
            · rw [z]; exact iteF ⟨rfl, rfl⟩
            · exact absurd z (no m)
          · rw [(far p2 _).mp dz]; exact iteF ⟨rfl, rfl⟩
        rintro σ' HE ⟨rfl, eH⟩
        subst eH
        rcases wv with ⟨rfl, no⟩ | ⟨l, ys, sts, rfl, nl, el, pl, ld, dz, sh⟩
        · refine ⟨.non, rfl, rfl, _, rfl, ?_⟩
          exact iteF ⟨_, _, _, rfl, sCD⟩
        refine ⟨.ref l, rfl, rfl, _, rfl, ?_⟩
        refine iteT ?_
        have vfar := (far p2 _).mp dz
        refine ⟨fun σ' H' => σ' = [some (.ref a1), some (.int m), some (.int (n : Int)), some (.ref o), some (.ref d), some (.int p1), some (.int p2), some (.ref c), some (.int (0 + (j : Int))), some (.ref h), some (.ref l), none] ∧ Same HE H', ?_, ?_⟩
        · have tl := (PL.dt (n := 3) pl el (by omega)).ty (K := K)
          refine ⟨.ref l, rfl, _, _, _, _, true, rfl, .ty _, tl, kit_ty (show kitB "list" "list" = some true by decide +kernel), ?_⟩
          refine ⟨true, rfl, iteF ?_⟩
          refine ⟨.ref l, rfl, l, _, rfl, .inl (.inl (.inl el)), .ref c, rfl, .int p2, rfl, c, _, rfl, vfar ▸ DGet.k (k := Sum.inl p2) ecD, rfl, false, congrArg V.bl (show (!decide (V.int (ys.length : Int) = V.int (sts.length : Int))) = false by rw [pl.len, decide_eq_true rfl]; rfl), ?_⟩
          refine iteF ?_
          exact ⟨.ref o, rfl, .ref l, rfl, .int p1, rfl, .int p2, rfl, o, l, xs, ys, ss, sts, p1, p2, rfl, .inl (.inl eoD), slD, .inl (.inl el), pl, ld, fun HF sF => ⟨true, rfl, iteF ⟨rfl, sF⟩⟩⟩
        rintro σ' HF ⟨rfl, sF⟩
        have ehF := sF _ _ ehD
        have elF := sF _ _ el
        have slF := SL.ts (TS.of sF) slD
        have plF := PL.ts (TS.of sF) pl
        refine ⟨fun σ' H' => σ' = [some (.ref a1), some (.int m), some (.int (n : Int)), some (.ref o), some (.ref d), some (.int p1), some (.int p2), some (.ref c), some (.int (0 + (j : Int))), some (.ref h), some (.ref l), none] ∧ Same HF H', ?_, ?_⟩
        · refine ⟨.int (n : Int), rfl, .ref h, rfl, .int p1, rfl, .ref l, rfl, l, ys, rfl, .inl (.inl (.inl elF)), ?_⟩
          intro l9 n_l9
          generalize e_l9 : upd HF l9 _ = HG
          have sG := new_same e_l9 n_l9
          have zG := new_at e_l9
          clear e_l9
          refine ⟨(n : Int), p1, h, l9, xs, ys, ss, sts, rfl, .inl (.inl (sG _ _ ehF)), SL.ts (TS.of sG) slF, gd, by omega, nB, .inl (.inl zG), PL.ts (TS.of sG) plF, fun _ HH sH => ?_, fun z => z ⟨a0, a1'⟩⟩
          rw [ld]
          exact ⟨.int p2, rfl, .int p2, .int p2, _, rfl, .int p2, .int p2, fun HI sI => ⟨true, rfl, iteF ⟨rfl, sG.trans (sH.trans sI)⟩⟩⟩
        rintro σ' HG ⟨rfl, sG⟩
        have elG := sG _ _ elF
        refine ⟨.ref l, rfl, .inl ⟨rfl, _, .inl (.inl elG)⟩, ?_⟩
        refine ⟨szN 2 rfl, fun t9 n_t9 => ?_⟩
        generalize e_t9 : upd HG t9 _ = HH
        have sH := new_same e_t9 n_t9
        have zH := new_at e_t9
        clear e_t9
        have elH := sH _ _ elG
        have nlA : HA l = none := Same.free (sB.trans sC) nl
        refine ⟨l, _, _, rfl, rfl, elH, ?_, _, _, _, rfl, same_over (sCD.trans (sF.trans (sG.trans sH))) nlA⟩
        rw [pl.len]
        exact Nat.lt_of_le_of_lt sh (by decide)
      · obtain ⟨y8, y9, y10, rfl, sB⟩ := hP
        exact ⟨_, _, _, _, _, _, rfl, s9.trans (sA.trans sB)⟩
    · obtain ⟨y5, y6, y7, y8, y9, y10, rfl, s9⟩ := hP
      exact ⟨_, _, _, _, _, _, rfl, s48.trans s9⟩
  rintro σ' H5 ⟨y5, y6, y7, y8, y9, y10, rfl, s5⟩
  have e15 := s5 _ _ e1
  refine ⟨fun σ' H' => ∃ fr : Int, σ' = [some (.ref a1), some (.int m), some (.int (n : Int)), some (.ref o), some (.ref d), y5, y6, some (.int fr), y8, y9, y10, none] ∧ Same H5 H' ∧ 0 ≤ fr, ?_, ?_⟩
  · refine ⟨.ref a1, rfl, 10, 40, rfl, rfl, p40, ?_⟩
    refine ⟨szN 1 rfl, fun l1 n_l1 => ?_⟩
    generalize e_l1 : upd H5 l1 _ = H6
    have s6 := new_same e_l1 n_l1
    have z6 := new_at e_l1
    clear e_l1
    refine ⟨a1, l1, ns, [(10 : Int) ^ (40 : Int).toNat], 30, rfl, .inl (.inl (s6 _ _ e15)), h63, .inl (.inl z6), by show 1 ≤ 1000; decide, dgc dgT dg0, fun H7 pd s7 np ep => ?_⟩
    have pp := pT
    generalize rawF ns 30 = ra_ at ep
    generalize (10 : Int) ^ (40 : Int).toNat = TT at ep pp
    have ep : H7 pd = some (.lst [.int (ra_ % TT)]) := ep
    exact ⟨pd, _, 0, _, rfl, rfl, .inl (.inl ep), rfl, _, rfl, s6.trans s7, Int.emod_nonneg _ (by omega)⟩
  rintro σ' H6 ⟨fr, rfl, s6, f0⟩
  have s46 := s5.trans s6
  have eo6 := s46 _ _ eo
  have sl6 := SL.ts (TS.of s46) sl
  refine ⟨fun σ' H' => True, ?_, fun σ' H' _ => q _⟩
  refine ⟨1, rfl, .int (n : Int), rfl, .int (n : Int), rfl, .int fr, rfl, _, _, rfl, rfl, 1, rfl, .int fr, rfl, _, _, rfl, rfl, ?_⟩
  refine ⟨szN 4 rfl, fun t n_t => ?_⟩
  generalize e_t : upd H6 t _ = H7
  have s7 := new_same e_t n_t
  have z7 := new_at e_t
  clear e_t
  refine ⟨t, rfl, ⟨_, .inl (.inl z7)⟩, for_tup (xs := [.int (-1), .int (n : Int), .int ((n : Int) + fr), .int (-1 - fr)]) (fun j σ' H' => ∃ y11, σ' = [some (.ref a1), some (.int m), some (.int (n : Int)), some (.ref o), some (.ref d), y5, y6, some (.int fr), y8, y9, y10, y11] ∧ Same H7 H') ⟨_, rfl, Same.refl _⟩ (fun j σ' H' _ hP => ?_) (fun j v σ' H8 hv hP => ?_) (fun σ' H8 hP => trivial)⟩
  · obtain ⟨_, _, sm⟩ := hP
    exact .inl (.inl (sm _ _ z7))
  · obtain ⟨y11, rfl, s8⟩ := hP
    have hx : ∃ x : Int, v = .int x ∧ ¬ (0 ≤ x ∧ x < (n : Int)) := by
      match j, hv with
      | 0, hv => cases hv; exact ⟨_, rfl, by omega⟩
      | 1, hv => cases hv; exact ⟨_, rfl, by omega⟩
      | 2, hv => cases hv; exact ⟨_, rfl, by omega⟩
      | 3, hv => cases hv; exact ⟨_, rfl, by omega⟩
      | j + 4, hv => simp at hv
    obtain ⟨x, rfl, nx⟩ := hx
    have s68 := s7.trans s8
    refine ⟨.int (n : Int), rfl, .ref o, rfl, .int x, rfl, o, xs, ss, x, 0, n, rfl, .inl (.inl (s68 _ _ eo6)), SL.ts (TS.of s68) sl6, gd, by omega, by omega, fun z => nx ⟨z.1, z.2.1⟩, fun H9 s9 => ⟨true, rfl, iteF ?_⟩⟩
    have s69 := s68.trans s9
    exact ⟨.int (n : Int), rfl, .ref o, rfl, .int x, rfl, o, xs, ss, 0, x, n, rfl, .inl (.inl (s69 _ _ eo6)), SL.ts (TS.of s69) sl6, gd, by omega, by omega, fun z => nx ⟨z.2.2.1, z.2.2.2⟩, fun HA sA => ⟨true, rfl, iteF ⟨_, rfl, s8.trans (s9.trans sA)⟩⟩⟩

end
end Rep
namespace Rep
open PySem PySem.Spec PyProof.Rows L2
/-- the end of a law with tables, from what the head knows of the top -/
theorem walk_top {l : PySem.W.OpenLaw} {n k : Nat} {q : Program} {loose : List Str} {XP : (Str → Option Value) → Heap → Prop} {YP : World → Heap → Prop} {d : DefRec} {K : Params → PySem.W.Frag} {CX : World → CXT} {x : Str}
    (hn : l.most = some n) (hn2 : n ≤ sizeLine) (hdf : d.params.defaults = []) (hr : Room k callerA) (hY : ∀ (w : World) (h : Heap), YP w h → (K w.params).In h)
    (F : ∀ (w : World) (mg mb : Str → Option Value) (mean : ExcName → Option Value) (fa : Addr) (h : Heap), (K w.params).In h → Top q (PySem.W.looseW q loose) mean mg mb h → mg d.name = some (.ref fa) → LamX.LawAtS l w (K w.params) (CX w) k n x mg fa h)
    (hCX : ∀ (w : World) (H : Hp) (s : Shared) (e : Value) (s' : Shared), CX w [] H s (fun _ _ _ => False) e s' → False) :
    PySem.W.WalkO q loose XP YP l.row.toRowW d [] (fun f vs => PySem.call f vs) := by
  refine Att.attach_callB hn hdf fun w s₀ s₁ mg mb fa o pm cd doc a vs ns G Y ho hd hcd hmg hobj hints hlen hbits hg => ?_
  have KX := hY w _ Y
  obtain ⟨fd, cs, sp, hT, nT, C, hb, hsp, hF⟩ := F w mg mb _ fa _ KX G.T hmg
  exact LamX.law_callTs KX G.T.g G.T.b G.T.builtins G.T.nolimit hg hT nT C G.T.bmain hobj hints (Nat.le_trans hlen hn2) hr hF hb (fun H hH hS => hsp H a ns hlen hbits hH hS) fun H e s' => hCX w H s₁ e s'
theorem no_tab {K : PySem.W.Frag} {h : Heap} {P : Addr} (X : K.In h) (hK : PySem.W.noTabs K = true) (hP : h.get? P = some (PySem.W.tabObj #[])) : K.lookup P = none := by
  cases e : K.lookup P with
  | none => rfl
  | some o =>
    have e1 := X P o e
    rw [hP] at e1
    cases e1
    have h2 := List.all_eq_true.mp hK (P, _) (PySem.W.mem_of_lookupK e)
    exact absurd (show false = true from h2) Bool.false_ne_true
end Rep
namespace Rep
open PySem PySem.Spec PyProof.Rows L2 L2H RepHot
theorem all_mk {l : PySem.W.OpenLaw} {w : World} {K : PySem.W.Frag} {h : Heap} {q : Program} {loose : List Str} {mean : ExcName → Option Value} {mg mb : Str → Option Value} {fa f1 f2 f3 f4 f5 f6 f7 f8 f9 f10 f11 f12 f13 f14 f15 f16 f17 f18 f19 f20 f21 f22 f23 f24 f25 f26 C_BadLength C_BadStretch C_NoPlace C_NoNumber C_BadLetter C_Full C_InUse C_NothingLeft C_BadPage C_RepriseError : Addr} (X : K.In h) (TT : Top q loose mean mg mb h) (hfa : mg "law" = some (.ref fa))
    {od1 an1 od2 an2 od3 an3 od4 an4 od5 an5 od6 an6 od7 an7 od8 an8 od9 an9 od10 an10 od11 an11 od12 an12 od13 an13 od14 an14 od15 an15 od16 an16 od17 an17 od18 an18 od19 an19 od20 an20 od21 an21 od22 an22 od23 an23 od24 an24 od25 an25 od26 an26 : Option Addr} {sl1 sl2 sl3 sl4 sl5 sl6 sl7 sl8 sl9 sl10 sl11 sl12 sl13 sl14 sl15 sl16 sl17 sl18 sl19 sl20 sl21 sl22 sl23 sl24 sl25 sl26 : Array (Option Value)} {oc1 kV1 dc1 pm1 cd1 ct1 oc2 kV2 dc2 pm2 cd2 ct2 oc3 kV3 dc3 pm3 cd3 ct3 oc4 kV4 dc4 pm4 cd4 ct4 oc5 kV5 dc5 pm5 cd5 ct5 oc6 kV6 dc6 pm6 cd6 ct6 oc7 kV7 dc7 pm7 cd7 ct7 oc8 kV8 dc8 pm8 cd8 ct8 oc9 kV9 dc9 pm9 cd9 ct9 oc10 kV10 dc10 pm10 cd10 ct10 oc11 kV11 dc11 pm11 cd11 ct11 oc12 kV12 dc12 pm12 cd12 ct12 oc13 kV13 dc13 pm13 cd13 ct13 oc14 kV14 dc14 pm14 cd14 ct14 oc15 kV15 dc15 pm15 cd15 ct15 oc16 kV16 dc16 pm16 cd16 ct16 oc17 kV17 dc17 pm17 cd17 ct17 oc18 kV18 dc18 pm18 cd18 ct18 oc19 kV19 dc19 pm19 cd19 ct19 oc20 kV20 dc20 pm20 cd20 ct20 oc21 kV21 dc21 pm21 cd21 ct21 oc22 kV22 dc22 pm22 cd22 ct22 oc23 kV23 dc23 pm23 cd23 ct23 oc24 kV24 dc24 pm24 cd24 ct24 oc25 kV25 dc25 pm25 cd25 ct25 oc26 kV26 dc26 pm26 cd26 ct26 v_TOO_LONG : Value}
    (aC_BadLength : PySem.W.nsIn K mainGlobals "BadLength" = some (some (.ref C_BadLength)))
    (aC_BadStretch : PySem.W.nsIn K mainGlobals "BadStretch" = some (some (.ref C_BadStretch)))
    (aC_NoPlace : PySem.W.nsIn K mainGlobals "NoPlace" = some (some (.ref C_NoPlace)))
    (aC_NoNumber : PySem.W.nsIn K mainGlobals "NoNumber" = some (some (.ref C_NoNumber)))
    (aC_BadLetter : PySem.W.nsIn K mainGlobals "BadLetter" = some (some (.ref C_BadLetter)))
    (aC_Full : PySem.W.nsIn K mainGlobals "Full" = some (some (.ref C_Full)))
    (aC_InUse : PySem.W.nsIn K mainGlobals "InUse" = some (some (.ref C_InUse)))
    (aC_NothingLeft : PySem.W.nsIn K mainGlobals "NothingLeft" = some (some (.ref C_NothingLeft)))
    (aC_BadPage : PySem.W.nsIn K mainGlobals "BadPage" = some (some (.ref C_BadPage)))
    (aC_RepriseError : PySem.W.nsIn K mainGlobals "RepriseError" = some (some (.ref C_RepriseError)))
    (a1 : PySem.W.nsIn K mainGlobals "check_length" = some (some (.ref f1)))
    (l1 : K.lookup f1 = some ⟨oc1, od1, .func (PySem.W.fnOf "check_length" "check_length" (defArgs sCheck_length) (defBody sCheck_length) (defScope sCheck_length) .none kV1 dc1 pm1 an1 cd1 ct1), sl1⟩)
    (c1 : PySem.W.codeIn K cd1 "check_length" = true)
    (k1 : PySem.W.keepIn K (.ref f1) = true)
    (a2 : PySem.W.nsIn K mainGlobals "check_place" = some (some (.ref f2)))
    (l2 : K.lookup f2 = some ⟨oc2, od2, .func (PySem.W.fnOf "check_place" "check_place" (defArgs sCheck_place) (defBody sCheck_place) (defScope sCheck_place) .none kV2 dc2 pm2 an2 cd2 ct2), sl2⟩)
    (c2 : PySem.W.codeIn K cd2 "check_place" = true)
    (k2 : PySem.W.keepIn K (.ref f2) = true)
    (a3 : PySem.W.nsIn K mainGlobals "check_stretch" = some (some (.ref f3)))
    (l3 : K.lookup f3 = some ⟨oc3, od3, .func (PySem.W.fnOf "check_stretch" "check_stretch" (defArgs sCheck_stretch) (defBody sCheck_stretch) (defScope sCheck_stretch) .none kV3 dc3 pm3 an3 cd3 ct3), sl3⟩)
    (c3 : PySem.W.codeIn K cd3 "check_stretch" = true)
    (k3 : PySem.W.keepIn K (.ref f3) = true)
    (a4 : PySem.W.nsIn K mainGlobals "check_sayings" = some (some (.ref f4)))
    (l4 : K.lookup f4 = some ⟨oc4, od4, .func (PySem.W.fnOf "check_sayings" "check_sayings" (defArgs sCheck_sayings) (defBody sCheck_sayings) (defScope sCheck_sayings) .none kV4 dc4 pm4 an4 cd4 ct4), sl4⟩)
    (c4 : PySem.W.codeIn K cd4 "check_sayings" = true)
    (k4 : PySem.W.keepIn K (.ref f4) = true)
    (a5 : PySem.W.nsIn K mainGlobals "met" = some (some (.ref f5)))
    (l5 : K.lookup f5 = some ⟨oc5, od5, .func (PySem.W.fnOf "met" "met" (defArgs sMet) (defBody sMet) (defScope sMet) .none kV5 dc5 pm5 an5 cd5 ct5), sl5⟩)
    (c5 : PySem.W.codeIn K cd5 "met" = true)
    (k5 : PySem.W.keepIn K (.ref f5) = true)
    (a6 : PySem.W.nsIn K mainGlobals "beside" = some (some (.ref f6)))
    (l6 : K.lookup f6 = some ⟨oc6, od6, .func (PySem.W.fnOf "beside" "beside" (defArgs sBeside) (defBody sBeside) (defScope sBeside) .none kV6 dc6 pm6 an6 cd6 ct6), sl6⟩)
    (c6 : PySem.W.codeIn K cd6 "beside" = true)
    (k6 : PySem.W.keepIn K (.ref f6) = true)
    (a7 : PySem.W.nsIn K mainGlobals "came_from" = some (some (.ref f7)))
    (l7 : K.lookup f7 = some ⟨oc7, od7, .func (PySem.W.fnOf "came_from" "came_from" (defArgs sCame_from) (defBody sCame_from) (defScope sCame_from) .none kV7 dc7 pm7 an7 cd7 ct7), sl7⟩)
    (c7 : PySem.W.codeIn K cd7 "came_from" = true)
    (k7 : PySem.W.keepIn K (.ref f7) = true)
    (a8 : PySem.W.nsIn K mainGlobals "path" = some (some (.ref f8)))
    (l8 : K.lookup f8 = some ⟨oc8, od8, .func (PySem.W.fnOf "path" "path" (defArgs sPath) (defBody sPath) (defScope sPath) .none kV8 dc8 pm8 an8 cd8 ct8), sl8⟩)
    (c8 : PySem.W.codeIn K cd8 "path" = true)
    (k8 : PySem.W.keepIn K (.ref f8) = true)
    (a9 : PySem.W.nsIn K mainGlobals "leads" = some (some (.ref f9)))
    (l9 : K.lookup f9 = some ⟨oc9, od9, .func (PySem.W.fnOf "leads" "leads" (defArgs sLeads) (defBody sLeads) (defScope sLeads) .none kV9 dc9 pm9 an9 cd9 ct9), sl9⟩)
    (c9 : PySem.W.codeIn K cd9 "leads" = true)
    (k9 : PySem.W.keepIn K (.ref f9) = true)
    (a10 : PySem.W.nsIn K mainGlobals "_law_same" = some (some (.ref f10)))
    (l10 : K.lookup f10 = some ⟨oc10, od10, .func (PySem.W.fnOf "_law_same" "_law_same" (defArgs sSame) (defBody sSame) (defScope sSame) .none kV10 dc10 pm10 an10 cd10 ct10), sl10⟩)
    (c10 : PySem.W.codeIn K cd10 "_law_same" = true)
    (k10 : PySem.W.keepIn K (.ref f10) = true)
    (a11 : PySem.W.nsIn K mainGlobals "_law_lays" = some (some (.ref f11)))
    (l11 : K.lookup f11 = some ⟨oc11, od11, .func (PySem.W.fnOf "_law_lays" "_law_lays" (defArgs s_law_lays) (defBody s_law_lays) (defScope s_law_lays) .none kV11 dc11 pm11 an11 cd11 ct11), sl11⟩)
    (c11 : PySem.W.codeIn K cd11 "_law_lays" = true)
    (k11 : PySem.W.keepIn K (.ref f11) = true)
    (a12 : PySem.W.nsIn K mainGlobals "_law_kin" = some (some (.ref f12)))
    (l12 : K.lookup f12 = some ⟨oc12, od12, .func (PySem.W.fnOf "_law_kin" "_law_kin" (defArgs s_law_kin) (defBody s_law_kin) (defScope s_law_kin) .none kV12 dc12 pm12 an12 cd12 ct12), sl12⟩)
    (c12 : PySem.W.codeIn K cd12 "_law_kin" = true)
    (k12 : PySem.W.keepIn K (.ref f12) = true)
    (a13 : PySem.W.nsIn K mainGlobals "_law_mix" = some (some (.ref f13)))
    (l13 : K.lookup f13 = some ⟨oc13, od13, .func (PySem.W.fnOf "_law_mix" "_law_mix" (defArgs sMix) (defBody sMix) (defScope sMix) .none kV13 dc13 pm13 an13 cd13 ct13), sl13⟩)
    (c13 : PySem.W.codeIn K cd13 "_law_mix" = true)
    (k13 : PySem.W.keepIn K (.ref f13) = true)
    (a14 : PySem.W.nsIn K mainGlobals "_law_raw" = some (some (.ref f14)))
    (l14 : K.lookup f14 = some ⟨oc14, od14, .func (PySem.W.fnOf "_law_raw" "_law_raw" (defArgs sRaw) (defBody sRaw) (defScope sRaw) .none kV14 dc14 pm14 an14 cd14 ct14), sl14⟩)
    (c14 : PySem.W.codeIn K cd14 "_law_raw" = true)
    (k14 : PySem.W.keepIn K (.ref f14) = true)
    (a15 : PySem.W.nsIn K mainGlobals "_law_digits" = some (some (.ref f15)))
    (l15 : K.lookup f15 = some ⟨oc15, od15, .func (PySem.W.fnOf "_law_digits" "_law_digits" (defArgs sDig) (defBody sDig) (defScope sDig) .none kV15 dc15 pm15 an15 cd15 ct15), sl15⟩)
    (c15 : PySem.W.codeIn K cd15 "_law_digits" = true)
    (k15 : PySem.W.keepIn K (.ref f15) = true)
    (a16 : PySem.W.nsIn K mainGlobals "_law_saying" = some (some (.ref f16)))
    (l16 : K.lookup f16 = some ⟨oc16, od16, .func (PySem.W.fnOf "_law_saying" "_law_saying" (defArgs s_law_saying) (defBody s_law_saying) (defScope s_law_saying) .none kV16 dc16 pm16 an16 cd16 ct16), sl16⟩)
    (c16 : PySem.W.codeIn K cd16 "_law_saying" = true)
    (k16 : PySem.W.keepIn K (.ref f16) = true)
    (a17 : PySem.W.nsIn K mainGlobals "_law_sayings" = some (some (.ref f17)))
    (l17 : K.lookup f17 = some ⟨oc17, od17, .func (PySem.W.fnOf "_law_sayings" "_law_sayings" (defArgs s_law_sayings) (defBody s_law_sayings) (defScope s_law_sayings) .none kV17 dc17 pm17 an17 cd17 ct17), sl17⟩)
    (c17 : PySem.W.codeIn K cd17 "_law_sayings" = true)
    (k17 : PySem.W.keepIn K (.ref f17) = true)
    (a18 : PySem.W.nsIn K mainGlobals "_law_crowded_song" = some (some (.ref f18)))
    (l18 : K.lookup f18 = some ⟨oc18, od18, .func (PySem.W.fnOf "_law_crowded_song" "_law_crowded_song" (defArgs s_law_crowded_song) (defBody s_law_crowded_song) (defScope s_law_crowded_song) .none kV18 dc18 pm18 an18 cd18 ct18), sl18⟩)
    (c18 : PySem.W.codeIn K cd18 "_law_crowded_song" = true)
    (k18 : PySem.W.keepIn K (.ref f18) = true)
    (a19 : PySem.W.nsIn K mainGlobals "_law_heads" = some (some (.ref f19)))
    (l19 : K.lookup f19 = some ⟨oc19, od19, .func (PySem.W.fnOf "_law_heads" "_law_heads" (defArgs s_law_heads) (defBody s_law_heads) (defScope s_law_heads) .none kV19 dc19 pm19 an19 cd19 ct19), sl19⟩)
    (c19 : PySem.W.codeIn K cd19 "_law_heads" = true)
    (k19 : PySem.W.keepIn K (.ref f19) = true)
    (a20 : PySem.W.nsIn K mainGlobals "_law_partners" = some (some (.ref f20)))
    (l20 : K.lookup f20 = some ⟨oc20, od20, .func (PySem.W.fnOf "_law_partners" "_law_partners" (defArgs s_law_partners) (defBody s_law_partners) (defScope s_law_partners) .none kV20 dc20 pm20 an20 cd20 ct20), sl20⟩)
    (c20 : PySem.W.codeIn K cd20 "_law_partners" = true)
    (k20 : PySem.W.keepIn K (.ref f20) = true)
    (a21 : PySem.W.nsIn K mainGlobals "_law_firsts" = some (some (.ref f21)))
    (l21 : K.lookup f21 = some ⟨oc21, od21, .func (PySem.W.fnOf "_law_firsts" "_law_firsts" (defArgs s_law_firsts) (defBody s_law_firsts) (defScope s_law_firsts) .none kV21 dc21 pm21 an21 cd21 ct21), sl21⟩)
    (c21 : PySem.W.codeIn K cd21 "_law_firsts" = true)
    (k21 : PySem.W.keepIn K (.ref f21) = true)
    (a22 : PySem.W.nsIn K mainGlobals "_law_alike_pairs" = some (some (.ref f22)))
    (l22 : K.lookup f22 = some ⟨oc22, od22, .func (PySem.W.fnOf "_law_alike_pairs" "_law_alike_pairs" (defArgs s_law_alike_pairs) (defBody s_law_alike_pairs) (defScope s_law_alike_pairs) .none kV22 dc22 pm22 an22 cd22 ct22), sl22⟩)
    (c22 : PySem.W.codeIn K cd22 "_law_alike_pairs" = true)
    (k22 : PySem.W.keepIn K (.ref f22) = true)
    (a23 : PySem.W.nsIn K mainGlobals "_law_reach" = some (some (.ref f23)))
    (l23 : K.lookup f23 = some ⟨oc23, od23, .func (PySem.W.fnOf "_law_reach" "_law_reach" (defArgs s_law_reach) (defBody s_law_reach) (defScope s_law_reach) .none kV23 dc23 pm23 an23 cd23 ct23), sl23⟩)
    (c23 : PySem.W.codeIn K cd23 "_law_reach" = true)
    (k23 : PySem.W.keepIn K (.ref f23) = true)
    (a24 : PySem.W.nsIn K mainGlobals "_law_walked" = some (some (.ref f24)))
    (l24 : K.lookup f24 = some ⟨oc24, od24, .func (PySem.W.fnOf "_law_walked" "_law_walked" (defArgs s_law_walked) (defBody s_law_walked) (defScope s_law_walked) .none kV24 dc24 pm24 an24 cd24 ct24), sl24⟩)
    (c24 : PySem.W.codeIn K cd24 "_law_walked" = true)
    (k24 : PySem.W.keepIn K (.ref f24) = true)
    (a25 : PySem.W.nsIn K mainGlobals "_law_refused" = some (some (.ref f25)))
    (l25 : K.lookup f25 = some ⟨oc25, od25, .func (PySem.W.fnOf "_law_refused" "_law_refused" (defArgs s_law_refused) (defBody s_law_refused) (defScope s_law_refused) .none kV25 dc25 pm25 an25 cd25 ct25), sl25⟩)
    (c25 : PySem.W.codeIn K cd25 "_law_refused" = true)
    (k25 : PySem.W.keepIn K (.ref f25) = true)
    (a26 : PySem.W.nsIn K mainGlobals "law" = some (some (.ref f26)))
    (l26 : K.lookup f26 = some ⟨oc26, od26, .func (PySem.W.fnOf "law" "law" (defArgs sLaw) (defBody sLaw) (defScope sLaw) .none kV26 dc26 pm26 an26 cd26 ct26), sl26⟩)
    (c26 : PySem.W.codeIn K cd26 "law" = true)
    (k26 : PySem.W.keepIn K (.ref f26) = true)
    (aI_TOO_LONG : PySem.W.nsIn K mainGlobals "TOO_LONG" = some (some v_TOO_LONG))
    (y_len : PySem.W.nsIn K mainGlobals "len" = some none)
    (y_range : PySem.W.nsIn K mainGlobals "range" = some none)
    (y_list : PySem.W.nsIn K mainGlobals "list" = some none)
    (y_isinstance : PySem.W.nsIn K mainGlobals "isinstance" = some none)
    (y_bool : PySem.W.nsIn K mainGlobals "bool" = some none)
    (y_int : PySem.W.nsIn K mainGlobals "int" = some none)
    (y_tuple : PySem.W.nsIn K mainGlobals "tuple" = some none)
    (y_str : PySem.W.nsIn K mainGlobals "str" = some none)
    (y_all : PySem.W.nsIn K mainGlobals "all" = some none)
    (y_zip : PySem.W.nsIn K mainGlobals "zip" = some none)
    (y_min : PySem.W.nsIn K mainGlobals "min" = some none)
    (y_max : PySem.W.nsIn K mainGlobals "max" = some none)
    (y_enumerate : PySem.W.nsIn K mainGlobals "enumerate" = some none)
    (y_ValueError : PySem.W.nsIn K mainGlobals "ValueError" = some none)
    (r_TOO_LONG : RelV (.int (10 ^ 40)) v_TOO_LONG)
    (re_b : PySem.W.subIn K (.ref C_RepriseError) (.type "BaseException") = some true)
    (re_d : PySem.W.hasDictIn K C_RepriseError = true)
    (re_t : PySem.W.typeIn K (.ref C_RepriseError) = some (.type "type"))
    (x_NoPlace : PySem.W.excIn K C_NoPlace [.type "ValueError", .type "Exception", .type "BaseException", .type "object"] "ValueError.__new__" = true)
    (k_NoPlace : PySem.W.keepIn K (.ref C_NoPlace) = true)
    (b_NoPlace : PySem.W.subIn K (.ref C_NoPlace) (.type "BaseException") = some true)
    (t_NoPlace : PySem.W.typeIn K (.ref C_NoPlace) = some (.type "type"))
    (s_NoPlace : PySem.W.subIn K (.ref C_NoPlace) (.ref C_RepriseError) = some true)
    (e1_NoPlace : PySem.W.findIn K (.ref C_NoPlace) "__getattribute__" = some (some (.builtin "BaseException.__getattribute__")))
    (e2_NoPlace : PySem.W.findIn K (.ref C_NoPlace) "__getattr__" = some none)
    (e4_NoPlace : PySem.W.hasDictIn K C_NoPlace = true)
    (e5_NoPlace : PySem.W.findIn K (.ref C_NoPlace) "__class__" = some (some (.builtin "object.__class__")))
    (e8_NoPlace : PySem.W.mroIn K C_NoPlace (.type "object") = some true)
    (q0_NoPlace : PySem.W.kitOne K (.ref C_NoPlace) (.ref C_BadLength) = some false)
    (q1_NoPlace : PySem.W.kitOne K (.ref C_NoPlace) (.ref C_BadStretch) = some false)
    (q2_NoPlace : PySem.W.kitOne K (.ref C_NoPlace) (.ref C_NoPlace) = some true)
    (q3_NoPlace : PySem.W.kitOne K (.ref C_NoPlace) (.ref C_NoNumber) = some false)
    (q4_NoPlace : PySem.W.kitOne K (.ref C_NoPlace) (.ref C_BadLetter) = some false)
    (q5_NoPlace : PySem.W.kitOne K (.ref C_NoPlace) (.ref C_Full) = some false)
    (q6_NoPlace : PySem.W.kitOne K (.ref C_NoPlace) (.ref C_InUse) = some false)
    (q7_NoPlace : PySem.W.kitOne K (.ref C_NoPlace) (.ref C_NothingLeft) = some false)
    (q8_NoPlace : PySem.W.kitOne K (.ref C_NoPlace) (.ref C_BadPage) = some false)
    (qV_NoPlace : PySem.W.kitOne K (.ref C_NoPlace) (.type "ValueError") = some true)
    (e6_all : PySem.W.specialIn K (.builtin "object.__class__") "__get__" = some (some (.builtin "getset_descriptor.__get__")))
    (e7_all : PySem.W.takesIn K (.builtin "object.__class__") = some true)
    : LamX.LawAtS l w K CX0 11 63 "_law_script" mg fa h := by
  have G := TT.g
  have e := hfa.symm.trans (PySem.W.mg_of X G a26)
  cases e
  have F1 := fun_mk (st := sCheck_length) l1 c1 k1
  have g1 := PySem.W.mg_of X G a1
  have b1 := F1.binds (ps := ["length"]) fun _ _ _ _ _ _ us hl => match us, hl with | [_], _ => rfl
  have F2 := fun_mk (st := sCheck_place) l2 c2 k2
  have g2 := PySem.W.mg_of X G a2
  have b2 := F2.binds (ps := ["length", "place"]) fun _ _ _ _ _ _ us hl => match us, hl with | [_, _], _ => rfl
  have F3 := fun_mk (st := sCheck_stretch) l3 c3 k3
  have g3 := PySem.W.mg_of X G a3
  have b3 := F3.binds (ps := ["length", "at", "many"]) fun _ _ _ _ _ _ us hl => match us, hl with | [_, _, _], _ => rfl
  have F4 := fun_mk (st := sCheck_sayings) l4 c4 k4
  have g4 := PySem.W.mg_of X G a4
  have b4 := F4.binds (ps := ["length", "sayings"]) fun _ _ _ _ _ _ us hl => match us, hl with | [_, _], _ => rfl
  have F5 := fun_mk (st := sMet) l5 c5 k5
  have g5 := PySem.W.mg_of X G a5
  have b5 := F5.binds (ps := ["saying", "i"]) fun _ _ _ _ _ _ us hl => match us, hl with | [_, _], _ => rfl
  have F6 := fun_mk (st := sBeside) l6 c6 k6
  have g6 := PySem.W.mg_of X G a6
  have b6 := F6.binds (ps := ["saying", "place"]) fun _ _ _ _ _ _ us hl => match us, hl with | [_, _], _ => rfl
  have F7 := fun_mk (st := sCame_from) l7 c7 k7
  have g7 := PySem.W.mg_of X G a7
  have b7 := F7.binds (ps := ["sayings", "one"]) fun _ _ _ _ _ _ us hl => match us, hl with | [_, _], _ => rfl
  have F8 := fun_mk (st := sPath) l8 c8 k8
  have g8 := PySem.W.mg_of X G a8
  have b8 := F8.binds (ps := ["length", "sayings", "one", "other"]) fun _ _ _ _ _ _ us hl => match us, hl with | [_, _, _, _], _ => rfl
  have F9 := fun_mk (st := sLeads) l9 c9 k9
  have g9 := PySem.W.mg_of X G a9
  have b9 := F9.binds (ps := ["length", "sayings", "one", "steps"]) fun _ _ _ _ _ _ us hl => match us, hl with | [_, _, _, _], _ => rfl
  have F10 := fun_mk (st := sSame) l10 c10 k10
  have g10 := PySem.W.mg_of X G a10
  have b10 := F10.binds (ps := ["_law_told", "_law_due"]) fun _ _ _ _ _ _ us hl => match us, hl with | [_, _], _ => rfl
  have F11 := fun_mk (st := s_law_lays) l11 c11 k11
  have g11 := PySem.W.mg_of X G a11
  have b11 := F11.binds (ps := ["_law_saying_here", "_law_here", "_law_to"]) fun _ _ _ _ _ _ us hl => match us, hl with | [_, _, _], _ => rfl
  have F12 := fun_mk (st := s_law_kin) l12 c12 k12
  have g12 := PySem.W.mg_of X G a12
  have b12 := F12.binds (ps := ["_law_e"]) fun _ _ _ _ _ _ us hl => match us, hl with | [_], _ => rfl
  have F13 := fun_mk (st := sMix) l13 c13 k13
  have g13 := PySem.W.mg_of X G a13
  have b13 := F13.binds (ps := ["_law_seed"]) fun _ _ _ _ _ _ us hl => match us, hl with | [_], _ => rfl
  have F14 := fun_mk (st := sRaw) l14 c14 k14
  have g14 := PySem.W.mg_of X G a14
  have b14 := F14.binds (ps := ["_law_script", "_law_k"]) fun _ _ _ _ _ _ us hl => match us, hl with | [_, _], _ => rfl
  have F15 := fun_mk (st := sDig) l15 c15 k15
  have g15 := PySem.W.mg_of X G a15
  have b15 := F15.binds (ps := ["_law_script", "_law_k", "_law_sizes"]) fun _ _ _ _ _ _ us hl => match us, hl with | [_, _, _], _ => rfl
  have F16 := fun_mk (st := s_law_saying) l16 c16 k16
  have g16 := PySem.W.mg_of X G a16
  have b16 := F16.binds (ps := ["_law_script", "_law_k", "_law_length"]) fun _ _ _ _ _ _ us hl => match us, hl with | [_, _, _], _ => rfl
  have F17 := fun_mk (st := s_law_sayings) l17 c17 k17
  have g17 := PySem.W.mg_of X G a17
  have b17 := F17.binds (ps := ["_law_script", "_law_k", "_law_length", "_law_many"]) fun _ _ _ _ _ _ us hl => match us, hl with | [_, _, _, _], _ => rfl
  have F18 := fun_mk (st := s_law_crowded_song) l18 c18 k18
  have g18 := PySem.W.mg_of X G a18
  have b18 := F18.binds (ps := ["_law_script", "_law_most"]) fun _ _ _ _ _ _ us hl => match us, hl with | [_, _], _ => rfl
  have F19 := fun_mk (st := s_law_heads) l19 c19 k19
  have g19 := PySem.W.mg_of X G a19
  have b19 := F19.binds (ps := ["_law_length", "_law_pairs"]) fun _ _ _ _ _ _ us hl => match us, hl with | [_, _], _ => rfl
  have F20 := fun_mk (st := s_law_partners) l20 c20 k20
  have g20 := PySem.W.mg_of X G a20
  have b20 := F20.binds (ps := ["_law_sayings_here"]) fun _ _ _ _ _ _ us hl => match us, hl with | [_], _ => rfl
  have F21 := fun_mk (st := s_law_firsts) l21 c21 k21
  have g21 := PySem.W.mg_of X G a21
  have b21 := F21.binds (ps := ["_law_length", "_law_sayings_here"]) fun _ _ _ _ _ _ us hl => match us, hl with | [_, _], _ => rfl
  have F22 := fun_mk (st := s_law_alike_pairs) l22 c22 k22
  have g22 := PySem.W.mg_of X G a22
  have b22 := F22.binds (ps := ["_law_script", "_law_k", "_law_length", "_law_heads_here", "_law_many"]) fun _ _ _ _ _ _ us hl => match us, hl with | [_, _, _, _, _], _ => rfl
  have F23 := fun_mk (st := s_law_reach) l23 c23 k23
  have g23 := PySem.W.mg_of X G a23
  have b23 := F23.binds (ps := ["_law_length", "_law_sayings_here", "_law_start"]) fun _ _ _ _ _ _ us hl => match us, hl with | [_, _, _], _ => rfl
  have F24 := fun_mk (st := s_law_walked) l24 c24 k24
  have g24 := PySem.W.mg_of X G a24
  have b24 := F24.binds (ps := ["_law_sayings_here", "_law_steps", "_law_one", "_law_other"]) fun _ _ _ _ _ _ us hl => match us, hl with | [_, _, _, _], _ => rfl
  have F25 := fun_mk (st := s_law_refused) l25 c25 k25
  have g25 := PySem.W.mg_of X G a25
  have b25 := F25.binds (ps := ["_law_length", "_law_sayings_here", "_law_one", "_law_other"]) fun _ _ _ _ _ _ us hl => match us, hl with | [_, _, _, _], _ => rfl
  have F26 := fun_mk (st := sLaw) l26 c26 k26
  have g26 := PySem.W.mg_of X G a26
  have gC_BadLength := PySem.W.mg_of X G aC_BadLength
  have gC_BadStretch := PySem.W.mg_of X G aC_BadStretch
  have gC_NoPlace := PySem.W.mg_of X G aC_NoPlace
  have gC_NoNumber := PySem.W.mg_of X G aC_NoNumber
  have gC_BadLetter := PySem.W.mg_of X G aC_BadLetter
  have gC_Full := PySem.W.mg_of X G aC_Full
  have gC_InUse := PySem.W.mg_of X G aC_InUse
  have gC_NothingLeft := PySem.W.mg_of X G aC_NothingLeft
  have gC_BadPage := PySem.W.mg_of X G aC_BadPage
  have gC_RepriseError := PySem.W.mg_of X G aC_RepriseError
  have z_len := PySem.W.mg_none_of X G y_len
  have z_range := PySem.W.mg_none_of X G y_range
  have z_list := PySem.W.mg_none_of X G y_list
  have z_isinstance := PySem.W.mg_none_of X G y_isinstance
  have z_bool := PySem.W.mg_none_of X G y_bool
  have z_int := PySem.W.mg_none_of X G y_int
  have z_tuple := PySem.W.mg_none_of X G y_tuple
  have z_str := PySem.W.mg_none_of X G y_str
  have z_all := PySem.W.mg_none_of X G y_all
  have z_zip := PySem.W.mg_none_of X G y_zip
  have z_min := PySem.W.mg_none_of X G y_min
  have z_max := PySem.W.mg_none_of X G y_max
  have z_enumerate := PySem.W.mg_none_of X G y_enumerate
  have z_ValueError := PySem.W.mg_none_of X G y_ValueError
  have m_TOO_LONG : ∃ u, mg "TOO_LONG" = some u ∧ RelV (.int (10 ^ 40)) u := ⟨_, PySem.W.mg_of X G aI_TOO_LONG, r_TOO_LONG⟩
  refine ⟨PySem.W.fnOf "law" "law" (defArgs sLaw) (defBody sLaw) (defScope sLaw) .none kV26 dc26 pm26 an26 cd26 ct26, [], spLaw25 K, ?_, ?_, ?_, fun s v => .of_eq rfl, ?_, fun base _ _ TBs => ?_⟩
  · intro p hp; cases hp
  · intro p hp; cases hp
  · intro p hp; cases hp
  · intro H a ns hl _ _ hS; exact ⟨a, ns, rfl, hS, hl, fun _ => rfl⟩
  have T : TySame mg := ⟨z_isinstance, z_bool, z_int, z_list, z_tuple, z_str, z_len, z_all, z_zip⟩
  have KM_ := (⟨rfl, fun i c h => match i, h with | 0, h => by cases h; exact gC_BadLength | 1, h => by cases h; exact gC_BadStretch | 2, h => by cases h; exact gC_NoPlace | 3, h => by cases h; exact gC_NoNumber | 4, h => by cases h; exact gC_BadLetter | 5, h => by cases h; exact gC_Full | 6, h => by cases h; exact gC_InUse | 7, h => by cases h; exact gC_NothingLeft | 8, h => by cases h; exact gC_BadPage | _ + 9, h => by simp at h⟩ : KinM mg [C_BadLength, C_BadStretch, C_NoPlace, C_NoNumber, C_BadLetter, C_Full, C_InUse, C_NothingLeft, C_BadPage])
  have XT_NoPlace := (⟨gC_NoPlace, x_NoPlace, k_NoPlace, b_NoPlace, t_NoPlace⟩ : ExT K mg "NoPlace" C_NoPlace)
  have KD_NoPlace := (⟨⟨e1_NoPlace, e2_NoPlace, b_NoPlace, e4_NoPlace, e5_NoPlace, e6_all, e7_all, e8_NoPlace⟩, by decide, fun i c h => match i, h with | 0, h => by cases h; exact q0_NoPlace | 1, h => by cases h; exact q1_NoPlace | 2, h => by cases h; exact q2_NoPlace | 3, h => by cases h; exact q3_NoPlace | 4, h => by cases h; exact q4_NoPlace | 5, h => by cases h; exact q5_NoPlace | 6, h => by cases h; exact q6_NoPlace | 7, h => by cases h; exact q7_NoPlace | 8, h => by cases h; exact q8_NoPlace | _ + 9, h => by simp at h, qV_NoPlace⟩ : KinD K [C_BadLength, C_BadStretch, C_NoPlace, C_NoNumber, C_BadLetter, C_Full, C_InUse, C_NothingLeft, C_BadPage] C_NoPlace 2)
  have XM_NoPlace := (PySem.W.exm_ref re_b re_d re_t s_NoPlace)
  have GS : FnOk l.prog w K mg base CX0 7 f18 _ ["_law_script", "_law_most"] (spSong K) := (ok_song F18 (ok_dig F15 (ok_raw F14 F13 b13 g13 z_len z_range) k14 b14 g14) k15 b15 g15 (ok_says F17 (ok_say F16 (ok_dig F15 (ok_raw F14 F13 b13 g13 z_len z_range) k14 b14 g14) k15 b15 g15 z_min z_max) k16 b16 g16 z_range) k17 b17 g17 z_int)
  have GD : FnOk l.prog w K mg base CX0 7 f15 _ ["_law_script", "_law_k", "_law_sizes"] (spDig K) := (ok_dig F15 (ok_raw F14 F13 b13 g13 z_len z_range) k14 b14 g14)
  have GD6 : FnOk l.prog w K mg base CX0 6 f15 _ ["_law_script", "_law_k", "_law_sizes"] (spDig K) := (ok_dig F15 (ok_raw F14 F13 b13 g13 z_len z_range) k14 b14 g14)
  have GF : FnOk l.prog w K mg base CX0 7 f21 _ ["_law_length", "_law_sayings_here"] (spFirsts K) := (ok_firsts F21 (ok_heads F19 z_range) k19 b19 g19 (ok_parts F20 z_range) k20 b20 g20)
  have GY : FnOk l.prog w K mg base CX0 7 f11 _ ["_law_saying_here", "_law_here", "_law_to"] spLay := (ok_lay F11)
  have GO : FnOk l.prog w K mg base CX0 7 f22 _ ["_law_script", "_law_k", "_law_length", "_law_heads_here", "_law_many"] (spFi K) := (ok_fi F22 ⟨GD6, b15, k15, g15, z_range, z_len⟩)
  have GP : FnOk l.prog w K mg base CX0 7 f20 _ ["_law_sayings_here"] (spParts K) := (ok_parts F20 z_range)
  have GZ : FnOk l.prog w K mg base CX0 8 f23 _ ["_law_length", "_law_sayings_here", "_law_start"] (spRc K) := (ok_rc F23 ⟨GP, b20, k20, g20, z_range, z_len⟩)
  have GW : FnOk l.prog w K mg base CX0 8 f24 _ ["_law_sayings_here", "_law_steps", "_law_one", "_law_other"] (spWk K) := (ok_wk F24 ⟨(ok_same F10 b10 g10 T 7), b10, k10, g10, GY, b11, k11, g11, z_isinstance, z_tuple, z_len⟩)
  have GB : FnOk l.prog w K mg base CX0 7 f6 _ ["saying", "place"] spBes := (ok_bes F6 ⟨ok_met F5, b5, k5, g5⟩)
  have GC : FnOk l.prog w K mg base CX0 8 f7 _ ["sayings", "one"] (spCf K) := (ok_cf F7 ⟨GB, b6, k6, g6, z_enumerate⟩)
  have GCp : FnOk l.prog w K mg base (L2N.CX l.prog w) 7 f2 _ ["length", "place"] (spChkpX C_NoPlace) := (ok_chkpX F2 XT_NoPlace)
  have GA : FnOk l.prog w K mg base (L2N.CX l.prog w) 9 f8 _ ["length", "sayings", "one", "other"] (spPthX K C_NoPlace) := (ok_pth F8 ⟨(ok_chkl F1 m_TOO_LONG), b1, k1, g1, (ok_chkss F4 (ok_chks F3) k3 b3 g3), b4, k4, g4, GCp, b2, k2, g2, GC, b7, k7, g7⟩)
  have GL : FnOk l.prog w K mg base (L2N.CX l.prog w) 8 f9 _ ["length", "sayings", "one", "steps"] (spLdsX K C_NoPlace) := (ok_lx F9 ⟨(ok_chkl F1 m_TOO_LONG), b1, k1, g1, (ok_chkss F4 (ok_chks F3) k3 b3 g3), b4, k4, g4, GCp, b2, k2, g2, GB, b6, k6, g6, z_len⟩)
  have GK : FnP l.prog w K mg base CX0 7 f12 _ ["_law_e"] (spKin K [C_BadLength, C_BadStretch, C_NoPlace, C_NoNumber, C_BadLetter, C_Full, C_InUse, C_NothingLeft, C_BadPage]) := ok_kin F12 KM_ z_isinstance z_ValueError z_zip
  have GJ : FnOk l.prog w K mg base CX0 10 f25 _ ["_law_length", "_law_sayings_here", "_law_one", "_law_other"] (spRf K) := (ok_rf F25 ⟨GA, b8, k8, g8, GL, b9, k9, g9, GK, b12, k12, g12, z_range, z_int, gC_RepriseError, XM_NoPlace, KD_NoPlace⟩)
  exact ok_law24 F26 ⟨GS, b18, k18, g18, GD, b15, k15, g15, GF, b21, k21, g21, GO, b22, k22, g22, GZ, b23, k23, g23, fn_calm GA, b8, k8, g8, fn_calm GL, b9, k9, g9, GW, b24, k24, g24, (ok_same F10 b10 g10 T 7), b10, k10, g10, GJ, b25, k25, g25, z_list, z_range, z_isinstance, z_len⟩
end Rep
open PySem PySem.W PyProof.Rows
set_option maxRecDepth 100000 in
set_option maxHeartbeats 0 in
theorem PySem.Challenge.cw_reprise_k24_whole_ways_holds : PySem.Challenge.rw_reprise_k24_whole_ways.Holds := by
  w_on; o_law; k_head; (case hw => w_witness2)
  k_fill
  refine Rep.walk_top (l := PySem.Challenge.rw_reprise_k24_whole_ways) (n := 63) (k := 11) (x := "_law_script") (CX := fun _ => L2.CX0) rfl (by decide) rfl ⟨rfl, by decide, by decide⟩ (fun w h Y => PySem.W.kIn_of Y) ?F (fun _ _ _ _ _ h => h)
  case F =>
    intro w mg mb mean fa h KX TT hmg
    refine' Rep.all_mk KX TT hmg ?aC_BadLength ?aC_BadStretch ?aC_NoPlace ?aC_NoNumber ?aC_BadLetter ?aC_Full ?aC_InUse ?aC_NothingLeft ?aC_BadPage ?aC_RepriseError ?a1 ?l1 ?c1 ?k1 ?a2 ?l2 ?c2 ?k2 ?a3 ?l3 ?c3 ?k3 ?a4 ?l4 ?c4 ?k4 ?a5 ?l5 ?c5 ?k5 ?a6 ?l6 ?c6 ?k6 ?a7 ?l7 ?c7 ?k7 ?a8 ?l8 ?c8 ?k8 ?a9 ?l9 ?c9 ?k9 ?a10 ?l10 ?c10 ?k10 ?a11 ?l11 ?c11 ?k11 ?a12 ?l12 ?c12 ?k12 ?a13 ?l13 ?c13 ?k13 ?a14 ?l14 ?c14 ?k14 ?a15 ?l15 ?c15 ?k15 ?a16 ?l16 ?c16 ?k16 ?a17 ?l17 ?c17 ?k17 ?a18 ?l18 ?c18 ?k18 ?a19 ?l19 ?c19 ?k19 ?a20 ?l20 ?c20 ?k20 ?a21 ?l21 ?c21 ?k21 ?a22 ?l22 ?c22 ?k22 ?a23 ?l23 ?c23 ?k23 ?a24 ?l24 ?c24 ?k24 ?a25 ?l25 ?c25 ?k25 ?a26 ?l26 ?c26 ?k26 ?aI_TOO_LONG ?y_len ?y_range ?y_list ?y_isinstance ?y_bool ?y_int ?y_tuple ?y_str ?y_all ?y_zip ?y_min ?y_max ?y_enumerate ?y_ValueError ?r_TOO_LONG ?re_b ?re_d ?re_t ?x_NoPlace ?k_NoPlace ?b_NoPlace ?t_NoPlace ?s_NoPlace ?e1_NoPlace ?e2_NoPlace ?e4_NoPlace ?e5_NoPlace ?e8_NoPlace ?q0_NoPlace ?q1_NoPlace ?q2_NoPlace ?q3_NoPlace ?q4_NoPlace ?q5_NoPlace ?q6_NoPlace ?q7_NoPlace ?q8_NoPlace ?qV_NoPlace ?e6_all ?e7_all
    (case aC_BadLength => k_is)
    (case aC_BadStretch => k_is)
    (case aC_NoPlace => k_is)
    (case aC_NoNumber => k_is)
    (case aC_BadLetter => k_is)
    (case aC_Full => k_is)
    (case aC_InUse => k_is)
    (case aC_NothingLeft => k_is)
    (case aC_BadPage => k_is)
    (case aC_RepriseError => k_is)
    (case a1 => k_is)
    (case l1 => k_is)
    (case c1 => k_is)
    (case k1 => k_is)
    (case a2 => k_is)
    (case l2 => k_is)
    (case c2 => k_is)
    (case k2 => k_is)
    (case a3 => k_is)
    (case l3 => k_is)
    (case c3 => k_is)
    (case k3 => k_is)
    (case a4 => k_is)
    (case l4 => k_is)
    (case c4 => k_is)
    (case k4 => k_is)
    (case a5 => k_is)
    (case l5 => k_is)
    (case c5 => k_is)
    (case k5 => k_is)
    (case a6 => k_is)
    (case l6 => k_is)
    (case c6 => k_is)
    (case k6 => k_is)
    (case a7 => k_is)
    (case l7 => k_is)
    (case c7 => k_is)
    (case k7 => k_is)
    (case a8 => k_is)
    (case l8 => k_is)
    (case c8 => k_is)
    (case k8 => k_is)
    (case a9 => k_is)
    (case l9 => k_is)
    (case c9 => k_is)
    (case k9 => k_is)
    (case a10 => k_is)
    (case l10 => k_is)
    (case c10 => k_is)
    (case k10 => k_is)
    (case a11 => k_is)
    (case l11 => k_is)
    (case c11 => k_is)
    (case k11 => k_is)
    (case a12 => k_is)
    (case l12 => k_is)
    (case c12 => k_is)
    (case k12 => k_is)
    (case a13 => k_is)
    (case l13 => k_is)
    (case c13 => k_is)
    (case k13 => k_is)
    (case a14 => k_is)
    (case l14 => k_is)
    (case c14 => k_is)
    (case k14 => k_is)
    (case a15 => k_is)
    (case l15 => k_is)
    (case c15 => k_is)
    (case k15 => k_is)
    (case a16 => k_is)
    (case l16 => k_is)
    (case c16 => k_is)
    (case k16 => k_is)
    (case a17 => k_is)
    (case l17 => k_is)
    (case c17 => k_is)
    (case k17 => k_is)
    (case a18 => k_is)
    (case l18 => k_is)
    (case c18 => k_is)
    (case k18 => k_is)
    (case a19 => k_is)
    (case l19 => k_is)
    (case c19 => k_is)
    (case k19 => k_is)
    (case a20 => k_is)
    (case l20 => k_is)
    (case c20 => k_is)
    (case k20 => k_is)
    (case a21 => k_is)
    (case l21 => k_is)
    (case c21 => k_is)
    (case k21 => k_is)
    (case a22 => k_is)
    (case l22 => k_is)
    (case c22 => k_is)
    (case k22 => k_is)
    (case a23 => k_is)
    (case l23 => k_is)
    (case c23 => k_is)
    (case k23 => k_is)
    (case a24 => k_is)
    (case l24 => k_is)
    (case c24 => k_is)
    (case k24 => k_is)
    (case a25 => k_is)
    (case l25 => k_is)
    (case c25 => k_is)
    (case k25 => k_is)
    (case a26 => k_is)
    (case l26 => k_is)
    (case c26 => k_is)
    (case k26 => k_is)
    (case aI_TOO_LONG => k_is)
    (case y_len => k_is)
    (case y_range => k_is)
    (case y_list => k_is)
    (case y_isinstance => k_is)
    (case y_bool => k_is)
    (case y_int => k_is)
    (case y_tuple => k_is)
    (case y_str => k_is)
    (case y_all => k_is)
    (case y_zip => k_is)
    (case y_min => k_is)
    (case y_max => k_is)
    (case y_enumerate => k_is)
    (case y_ValueError => k_is)
    (case r_TOO_LONG => exact ⟨_, rfl⟩)
    (case re_b => k_is)
    (case re_d => k_is)
    (case re_t => k_is)
    (case x_NoPlace => k_exc)
    (case k_NoPlace => k_is)
    (case b_NoPlace => k_is)
    (case t_NoPlace => k_is)
    (case s_NoPlace => k_is)
    (case e1_NoPlace => k_is)
    (case e2_NoPlace => k_is)
    (case e4_NoPlace => k_is)
    (case e5_NoPlace => k_is)
    (case e8_NoPlace => k_is)
    (case q0_NoPlace => kernel_rfl)
    (case q1_NoPlace => kernel_rfl)
    (case q2_NoPlace => kernel_rfl)
    (case q3_NoPlace => kernel_rfl)
    (case q4_NoPlace => kernel_rfl)
    (case q5_NoPlace => kernel_rfl)
    (case q6_NoPlace => kernel_rfl)
    (case q7_NoPlace => kernel_rfl)
    (case q8_NoPlace => kernel_rfl)
    (case qV_NoPlace => kernel_rfl)
    (case e6_all => k_is)
    (case e7_all => k_is)
