import PyProof.Rows.All
import Wide.All
import OpenK.AllK
import Wide.FinOn
import HandS.ForMost
import HandS.Wide
import HandS.SortRule
import HandS.SortInts
import HandS.IsInst
import HandS.Zip
import HandS.TryOnly
import HandS.More
import HandS.Walk
import HandS.Codes
import HandS.Conv
import HandS.Style
import HandS.Flow
import HandS.SortKw
import HandS.Lambda
import HandS.EndTab
import KE.DataMinKey
import KE.DataFind
import KE.SortData
import HandS.HotCalls
import HandS.ExcIs
import HandS.CallSlots
import HandS.WordsExc
import HandS.Nested
import PySem.Challenge.RW_reprise_k04_songs_refused
set_option Elab.async false
set_option linter.all false
set_option maxRecDepth 100000
set_option maxHeartbeats 4000000
namespace Rep
abbrev Pr := Int × Int
def cov (ps : List Pr) (x : Int) : Prop := ∃ p ∈ ps, p.1 ≤ x ∧ x < p.2
structure Tdy (ps : List Pr) : Prop where
  ok : ∀ p ∈ ps, p.1 < p.2
  gap : ps.Pairwise (fun p q => p.2 < q.1)
theorem cov_cons {p : Pr} {ps : List Pr} {x : Int} : cov (p :: ps) x ↔ (p.1 ≤ x ∧ x < p.2) ∨ cov ps x := by
  unfold cov
  constructor
  · rintro ⟨q, hq, h⟩
    rcases List.mem_cons.mp hq with e | hq
    · subst e; exact .inl h
    · exact .inr ⟨q, hq, h⟩
  · rintro (h | ⟨q, hq, h⟩)
    · exact ⟨p, List.mem_cons_self, h⟩
    · exact ⟨q, List.mem_cons_of_mem _ hq, h⟩
theorem cov_nil {x : Int} : ¬ cov [] x := by
  rintro ⟨q, hq, _⟩; cases hq
theorem Tdy.tail {p : Pr} {ps : List Pr} (h : Tdy (p :: ps)) : Tdy ps :=
  ⟨fun q hq => h.ok q (List.mem_cons_of_mem _ hq), (List.pairwise_cons.mp h.gap).2⟩
theorem Tdy.behind {p : Pr} {ps : List Pr} (h : Tdy (p :: ps)) {x : Int} (c : cov ps x) : p.2 < x := by
  obtain ⟨q, hq, h1, h2⟩ := c
  have := (List.pairwise_cons.mp h.gap).1 q hq
  omega
theorem Tdy.uniq : ∀ {a b : List Pr}, Tdy a → Tdy b → (∀ x, cov a x ↔ cov b x) → a = b
  | [], [], _, _, _ => rfl
  | [], q :: b, _, hb, h => by
    have h1 := hb.ok q List.mem_cons_self
    exact absurd ((h q.1).mpr (cov_cons.mpr (.inl ⟨Int.le_refl _, h1⟩))) cov_nil
  | p :: a, [], ha, _, h => by
    have h1 := ha.ok p List.mem_cons_self
    exact absurd ((h p.1).mp (cov_cons.mpr (.inl ⟨Int.le_refl _, h1⟩))) cov_nil
  | p :: a, q :: b, ha, hb, h => by
    have hp := ha.ok p List.mem_cons_self
    have hq := hb.ok q List.mem_cons_self
    have e1 : p.1 = q.1 := by
      have x1 := (h p.1).mp (cov_cons.mpr (.inl ⟨Int.le_refl _, hp⟩))
      have x2 := (h q.1).mpr (cov_cons.mpr (.inl ⟨Int.le_refl _, hq⟩))
      rcases cov_cons.mp x1 with x1 | x1 <;> rcases cov_cons.mp x2 with x2 | x2
      · omega
      · have := ha.behind x2; omega
      · have := hb.behind x1; omega
      · have := ha.behind x2; have := hb.behind x1; omega
    have e2 : p.2 = q.2 := by
      rcases Int.lt_trichotomy p.2 q.2 with l | l | l
      · have x1 := (h p.2).mpr (cov_cons.mpr (.inl ⟨by omega, l⟩))
        rcases cov_cons.mp x1 with x1 | x1
        · omega
        · have := ha.behind x1; omega
      · exact l
      · have x1 := (h q.2).mp (cov_cons.mpr (.inl ⟨by omega, l⟩))
        rcases cov_cons.mp x1 with x1 | x1
        · omega
        · have := hb.behind x1; omega
    have e : p = q := Prod.ext e1 e2
    subst e
    have et : a = b := by
      refine Tdy.uniq ha.tail hb.tail fun x => ⟨fun c => ?_, fun c => ?_⟩
      · have l := ha.behind c
        rcases cov_cons.mp ((h x).mp (cov_cons.mpr (.inr c))) with z | z
        · omega
        · exact z
      · have l := hb.behind c
        rcases cov_cons.mp ((h x).mpr (cov_cons.mpr (.inr c))) with z | z
        · omega
        · exact z
    rw [et]
/-- one turn of tidy, what is made so far held the wrong way round -/
def tStep (acc : List Pr) (p : Pr) : List Pr :=
  if p.2 ≤ p.1 then acc else match acc with
    | [] => [p]
    | q :: r => if q.2 < p.1 then p :: q :: r else if q.2 < p.2 then (q.1, p.2) :: r else q :: r
structure RT (acc : List Pr) : Prop where
  ok : ∀ p ∈ acc, p.1 < p.2
  gap : acc.Pairwise (fun p q => q.2 < p.1)
theorem RT.tdy {acc : List Pr} (h : RT acc) : Tdy acc.reverse :=
  ⟨fun p hp => h.ok p (List.mem_reverse.mp hp), List.pairwise_reverse.mpr h.gap⟩
theorem cov_rev {acc : List Pr} {x : Int} : cov acc.reverse x ↔ cov acc x := by
  unfold cov
  constructor
  · rintro ⟨q, hq, h⟩; exact ⟨q, List.mem_reverse.mp hq, h⟩
  · rintro ⟨q, hq, h⟩; exact ⟨q, List.mem_reverse.mpr hq, h⟩
theorem RT.step {acc : List Pr} {p : Pr} (h : RT acc) (hh : ∀ q ∈ acc, q.1 ≤ p.1) :
    RT (tStep acc p) ∧ (∀ x, cov (tStep acc p) x ↔ cov acc x ∨ (p.1 ≤ x ∧ x < p.2)) ∧ ∀ q ∈ tStep acc p, q.1 ≤ p.1 := by
  unfold tStep
  by_cases e : p.2 ≤ p.1
  · rw [if_pos e]
    refine ⟨h, fun x => ⟨.inl, fun z => ?_⟩, hh⟩
    rcases z with z | z
    · exact z
    · omega
  · rw [if_neg e]
    cases acc with
    | nil =>
      refine ⟨⟨fun q hq => ?_, List.pairwise_singleton _ _⟩, fun x => ?_, fun q hq => ?_⟩
      · rw [List.mem_singleton.mp hq]; omega
      · show cov [p] x ↔ _
        rw [cov_cons]
        exact ⟨fun z => z.elim .inr .inl, fun z => z.elim .inr .inl⟩
      · rw [List.mem_singleton.mp hq]; exact Int.le_refl _
    | cons q r =>
      have hq1 := h.ok q List.mem_cons_self
      have hr : RT r := ⟨fun z hz => h.ok z (List.mem_cons_of_mem _ hz), (List.pairwise_cons.mp h.gap).2⟩
      have hg := (List.pairwise_cons.mp h.gap).1
      have hl := hh q List.mem_cons_self
      show RT (if q.2 < p.1 then p :: q :: r else if q.2 < p.2 then (q.1, p.2) :: r else q :: r) ∧ (∀ x, cov (if q.2 < p.1 then p :: q :: r else if q.2 < p.2 then (q.1, p.2) :: r else q :: r) x ↔ _) ∧ ∀ z ∈ (if q.2 < p.1 then p :: q :: r else if q.2 < p.2 then (q.1, p.2) :: r else q :: r), _
      by_cases c1 : q.2 < p.1
      · rw [if_pos c1]
        refine ⟨⟨fun z hz => ?_, List.pairwise_cons.mpr ⟨fun z hz => ?_, h.gap⟩⟩, fun x => ?_, fun z hz => ?_⟩
        · rcases List.mem_cons.mp hz with rfl | hz
          · omega
          · exact h.ok z hz
        · rcases List.mem_cons.mp hz with rfl | hz
          · exact c1
          · have := hg z hz; omega
        · rw [cov_cons]; exact Or.comm
        · rcases List.mem_cons.mp hz with rfl | hz
          · exact Int.le_refl _
          · exact hh z hz
      · rw [if_neg c1]
        by_cases c2 : q.2 < p.2
        · rw [if_pos c2]
          refine ⟨⟨fun z hz => ?_, List.pairwise_cons.mpr ⟨fun z hz => hg z hz, hr.gap⟩⟩, fun x => ?_, fun z hz => ?_⟩
          · rcases List.mem_cons.mp hz with rfl | hz
            · show q.1 < p.2; omega
            · exact hr.ok z hz
          · rw [cov_cons, cov_cons]
            show (q.1 ≤ x ∧ x < p.2) ∨ cov r x ↔ _
            constructor
            · rintro (z | z)
              · by_cases x < q.2
                · exact .inl (.inl ⟨z.1, by assumption⟩)
                · exact .inr ⟨by omega, z.2⟩
              · exact .inl (.inr z)
            · rintro ((z | z) | z)
              · exact .inl ⟨z.1, by omega⟩
              · exact .inr z
              · exact .inl ⟨by omega, z.2⟩
          · rcases List.mem_cons.mp hz with rfl | hz
            · exact hl
            · exact hh z (List.mem_cons_of_mem _ hz)
        · rw [if_neg c2]
          refine ⟨h, fun x => ⟨.inl, fun z => ?_⟩, hh⟩
          rcases z with z | z
          · exact z
          · exact cov_cons.mpr (.inl ⟨by omega, by omega⟩)
theorem fold_tidy : ∀ (ys acc : List Pr), RT acc → ys.Pairwise (fun p q => p.1 ≤ q.1) → (∀ q ∈ acc, ∀ p ∈ ys, q.1 ≤ p.1) →
    RT (ys.foldl tStep acc) ∧ ∀ x, cov (ys.foldl tStep acc) x ↔ cov acc x ∨ cov ys x
  | [], acc, h, _, _ => ⟨h, fun x => ⟨.inl, fun z => z.elim id fun z => absurd z cov_nil⟩⟩
  | p :: ys, acc, h, hs, hh => by
    obtain ⟨h1, h2, h3⟩ := h.step (p := p) fun q hq => hh q hq p List.mem_cons_self
    have hs' := List.pairwise_cons.mp hs
    obtain ⟨k1, k2⟩ := fold_tidy ys (tStep acc p) h1 hs'.2 fun q hq z hz => Int.le_trans (h3 q hq) (hs'.1 z hz)
    refine ⟨k1, fun x => ?_⟩
    show cov (ys.foldl tStep (tStep acc p)) x ↔ _
    rw [k2, h2, cov_cons, or_assoc]
/-- what tidy makes of rows in order -/
def tidyF (ys : List Pr) : List Pr := (ys.foldl tStep []).reverse
theorem tidyF_tdy {ys : List Pr} (hs : ys.Pairwise (fun p q => p.1 ≤ q.1)) : Tdy (tidyF ys) ∧ ∀ x, cov (tidyF ys) x ↔ cov ys x := by
  obtain ⟨h1, h2⟩ := fold_tidy ys [] ⟨fun p hp => (by cases hp), List.Pairwise.nil⟩ hs (fun q hq => by cases hq)
  refine ⟨h1.tdy, fun x => ?_⟩
  unfold tidyF
  rw [cov_rev, h2]
  exact ⟨fun z => z.elim (fun z => absurd z cov_nil) id, .inr⟩
/-- how many places -/
def wid (ps : List Pr) : Int := (ps.map fun p => p.2 - p.1).sum
theorem wid_cons {p : Pr} {r : List Pr} : wid (p :: r) = p.2 - p.1 + wid r := by
  unfold wid; rw [List.map_cons, List.sum_cons]
theorem wid_append {a b : List Pr} : wid (a ++ b) = wid a + wid b := by
  unfold wid; rw [List.map_append, List.sum_append]
theorem wid_rev : ∀ (a : List Pr), wid a.reverse = wid a
  | [] => rfl
  | p :: r => by
    rw [List.reverse_cons, wid_append, wid_rev r, wid_cons, wid_cons]
    show wid r + (p.2 - p.1 + 0) = _
    omega
/-- one turn of the law's own rows -/
def rStep (acc : List Pr) (x : Int) : List Pr := match acc with
  | [] => [(x, x + 1)]
  | q :: r => if q.2 = x then (q.1, x + 1) :: r else (x, x + 1) :: q :: r
theorem rStep_wid (acc : List Pr) (x : Int) : wid (rStep acc x) = wid acc + 1 := by
  cases acc with
  | nil => unfold rStep; rw [wid_cons]; show x + 1 - x + 0 = 0 + 1; omega
  | cons q r =>
    show wid (if q.2 = x then (q.1, x + 1) :: r else (x, x + 1) :: q :: r) = _
    by_cases c : q.2 = x
    · rw [if_pos c, wid_cons, wid_cons]; show x + 1 - q.1 + wid r = _; omega
    · rw [if_neg c, wid_cons]; show x + 1 - x + wid (q :: r) = _; omega
theorem rStep_eq {acc : List Pr} {x : Int} (h : ∀ q ∈ acc, q.2 ≤ x) : rStep acc x = tStep acc (x, x + 1) := by
  unfold tStep
  rw [if_neg (show ¬ (x + 1 ≤ x) by omega)]
  cases acc with
  | nil => rfl
  | cons q r =>
    have := h q List.mem_cons_self
    show (if q.2 = x then (q.1, x + 1) :: r else (x, x + 1) :: q :: r) = (if q.2 < x then (x, x + 1) :: q :: r else if q.2 < x + 1 then (q.1, x + 1) :: r else q :: r)
    by_cases c : q.2 = x
    · rw [if_pos c, if_neg (by omega), if_pos (by omega)]
    · rw [if_neg c, if_pos (by omega)]
theorem rStep_le {acc : List Pr} {x : Int} (h : ∀ q ∈ acc, q.2 ≤ x) : ∀ q ∈ rStep acc x, q.2 ≤ x + 1 := by
  intro q hq
  cases acc with
  | nil =>
    have e : q = (x, x + 1) := List.mem_singleton.mp hq
    rw [e]; exact Int.le_refl _
  | cons p r =>
    have hq : q ∈ (if p.2 = x then (p.1, x + 1) :: r else (x, x + 1) :: p :: r) := hq
    by_cases c : p.2 = x
    · rw [if_pos c] at hq
      rcases List.mem_cons.mp hq with e | hq
      · rw [e]; exact Int.le_refl _
      · have := h q (List.mem_cons_of_mem _ hq); omega
    · rw [if_neg c] at hq
      rcases List.mem_cons.mp hq with e | hq
      · rw [e]; exact Int.le_refl _
      · have := h q hq; omega
def ones (xs : List Int) : List Pr := xs.map fun x => (x, x + 1)
theorem fold_rows : ∀ (xs : List Int) (acc : List Pr), xs.Pairwise (· < ·) → (∀ q ∈ acc, ∀ x ∈ xs, q.2 ≤ x) →
    xs.foldl rStep acc = (ones xs).foldl tStep acc ∧ wid (xs.foldl rStep acc) = wid acc + xs.length
  | [], acc, _, _ => ⟨rfl, by show wid acc = wid acc + 0; omega⟩
  | x :: xs, acc, hs, hh => by
    have hs' := List.pairwise_cons.mp hs
    have h1 : ∀ q ∈ acc, q.2 ≤ x := fun q hq => hh q hq x List.mem_cons_self
    obtain ⟨k1, k2⟩ := fold_rows xs (rStep acc x) hs'.2 fun q hq z hz => by
      have a := rStep_le h1 q hq
      have b := hs'.1 z hz
      omega
    constructor
    · show xs.foldl rStep (rStep acc x) = (ones xs).foldl tStep (tStep acc (x, x + 1))
      rw [k1, rStep_eq h1]
    · show wid (xs.foldl rStep (rStep acc x)) = _
      rw [k2, rStep_wid, List.length_cons]
      omega
theorem cov_ones {xs : List Int} {x : Int} : cov (ones xs) x ↔ x ∈ xs := by
  unfold cov ones
  constructor
  · rintro ⟨q, hq, h⟩
    obtain ⟨y, hy, e⟩ := List.mem_map.mp hq
    subst e
    have h1 : y ≤ x := h.1
    have h2 : x < y + 1 := h.2
    have e : x = y := by omega
    rw [e]; exact hy
  · intro h
    exact ⟨(x, x + 1), List.mem_map.mpr ⟨x, h, rfl⟩, Int.le_refl _, by show x < x + 1; omega⟩
/-- the law's own rows of places in order -/
def rowsF (xs : List Int) : List Pr := (xs.foldl rStep []).reverse
theorem rowsF_tdy {xs : List Int} (hs : xs.Pairwise (· < ·)) : Tdy (rowsF xs) ∧ (∀ x, cov (rowsF xs) x ↔ x ∈ xs) ∧ wid (rowsF xs) = xs.length := by
  obtain ⟨k1, k2⟩ := fold_rows xs [] hs fun q hq => by cases hq
  have e : rowsF xs = tidyF (ones xs) := by unfold rowsF tidyF; rw [k1]
  have hp : (ones xs).Pairwise (fun p q => p.1 ≤ q.1) := by
    unfold ones
    rw [List.pairwise_map]
    exact hs.imp fun h => Int.le_of_lt h
  obtain ⟨t1, t2⟩ := tidyF_tdy hp
  refine ⟨e ▸ t1, fun x => ?_, ?_⟩
  · rw [e, t2, cov_ones]
  · unfold rowsF; rw [wid_rev, k2]; show (0 : Int) + _ = _; omega
/-- times by, and moved -/
def sc (by_ high : Int) (p : Pr) : Pr := (p.1 * by_ + high, p.2 * by_ + high)
theorem cov_sc {by_ high : Int} (hb : 0 < by_) {ps : List Pr} {x : Int} : cov (ps.map (sc by_ high)) x ↔ cov ps ((x - high) / by_) := by
  have key : ∀ a : Int, a * by_ + high ≤ x ↔ a ≤ (x - high) / by_ := fun a => by
    rw [Int.le_ediv_iff_mul_le hb]; omega
  unfold cov
  constructor
  · rintro ⟨q, hq, h1, h2⟩
    obtain ⟨p, hp, rfl⟩ := List.mem_map.mp hq
    have k1 := key p.1
    have k2 := key p.2
    have h1 : p.1 * by_ + high ≤ x := h1
    have h2 : x < p.2 * by_ + high := h2
    refine ⟨p, hp, k1.mp h1, ?_⟩
    have : ¬ p.2 ≤ (x - high) / by_ := fun z => by have := k2.mpr z; omega
    omega
  · rintro ⟨p, hp, h1, h2⟩
    have k1 := key p.1
    have k2 := key p.2
    refine ⟨sc by_ high p, List.mem_map.mpr ⟨p, hp, rfl⟩, k1.mpr h1, ?_⟩
    show x < p.2 * by_ + high
    have : ¬ p.2 * by_ + high ≤ x := fun z => by have := k2.mp z; omega
    omega
theorem sc_lt {by_ a b : Int} (high : Int) (hb : 0 < by_) (h : a < b) : a * by_ + high < b * by_ + high := by
  have := Int.mul_lt_mul_of_pos_right h hb
  omega
theorem Tdy.scale {by_ high : Int} (hb : 0 < by_) {ps : List Pr} (h : Tdy ps) : Tdy (ps.map (sc by_ high)) := by
  refine ⟨fun q hq => ?_, ?_⟩
  · obtain ⟨p, hp, rfl⟩ := List.mem_map.mp hq
    exact sc_lt high hb (h.ok p hp)
  · rw [List.pairwise_map]
    exact h.gap.imp fun z => sc_lt high hb z
theorem wid_sc {by_ high : Int} : ∀ ps : List Pr, wid (ps.map (sc by_ high)) = wid ps * by_
  | [] => by show (0 : Int) = 0 * by_; rw [Int.zero_mul]
  | p :: r => by
    rw [List.map_cons, wid_cons, wid_cons, wid_sc r, Int.add_mul, Int.sub_mul]
    show p.2 * by_ + high - (p.1 * by_ + high) + _ = _
    omega
end Rep
namespace Rep
open PySem L2
/-! pairs on the heap -/
def kOf (H : Hp) (v : V) : Pr := match v with
  | .ref t => (match H t with
    | some (.tup [.int a, .int b]) => (a, b)
    | _ => (0, 0))
  | _ => (0, 0)
def IsPr (H : Hp) (v : V) : Prop := ∃ t, v = .ref t ∧ H t = some (.tup [.int (kOf H v).1, .int (kOf H v).2])
theorem kOf_at {H : Hp} {t : Addr} {a b : Int} (h : H t = some (.tup [.int a, .int b])) : kOf H (.ref t) = (a, b) := by
  show (match H t with
    | some (.tup [.int a, .int b]) => (a, b)
    | _ => (0, 0)) = (a, b)
  rw [h]
theorem IsPr.of {H : Hp} {t : Addr} {a b : Int} (h : H t = some (.tup [.int a, .int b])) : IsPr H (.ref t) :=
  ⟨t, rfl, by rw [kOf_at h]; exact h⟩
/-- tuples stay -/
def TS (H H' : Hp) : Prop := ∀ t xs, H t = some (.tup xs) → H' t = some (.tup xs)
theorem TS.of {H H' : Hp} (h : Same H H') : TS H H' := fun t xs e => h t _ e
theorem TS.refl (H : Hp) : TS H H := fun _ _ e => e
theorem TS.trans {H H1 H2 : Hp} (a : TS H H1) (b : TS H1 H2) : TS H H2 := fun t xs e => b t xs (a t xs e)
theorem TS.lst {H : Hp} {o : Addr} {zs : List V} {u : HO} (h : H o = some (.lst zs)) : TS H (upd H o u) := fun t xs e => by
  rw [upd_ne (ne_of e h (by intro z; cases z))]
  exact e
theorem TS.dict {H : Hp} {o : Addr} {zs : List (Key × V)} {u : HO} (h : H o = some (.dK zs)) : TS H (upd H o u) := fun t xs e => by
  rw [upd_ne (ne_of e h (by intro z; cases z))]
  exact e
theorem same_upd {H : Hp} {p : Addr} {o : HO} (h : H p = none) : Same H (upd H p o) := fun b x e => by
  rw [upd_ne (ne_of_none e h)]
  exact e
theorem TS.new {H : Hp} {p : Addr} {o : HO} (h : H p = none) : TS H (upd H p o) := TS.of (same_upd h)
theorem same_over {H H' : Hp} {o : Addr} {u : HO} (h : Same H H') (n : H o = none) : Same H (upd H' o u) := fun b x e => by
  rw [upd_ne (ne_of_none e n)]
  exact h b x e
theorem kOf_ts {H H' : Hp} (s : TS H H') {v : V} (h : IsPr H v) : kOf H' v = kOf H v := by
  obtain ⟨t, e, h⟩ := h
  have h2 := s _ _ h
  subst e
  rw [kOf_at h2]
theorem IsPr.ts {H H' : Hp} (s : TS H H') {v : V} (h : IsPr H v) : IsPr H' v := by
  have e := kOf_ts s h
  obtain ⟨t, rfl, h⟩ := h
  exact ⟨t, rfl, by rw [e]; exact s _ _ h⟩
structure PL (H : Hp) (vs : List V) (ps : List Pr) : Prop where
  all : ∀ v ∈ vs, IsPr H v
  eq : vs.map (kOf H) = ps
theorem PL.nil {H : Hp} : PL H [] [] := ⟨fun v h => (by cases h), rfl⟩
theorem PL.len {H : Hp} {vs : List V} {ps : List Pr} (h : PL H vs ps) : vs.length = ps.length := by rw [← h.eq, List.length_map]
theorem PL.ts {H H' : Hp} (s : TS H H') {vs : List V} {ps : List Pr} (h : PL H vs ps) : PL H' vs ps := by
  refine ⟨fun v hv => (h.all v hv).ts s, ?_⟩
  rw [← h.eq]
  exact List.map_congr_left fun v hv => kOf_ts s (h.all v hv)
theorem PL.snoc {H : Hp} {vs : List V} {ps : List Pr} {t : Addr} {a b : Int} (h : PL H vs ps) (ht : H t = some (.tup [.int a, .int b])) : PL H (vs ++ [.ref t]) (ps ++ [(a, b)]) := by
  refine ⟨fun v hv => ?_, ?_⟩
  · rcases List.mem_append.mp hv with hv | hv
    · exact h.all v hv
    · rw [List.mem_singleton.mp hv]; exact .of ht
  · rw [List.map_append, h.eq]
    show ps ++ [kOf H (.ref t)] = _
    rw [kOf_at ht]
theorem PL.get {H : Hp} {vs : List V} {ps : List Pr} (h : PL H vs ps) {i : Nat} {v : V} (e : vs[i]? = some v) : ∃ t p, v = .ref t ∧ H t = some (.tup [.int p.1, .int p.2]) ∧ ps[i]? = some p := by
  obtain ⟨t, et, ht⟩ := h.all v (List.mem_of_getElem? e)
  refine ⟨t, kOf H v, et, ht, ?_⟩
  rw [← h.eq, List.getElem?_map, e]
  rfl
theorem PL.cut {H : Hp} {vs : List V} {ps : List Pr} {p : Pr} (h : PL H vs (ps ++ [p])) : ∃ ws t, vs = ws ++ [.ref t] ∧ PL H ws ps ∧ H t = some (.tup [.int p.1, .int p.2]) := by
  have hl := h.len
  rw [List.length_append, List.length_singleton] at hl
  have hn : vs ≠ [] := fun e => by rw [e] at hl; simp at hl
  refine ⟨vs.dropLast, ?_⟩
  have e := (List.dropLast_concat_getLast hn).symm
  obtain ⟨t, et, ht⟩ := h.all _ (List.getLast_mem hn)
  have q := h.eq
  rw [e, List.map_append] at q
  have q2 : vs.dropLast.map (kOf H) = ps ∧ [kOf H (vs.getLast hn)] = [p] := List.append_inj' q rfl
  refine ⟨t, by rw [← et]; exact e, ⟨fun v hv => h.all v (List.dropLast_subset _ hv), q2.1⟩, ?_⟩
  have q3 : kOf H (vs.getLast hn) = p := by simpa using q2.2
  rw [← q3]; exact ht
theorem PL.perm {H : Hp} {vs ys : List V} {ps : List Pr} (h : PL H vs ps) (p : ys.Perm vs) : PL H ys (ys.map (kOf H)) ∧ (ys.map (kOf H)).Perm ps :=
  ⟨⟨fun v hv => h.all v (p.mem_iff.mp hv), rfl⟩, by rw [← h.eq]; exact p.map _⟩
theorem cov_perm {a b : List Pr} (h : a.Perm b) {x : Int} : cov a x ↔ cov b x := by
  unfold cov
  constructor
  · rintro ⟨q, hq, z⟩; exact ⟨q, h.mem_iff.mp hq, z⟩
  · rintro ⟨q, hq, z⟩; exact ⟨q, h.mem_iff.mpr hq, z⟩
theorem tYes_ok {σ : L2.St} {H : Hp} {A : Bool → Hp → Prop} (h : A true H) : tYes σ H A := h
/-! data at a depth -/
inductive DT (H : Hp) : Nat → V → PyData → Prop
  | non {n : Nat} : DT H n .non .none
  | bl {n : Nat} (b : Bool) : DT H n (.bl b) (.bool b)
  | int {n : Nat} (i : Int) : DT H n (.int i) (.int i)
  | str {n : Nat} (x : Str) : DT H n (.str x) (.str x)
  | lst {n : Nat} {a : Addr} {xs : List V} {ds : List PyData} : H a = some (.lst xs) → xs.length = ds.length → xs.length ≤ 14000000 → (∀ (i : Nat) (x : V) (d : PyData), xs[i]? = some x → ds[i]? = some d → DT H n x d) → DT H (n + 1) (.ref a) (.list ds)
  | tup {n : Nat} {a : Addr} {xs : List V} {ds : List PyData} : H a = some (.tup xs) → xs.length = ds.length → xs.length ≤ 14000000 → (∀ (i : Nat) (x : V) (d : PyData), xs[i]? = some x → ds[i]? = some d → DT H n x d) → DT H (n + 1) (.ref a) (.tuple ds)
theorem DT.same {H H' : Hp} (s : Same H H') {n : Nat} {v : V} {d : PyData} (h : DT H n v d) : DT H' n v d := by
  induction h with
  | non => exact .non
  | bl b => exact .bl b
  | int i => exact .int i
  | str x => exact .str x
  | lst e l b _ ih => exact .lst (s _ _ e) l b ih
  | tup e l b _ ih => exact .tup (s _ _ e) l b ih
def pD (p : Pr) : PyData := .tuple [.int p.1, .int p.2]
theorem DT.pair {H : Hp} {n : Nat} {t : Addr} {p : Pr} (h : H t = some (.tup [.int p.1, .int p.2])) : DT H (n + 1) (.ref t) (pD p) := by
  refine .tup h rfl (by show 2 ≤ 14000000; decide) fun i x d hx hd => ?_
  match i, hx, hd with
  | 0, hx, hd => cases hx; cases hd; exact .int _
  | 1, hx, hd => cases hx; cases hd; exact .int _
theorem PL.dt {H : Hp} {n : Nat} {a : Addr} {vs : List V} {ps : List Pr} (h : PL H vs ps) (ha : H a = some (.lst vs)) (hl : ps.length ≤ 14000000) : DT H (n + 2) (.ref a) (.list (ps.map pD)) := by
  refine .lst ha (by rw [h.len, List.length_map]) (by rw [h.len]; exact hl) fun i x d hx hd => ?_
  obtain ⟨t, p, rfl, ht, hp⟩ := h.get hx
  rw [List.getElem?_map, hp] at hd
  cases hd
  exact .pair ht
/-- as the layer's deep data -/
theorem PL.dp {K : PySem.W.Frag} {H : Hp} : ∀ {vs : List V} {ps : List Pr}, PL H vs ps → DpAll K H vs (ps.map pD)
  | [], ps, h => by
    have := h.eq
    subst this
    exact .nil
  | v :: vs, ps, h => by
    have e := h.eq
    subst e
    obtain ⟨t, et, ht⟩ := h.all v List.mem_cons_self
    refine .cons ?_ (PL.dp ⟨fun w hw => h.all w (List.mem_cons_of_mem _ hw), rfl⟩)
    rw [et] at ht ⊢
    exact .tup (.inl (.inl ht)) (.cons (.int _) (.cons (.int _) .nil))
theorem canAll : ∀ ps : List Pr, PyData.canLayAll0 (ps.map pD) = true
  | [] => rfl
  | _ :: r => by
    show (true && PyData.canLayAll0 (r.map pD)) = true
    rw [canAll r]; rfl
end Rep
namespace Rep
/-! likeness by steps in either direction -/
inductive Eqv (R : Int → Int → Prop) : Int → Int → Prop
  | refl (x : Int) : Eqv R x x
  | of {x y : Int} : R x y → Eqv R x y
  | symm {x y : Int} : Eqv R x y → Eqv R y x
  | trans {x y z : Int} : Eqv R x y → Eqv R y z → Eqv R x z
theorem Eqv.bind {R S : Int → Int → Prop} (h : ∀ x y, R x y → Eqv S x y) {x y : Int} (e : Eqv R x y) : Eqv S x y := by
  induction e with
  | refl x => exact .refl x
  | of r => exact h _ _ r
  | symm _ ih => exact .symm ih
  | trans _ _ a b => exact .trans a b
theorem Eqv.mono {R S : Int → Int → Prop} (h : ∀ x y, R x y → S x y) {x y : Int} (e : Eqv R x y) : Eqv S x y := e.bind fun x y r => .of (h x y r)
/-- a saying: the lesser start, the greater, how many, turned -/
structure Sy where
  lo : Int
  hi : Int
  n : Int
  t : Bool
  deriving DecidableEq
def Sy.en (s : Sy) : Int := s.hi + s.n
/-- the place that a place of the first stretch is said alike to -/
def mate (lo hi n : Int) (t : Bool) (x : Int) : Int := if t then lo + hi + n - 1 - x else x - lo + hi
def says (lo hi n : Int) (t : Bool) (x y : Int) : Prop := lo ≤ x ∧ x < lo + n ∧ y = mate lo hi n t x
def rel (s : Sy) (x y : Int) : Prop := says s.lo s.hi s.n s.t x y
def relL (K : List Sy) (x y : Int) : Prop := ∃ s ∈ K, rel s x y
/-- a saying of what is left of the song, below e -/
structure Ok (e : Int) (s : Sy) : Prop where
  lo0 : 0 ≤ s.lo
  lt : s.lo < s.hi
  n1 : 1 ≤ s.n
  le : s.hi + s.n ≤ e
  ov : s.t = true → s.lo + s.n ≤ s.hi
theorem Ok.mono {e e' : Int} {s : Sy} (h : Ok e s) (l : s.hi + s.n ≤ e') : Ok e' s := ⟨h.lo0, h.lt, h.n1, l, h.ov⟩
theorem says_t {lo hi n x y : Int} : says lo hi n true x y ↔ lo ≤ x ∧ x < lo + n ∧ y = lo + hi + n - 1 - x := Iff.rfl
theorem says_f {lo hi n x y : Int} : says lo hi n false x y ↔ lo ≤ x ∧ x < lo + n ∧ y = x - lo + hi := Iff.rfl
/-! as it is kept -/
def keptF (a b n : Int) (t : Bool) : Option Sy :=
  let lo := min a b
  let hi := max a b
  if t = true ∧ hi < lo + n then
    let r := hi + n - lo
    if r / 2 < 1 ∨ lo = lo + r - r / 2 then none else some ⟨lo, lo + r - r / 2, r / 2, t⟩
  else if n < 1 ∨ lo = hi then none else some ⟨lo, hi, n, t⟩
/-- what a kept form says, if there is one -/
def relO (o : Option Sy) (x y : Int) : Prop := ∃ s, o = some s ∧ rel s x y
theorem says_swap {a b n : Int} {t : Bool} {x y : Int} (h : says a b n t x y) : says b a n t y x := by
  cases t with
  | true => rw [says_t] at *; omega
  | false => rw [says_f] at *; omega
theorem says_minmax {a b n : Int} {t : Bool} {x y : Int} (h : says a b n t x y) : Eqv (says (min a b) (max a b) n t) x y := by
  rcases Int.le_total a b with l | l
  · rw [Int.min_eq_left l, Int.max_eq_right l]; exact .of h
  · rw [Int.min_eq_right l, Int.max_eq_left l]; exact .symm (.of (says_swap h))
theorem minmax_says {a b n : Int} {t : Bool} {x y : Int} (h : says (min a b) (max a b) n t x y) : Eqv (says a b n t) x y := by
  rcases Int.le_total a b with l | l
  · rw [Int.min_eq_left l, Int.max_eq_right l] at h; exact .of h
  · rw [Int.min_eq_right l, Int.max_eq_left l] at h; exact .symm (.of (says_swap h))
theorem kept_ok {a b n e : Int} {t : Bool} {s : Sy} (ha : 0 ≤ a) (hb : 0 ≤ b) (hae : a + n ≤ e) (hbe : b + n ≤ e) (h : keptF a b n t = some s) : Ok e s ∧ s.hi + s.n = max a b + n := by
  unfold keptF at h
  have h0 : 0 ≤ min a b := by omega
  have h1 : max a b + n ≤ e := by omega
  have h2 : min a b ≤ max a b := by omega
  generalize min a b = lo at *
  generalize max a b = hi at *
  by_cases c : t = true ∧ hi < lo + n
  · rw [if_pos c] at h
    by_cases d : (hi + n - lo) / 2 < 1 ∨ lo = lo + (hi + n - lo) - (hi + n - lo) / 2
    · rw [if_pos d] at h; cases h
    · rw [if_neg d] at h
      cases h
      refine ⟨⟨h0, ?_, ?_, ?_, fun _ => ?_⟩, ?_⟩
      · show lo < lo + (hi + n - lo) - (hi + n - lo) / 2; omega
      · show 1 ≤ (hi + n - lo) / 2; omega
      · show lo + (hi + n - lo) - (hi + n - lo) / 2 + (hi + n - lo) / 2 ≤ e; omega
      · show lo + (hi + n - lo) / 2 ≤ lo + (hi + n - lo) - (hi + n - lo) / 2; omega
      · show lo + (hi + n - lo) - (hi + n - lo) / 2 + (hi + n - lo) / 2 = _; omega
  · rw [if_neg c] at h
    by_cases d : n < 1 ∨ lo = hi
    · rw [if_pos d] at h; cases h
    · rw [if_neg d] at h
      cases h
      refine ⟨⟨h0, by show lo < hi; omega, by show 1 ≤ n; omega, h1, fun ht => ?_⟩, rfl⟩
      show lo + n ≤ hi
      have ht : t = true := ht
      have : ¬ hi < lo + n := fun z => c ⟨ht, z⟩
      omega
/-- nothing is lost and nothing is added -/
theorem kept_eq {a b n : Int} {t : Bool} : (∀ x y, says a b n t x y → Eqv (relO (keptF a b n t)) x y) ∧ ∀ x y, relO (keptF a b n t) x y → Eqv (says a b n t) x y := by
  have key : (∀ x y, says (min a b) (max a b) n t x y → Eqv (relO (keptF a b n t)) x y) ∧ ∀ x y, relO (keptF a b n t) x y → Eqv (says (min a b) (max a b) n t) x y := by
    unfold keptF
    have h2 : min a b ≤ max a b := by omega
    generalize min a b = lo at *
    generalize max a b = hi at *
    by_cases c : t = true ∧ hi < lo + n
    · simp only [if_pos c]
      obtain ⟨rfl, c⟩ := c
      by_cases d : (hi + n - lo) / 2 < 1 ∨ lo = lo + (hi + n - lo) - (hi + n - lo) / 2
      · rw [if_pos d]
        refine ⟨fun x y h => ?_, fun x y h => ?_⟩
        · rw [says_t] at h
          have e : x = y := by omega
          rw [e]; exact .refl y
        · obtain ⟨s, hs, _⟩ := h; cases hs
      · rw [if_neg d]
        refine ⟨fun x y h => ?_, fun x y h => ?_⟩
        · rw [says_t] at h
          by_cases c1 : x < lo + (hi + n - lo) / 2
          · refine .of ⟨_, rfl, ?_⟩
            show says lo (lo + (hi + n - lo) - (hi + n - lo) / 2) ((hi + n - lo) / 2) true x y
            rw [says_t]; omega
          · by_cases c2 : x = y
            · rw [c2]; exact .refl y
            · refine .symm (.of ⟨_, rfl, ?_⟩)
              show says lo (lo + (hi + n - lo) - (hi + n - lo) / 2) ((hi + n - lo) / 2) true y x
              rw [says_t]; omega
        · obtain ⟨s, hs, h⟩ := h
          cases hs
          have h : says lo (lo + (hi + n - lo) - (hi + n - lo) / 2) ((hi + n - lo) / 2) true x y := h
          refine .of ?_
          rw [says_t] at *
          omega
    · simp only [if_neg c]
      by_cases d : n < 1 ∨ lo = hi
      · rw [if_pos d]
        refine ⟨fun x y h => ?_, fun x y h => ?_⟩
        · cases t with
          | true =>
            rw [says_t] at h
            have : ¬ hi < lo + n := fun z => c ⟨rfl, z⟩
            omega
          | false =>
            rw [says_f] at h
            have e : x = y := by omega
            rw [e]; exact .refl y
        · obtain ⟨s, hs, _⟩ := h; cases hs
      · rw [if_neg d]
        refine ⟨fun x y h => .of ⟨_, rfl, h⟩, fun x y h => ?_⟩
        obtain ⟨s, hs, h⟩ := h
        cases hs
        exact .of h
  exact ⟨fun x y h => (says_minmax h).bind key.1, fun x y h => (key.2 x y h).bind fun x y h => minmax_says h⟩
/-! two beats -/
/-- each two places of [a, b) that are t apart are alike -/
def Beat (E : Int → Int → Prop) (a b t : Int) : Prop := ∀ x, a ≤ x → x + t < b → E x (x + t)
theorem beat_sub {R : Int → Int → Prop} {a b t u : Int} (ht : 0 < t) (hu : t < u) (hl : t + u ≤ b - a) (h1 : Beat (Eqv R) a b t) (h2 : Beat (Eqv R) a b u) : Beat (Eqv R) a b (u - t) := by
  intro x hx hb
  by_cases c : x + u < b
  · have e1 := h2 x hx c
    have e2 := h1 (x + (u - t)) (by omega) (by omega)
    rw [show x + (u - t) + t = x + u by omega] at e2
    exact .trans e1 (.symm e2)
  · have e1 := h1 (x - t) (by omega) (by omega)
    rw [show x - t + t = x by omega] at e1
    have e2 := h2 (x - t) (by omega) (by omega)
    rw [show x - t + u = x + (u - t) by omega] at e2
    exact .trans (.symm e1) e2
theorem beat_gcd {R : Int → Int → Prop} {a b : Int} : ∀ (k : Nat) (t u : Nat), t + u ≤ k → 0 < t → 0 < u → (t : Int) + u ≤ b - a → Beat (Eqv R) a b t → Beat (Eqv R) a b u → Beat (Eqv R) a b (Nat.gcd t u : Nat)
  | 0, t, u, hk, ht, hu, _, _, _ => by omega
  | k + 1, t, u, hk, ht, hu, hl, h1, h2 => by
    rcases Nat.lt_trichotomy t u with c | c | c
    · have h3 : Beat (Eqv R) a b ((u - t : Nat) : Int) := by
        have := beat_sub (by omega) (by omega) hl h1 h2
        rw [show ((u - t : Nat) : Int) = (u : Int) - (t : Int) by omega]
        exact this
      have := beat_gcd k t (u - t) (by omega) ht (by omega) (by omega) h1 h3
      rw [Nat.gcd_sub_self_right (Nat.le_of_lt c)] at this
      exact this
    · subst c
      rw [Nat.gcd_self]
      exact h1
    · have h3 : Beat (Eqv R) a b ((t - u : Nat) : Int) := by
        have := beat_sub (R := R) (a := a) (b := b) (t := u) (u := t) (by omega) (by omega) (by omega) h2 h1
        rw [show ((t - u : Nat) : Int) = (t : Int) - (u : Int) by omega]
        exact this
      have := beat_gcd k (t - u) u (by omega) (by omega) hu (by omega) h3 h2
      rw [Nat.gcd_sub_self_left (Nat.le_of_lt c)] at this
      exact this
/-- a beat, many times -/
theorem beat_mul {R : Int → Int → Prop} {a b t : Int} (ht : 0 < t) (h : Beat (Eqv R) a b t) : ∀ (k : Nat) (x : Int), a ≤ x → x + (k : Int) * t < b → Eqv R x (x + (k : Int) * t)
  | 0, x, _, _ => by
    rw [show x + ((0 : Nat) : Int) * t = x by rw [Int.natCast_zero, Int.zero_mul]; omega]
    exact .refl x
  | k + 1, x, hx, hb => by
    have e : ((k + 1 : Nat) : Int) * t = (k : Int) * t + t := by rw [Int.natCast_add, Int.add_mul]; omega
    rw [e] at hb ⊢
    have hk : 0 ≤ (k : Int) * t := Int.mul_nonneg (by omega) (by omega)
    have h1 := beat_mul ht h k x hx (by omega)
    have h2 := h (x + (k : Int) * t) (by omega) (by omega)
    rw [show x + (k : Int) * t + t = x + ((k : Int) * t + t) by omega] at h2
    exact .trans h1 h2
/-- from a part to the whole: a beat t of the whole carries each place into the part -/
theorem into_part {R : Int → Int → Prop} {a b a' b' t : Int} (ht : 0 < t) (h : Beat (Eqv R) a b t) (h1 : a ≤ a') (h2 : b' ≤ b) (h3 : t ≤ b' - a') {x : Int} (hx : a ≤ x) (hb : x < b) :
    ∃ y, Eqv R x y ∧ a' ≤ y ∧ y < a' + t ∧ ∃ k : Int, y = x + k * t := by
  -- the place of [a', a' + t) that is a number of beats away
  have e := Int.emod_add_mul_ediv (x - a') t
  have m0 : 0 ≤ (x - a') % t := Int.emod_nonneg _ (by omega)
  have m1 : (x - a') % t < t := Int.emod_lt_of_pos _ ht
  generalize hr : (x - a') % t = r at *
  generalize hk : (x - a') / t = k at *
  have ey : a' + r = x + (-k) * t := by rw [Int.neg_mul, Int.mul_comm k t]; omega
  refine ⟨a' + r, ?_, by omega, by omega, -k, ey⟩
  rcases Int.le_total 0 k with c | c
  · obtain ⟨j, rfl⟩ : ∃ j : Nat, k = (j : Int) := ⟨k.toNat, by omega⟩
    have hx' : x = a' + r + (j : Int) * t := by rw [Int.mul_comm]; omega
    have := beat_mul ht h j (a' + r) (by omega) (by rw [← hx']; exact hb)
    rw [← hx'] at this
    exact .symm this
  · obtain ⟨j, rfl⟩ : ∃ j : Nat, k = -(j : Int) := ⟨(-k).toNat, by omega⟩
    have hx' : a' + r = x + (j : Int) * t := by rw [ey, Int.neg_neg]
    have := beat_mul ht h j x hx (by rw [← hx']; omega)
    rw [← hx'] at this
    exact this
theorem beat_spread {R : Int → Int → Prop} {a b a' b' t g : Int} (ht : 0 < t) (hg : 0 < g) (h : Beat (Eqv R) a b t) (h1 : a ≤ a') (h2 : b' ≤ b) (h3 : t + g ≤ b' - a') (hp : Beat (Eqv R) a' b' g) : Beat (Eqv R) a b g := by
  intro x hx hb
  obtain ⟨y, e1, l1, l2, k, ek⟩ := into_part ht h h1 h2 (by omega) hx (by omega)
  have e2 := hp y l1 (by omega)
  -- and x + g comes to y + g by as many beats
  have e3 : Eqv R (x + g) (y + g) := by
    have ey : y + g = x + g + k * t := by omega
    rcases Int.le_total 0 k with c | c
    · obtain ⟨j, rfl⟩ : ∃ j : Nat, k = (j : Int) := ⟨k.toNat, by omega⟩
      have := beat_mul ht h j (x + g) (by omega) (by rw [← ey]; omega)
      rw [← ey] at this
      exact this
    · obtain ⟨j, rfl⟩ : ∃ j : Nat, k = -(j : Int) := ⟨(-k).toNat, by omega⟩
      have ey' : x + g = y + g + (j : Int) * t := by rw [ey, Int.neg_mul]; omega
      have := beat_mul ht h j (y + g) (by omega) (by rw [← ey']; exact hb)
      rw [← ey'] at this
      exact .symm this
  exact .trans e1 (.trans e2 (.symm e3))
end Rep
namespace Rep
/-! two lists of sayings that say the same -/
structure EqR (R S : Int → Int → Prop) : Prop where
  to : ∀ x y, R x y → Eqv S x y
  back : ∀ x y, S x y → Eqv R x y
theorem EqR.refl (R : Int → Int → Prop) : EqR R R := ⟨fun _ _ h => .of h, fun _ _ h => .of h⟩
theorem EqR.symm {R S : Int → Int → Prop} (h : EqR R S) : EqR S R := ⟨h.back, h.to⟩
theorem EqR.trans {R S T : Int → Int → Prop} (h : EqR R S) (k : EqR S T) : EqR R T := ⟨fun x y r => (h.to x y r).bind k.to, fun x y r => (k.back x y r).bind h.back⟩
theorem EqR.iff {R S : Int → Int → Prop} (h : EqR R S) {x y : Int} : Eqv R x y ↔ Eqv S x y := ⟨fun e => e.bind h.to, fun e => e.bind h.back⟩
theorem EqR.of_iff {R S : Int → Int → Prop} (h : ∀ x y, R x y ↔ S x y) : EqR R S := ⟨fun x y r => .of ((h x y).mp r), fun x y r => .of ((h x y).mpr r)⟩
def orR (R S : Int → Int → Prop) (x y : Int) : Prop := R x y ∨ S x y
theorem EqR.orl {R S : Int → Int → Prop} (T : Int → Int → Prop) (h : EqR R S) : EqR (orR R T) (orR S T) :=
  ⟨fun x y r => r.elim (fun r => (h.to x y r).mono fun _ _ z => .inl z) fun r => .of (.inr r), fun x y r => r.elim (fun r => (h.back x y r).mono fun _ _ z => .inl z) fun r => .of (.inr r)⟩
theorem EqR.orr {R S : Int → Int → Prop} (T : Int → Int → Prop) (h : EqR R S) : EqR (orR T R) (orR T S) :=
  ⟨fun x y r => r.elim (fun r => .of (.inl r)) fun r => (h.to x y r).mono fun _ _ z => .inr z, fun x y r => r.elim (fun r => .of (.inl r)) fun r => (h.back x y r).mono fun _ _ z => .inr z⟩
/-- what is added follows -/
theorem EqR.more {R S T : Int → Int → Prop} (h : ∀ x y, S x y → Eqv (orR R T) x y) (k : ∀ x y, T x y → Eqv (orR R S) x y) : EqR (orR R S) (orR R T) :=
  ⟨fun x y r => r.elim (fun r => .of (.inl r)) fun r => h x y r, fun x y r => r.elim (fun r => .of (.inl r)) fun r => k x y r⟩
theorem relL_cons {s : Sy} {K : List Sy} {x y : Int} : relL (s :: K) x y ↔ orR (rel s) (relL K) x y := by
  unfold relL orR
  constructor
  · rintro ⟨u, hu, h⟩
    rcases List.mem_cons.mp hu with rfl | hu
    · exact .inl h
    · exact .inr ⟨u, hu, h⟩
  · rintro (h | ⟨u, hu, h⟩)
    · exact ⟨s, List.mem_cons_self, h⟩
    · exact ⟨u, List.mem_cons_of_mem _ hu, h⟩
theorem relL_append {K L : List Sy} {x y : Int} : relL (K ++ L) x y ↔ orR (relL K) (relL L) x y := by
  unfold relL orR
  constructor
  · rintro ⟨u, hu, h⟩
    rcases List.mem_append.mp hu with hu | hu
    · exact .inl ⟨u, hu, h⟩
    · exact .inr ⟨u, hu, h⟩
  · rintro (⟨u, hu, h⟩ | ⟨u, hu, h⟩)
    · exact ⟨u, List.mem_append_left _ hu, h⟩
    · exact ⟨u, List.mem_append_right _ hu, h⟩
theorem relL_mem {K L : List Sy} (h : ∀ s, s ∈ K ↔ s ∈ L) : EqR (relL K) (relL L) :=
  .of_iff fun x y => ⟨fun ⟨s, hs, r⟩ => ⟨s, (h s).mp hs, r⟩, fun ⟨s, hs, r⟩ => ⟨s, (h s).mpr hs, r⟩⟩
theorem relL_nil {x y : Int} : ¬ relL [] x y := fun ⟨_, h, _⟩ => by cases h
/-! joining -/
def lead (s : Sy) : Int := s.hi - s.lo
def gcdI (a b : Int) : Int := (Nat.gcd a.toNat b.toNat : Nat)
def shared (s o : Sy) : Int := min (s.hi + s.n) (o.hi + o.n) - max s.lo o.lo
def joinF (s o : Sy) : Sy := ⟨min s.lo o.lo, min s.lo o.lo + gcdI (lead s) (lead o), max (s.hi + s.n) (o.hi + o.n) - min s.lo o.lo - gcdI (lead s) (lead o), false⟩
theorem gcd_facts {a b : Int} (ha : 0 < a) (hb : 0 < b) : 0 < gcdI a b ∧ gcdI a b ≤ a ∧ gcdI a b ≤ b ∧ (∃ k : Nat, a = (k : Int) * gcdI a b) ∧ ∃ k : Nat, b = (k : Int) * gcdI a b := by
  unfold gcdI
  have h0 : 0 < Nat.gcd a.toNat b.toNat := Nat.gcd_pos_of_pos_left _ (by omega)
  have h1 : Nat.gcd a.toNat b.toNat ≤ a.toNat := Nat.gcd_le_left _ (by omega)
  have h2 : Nat.gcd a.toNat b.toNat ≤ b.toNat := Nat.gcd_le_right _ (by omega)
  obtain ⟨k, hk⟩ := Nat.gcd_dvd_left a.toNat b.toNat
  obtain ⟨j, hj⟩ := Nat.gcd_dvd_right a.toNat b.toNat
  refine ⟨by omega, by omega, by omega, ⟨k, ?_⟩, ⟨j, ?_⟩⟩
  · have e := congrArg (fun n : Nat => (n : Int)) hk
    simp only [Int.natCast_mul] at e
    rw [Int.mul_comm]
    omega
  · have e := congrArg (fun n : Nat => (n : Int)) hj
    simp only [Int.natCast_mul] at e
    rw [Int.mul_comm]
    omega
theorem rel_straight {s : Sy} (h : s.t = false) {x y : Int} : rel s x y ↔ s.lo ≤ x ∧ x < s.lo + s.n ∧ y = x + lead s := by
  unfold rel
  rw [h, says_f]
  unfold lead
  constructor
  · intro z; omega
  · intro z; omega
theorem rel_beat {s : Sy} (h : s.t = false) {R : Int → Int → Prop} (hr : ∀ x y, rel s x y → Eqv R x y) : Beat (Eqv R) s.lo (s.hi + s.n) (lead s) := by
  intro x hx hb
  refine hr _ _ ((rel_straight h).mpr ⟨hx, ?_, rfl⟩)
  unfold lead at hb
  omega
theorem join_ok {e : Int} {s o : Sy} (hs : Ok e s) (ho : Ok e o) (hsh : lead s + lead o ≤ shared s o) : Ok e (joinF s o) := by
  have l1 : 0 < lead s := by have := hs.lt; unfold lead; omega
  have l2 : 0 < lead o := by have := ho.lt; unfold lead; omega
  obtain ⟨g0, g1, g2, _, _⟩ := gcd_facts l1 l2
  have a1 := hs.lo0
  have a2 := ho.lo0
  have a3 := hs.le
  have a4 := ho.le
  unfold shared at hsh
  unfold joinF
  generalize gcdI (lead s) (lead o) = g at *
  refine ⟨?_, ?_, ?_, ?_, fun h => (by cases h)⟩
  · show 0 ≤ min s.lo o.lo; omega
  · show min s.lo o.lo < min s.lo o.lo + g; omega
  · show 1 ≤ max (s.hi + s.n) (o.hi + o.n) - min s.lo o.lo - g; omega
  · show min s.lo o.lo + g + (max (s.hi + s.n) (o.hi + o.n) - min s.lo o.lo - g) ≤ e; omega
theorem join_eq {e : Int} {s o : Sy} (hs : Ok e s) (ho : Ok e o) (ts : s.t = false) (to : o.t = false) (hsh : lead s + lead o ≤ shared s o) : EqR (orR (rel s) (rel o)) (rel (joinF s o)) := by
  have l1 : 0 < lead s := by have := hs.lt; unfold lead; omega
  have l2 : 0 < lead o := by have := ho.lt; unfold lead; omega
  obtain ⟨g0, g1, g2, ⟨k1, e1⟩, ⟨k2, e2⟩⟩ := gcd_facts l1 l2
  have jl : lead (joinF s o) = gcdI (lead s) (lead o) := by unfold lead joinF; show min s.lo o.lo + _ - min s.lo o.lo = _; unfold lead; omega
  have je : (joinF s o).hi + (joinF s o).n = max (s.hi + s.n) (o.hi + o.n) := by
    show min s.lo o.lo + gcdI (lead s) (lead o) + (max (s.hi + s.n) (o.hi + o.n) - min s.lo o.lo - gcdI (lead s) (lead o)) = _
    omega
  have jb := rel_beat (s := joinF s o) rfl (R := rel (joinF s o)) fun x y h => .of h
  rw [jl, je] at jb
  have jb : Beat (Eqv (rel (joinF s o))) (min s.lo o.lo) (max (s.hi + s.n) (o.hi + o.n)) (gcdI (lead s) (lead o)) := jb
  have sb := rel_beat ts (R := orR (rel s) (rel o)) fun x y h => .of (.inl h)
  have ob := rel_beat to (R := orR (rel s) (rel o)) fun x y h => .of (.inr h)
  have d1 := hs.n1
  have d2 := ho.n1
  refine ⟨fun x y h => ?_, fun x y h => ?_⟩
  · rcases h with h | h
    · have h := (rel_straight ts).mp h
      have := beat_mul g0 jb k1 x (by omega) (by rw [← e1]; unfold lead; omega)
      rw [← e1, ← h.2.2] at this
      exact this
    · have h := (rel_straight to).mp h
      have := beat_mul g0 jb k2 x (by omega) (by rw [← e2]; unfold lead; omega)
      rw [← e2, ← h.2.2] at this
      exact this
  · have h := (rel_straight (s := joinF s o) rfl).mp h
    rw [jl] at h
    have hx : min s.lo o.lo ≤ x := h.1
    have hb : x + gcdI (lead s) (lead o) < max (s.hi + s.n) (o.hi + o.n) := by
      have := h.2.1
      have h2 : x < min s.lo o.lo + (max (s.hi + s.n) (o.hi + o.n) - min s.lo o.lo - gcdI (lead s) (lead o)) := this
      omega
    -- the beat within what both have
    have ib : Beat (Eqv (orR (rel s) (rel o))) (max s.lo o.lo) (min (s.hi + s.n) (o.hi + o.n)) (gcdI (lead s) (lead o)) := by
      have b1 : Beat (Eqv (orR (rel s) (rel o))) (max s.lo o.lo) (min (s.hi + s.n) (o.hi + o.n)) ((lead s).toNat : Int) := fun z h1 h2 => by
        rw [show ((lead s).toNat : Int) = lead s by omega] at h2 ⊢
        exact sb z (by omega) (by omega)
      have b2 : Beat (Eqv (orR (rel s) (rel o))) (max s.lo o.lo) (min (s.hi + s.n) (o.hi + o.n)) ((lead o).toNat : Int) := fun z h1 h2 => by
        rw [show ((lead o).toNat : Int) = lead o by omega] at h2 ⊢
        exact ob z (by omega) (by omega)
      unfold shared at hsh
      exact beat_gcd _ (lead s).toNat (lead o).toNat (Nat.le_refl _) (by omega) (by omega) (by omega) b1 b2
    unfold shared at hsh
    rw [h.2.2]
    generalize gcdI (lead s) (lead o) = g at *
    by_cases c : s.lo ≤ x ∧ x + g < s.hi + s.n
    · exact beat_spread l1 g0 sb (by omega) (by omega) (by omega) ib x c.1 c.2
    · exact beat_spread l2 g0 ob (by omega) (by omega) (by omega) ib x (by omega) (by omega)
/-! taking in -/
def fits (s o : Sy) : Bool := !o.t && decide (lead s + lead o ≤ shared s o)
def partnerF (K : List Sy) (s : Sy) : Option Nat := if s.t = true then none else K.findIdx? (fits s)
theorem partner_some {K : List Sy} {s : Sy} {k : Nat} (h : partnerF K s = some k) : s.t = false ∧ ∃ o, K[k]? = some o ∧ o.t = false ∧ lead s + lead o ≤ shared s o := by
  unfold partnerF at h
  by_cases c : s.t = true
  · rw [if_pos c] at h; cases h
  · rw [if_neg c] at h
    obtain ⟨hk, hf, _⟩ := List.findIdx?_eq_some_iff_getElem.mp h
    unfold fits at hf
    rw [Bool.and_eq_true] at hf
    refine ⟨by cases e : s.t with | false => rfl | true => exact absurd e c, K[k], List.getElem?_eq_getElem hk, ?_, of_decide_eq_true hf.2⟩
    have := hf.1
    cases e : K[k].t with
    | false => rfl
    | true => rw [e] at this; cases this
def takenF : Nat → List Sy → List Sy → List Sy
  | 0, out, _ => out
  | _ + 1, out, [] => out
  | f + 1, out, s :: w => match partnerF out s with
    | none => takenF f (out ++ [s]) w
    | some k => match out[k]? with
      | none => out
      | some o => takenF f (out.eraseIdx k) (joinF o s :: w)
theorem shared_comm (s o : Sy) : shared s o = shared o s := by
  unfold shared
  rw [Int.min_comm, Int.max_comm]
theorem mem_erase {α : Type} {l : List α} {k : Nat} {o : α} (h : l[k]? = some o) (x : α) : x ∈ l ↔ x = o ∨ x ∈ l.eraseIdx k := by
  obtain ⟨hk, e⟩ := List.getElem?_eq_some_iff.mp h
  rw [List.eraseIdx_eq_take_drop_succ]
  conv => lhs; rw [← List.take_append_drop k l, List.drop_eq_getElem_cons hk, e]
  rw [List.mem_append, List.mem_append, List.mem_cons]
  constructor
  · rintro (h | h | h)
    · exact .inr (.inl h)
    · exact .inl h
    · exact .inr (.inr h)
  · rintro (h | h | h)
    · exact .inr (.inl h)
    · exact .inl h
    · exact .inr (.inr h)
theorem taken_ok {e : Int} : ∀ (f : Nat) (out w : List Sy), 2 * w.length + out.length ≤ f → (∀ s ∈ out, Ok e s) → (∀ s ∈ w, Ok e s) →
    (∀ s ∈ takenF f out w, Ok e s) ∧ EqR (relL (takenF f out w)) (orR (relL out) (relL w)) ∧ (takenF f out w).length ≤ out.length + w.length
  | 0, out, w, hf, ho, hw => by
    have e0 : w = [] := List.length_eq_zero_iff.mp (by omega)
    subst e0
    refine ⟨ho, .of_iff fun x y => ⟨.inl, fun h => h.elim id fun h => absurd h relL_nil⟩, by show out.length ≤ _; omega⟩
  | f + 1, out, [], hf, ho, hw => ⟨ho, .of_iff fun x y => ⟨.inl, fun h => h.elim id fun h => absurd h relL_nil⟩, by show out.length ≤ _; omega⟩
  | f + 1, out, s :: w, hf, ho, hw => by
    have hs := hw s List.mem_cons_self
    have hw' : ∀ u ∈ w, Ok e u := fun u hu => hw u (List.mem_cons_of_mem _ hu)
    rw [List.length_cons] at hf
    show (∀ u ∈ (match partnerF out s with | none => takenF f (out ++ [s]) w | some k => match out[k]? with | none => out | some o => takenF f (out.eraseIdx k) (joinF o s :: w)), Ok e u) ∧ EqR (relL (match partnerF out s with | none => takenF f (out ++ [s]) w | some k => match out[k]? with | none => out | some o => takenF f (out.eraseIdx k) (joinF o s :: w))) _ ∧ (match partnerF out s with | none => takenF f (out ++ [s]) w | some k => match out[k]? with | none => out | some o => takenF f (out.eraseIdx k) (joinF o s :: w)).length ≤ _
    cases hp : partnerF out s with
    | none =>
      obtain ⟨a, b, c⟩ := taken_ok f (out ++ [s]) w (by rw [List.length_append, List.length_singleton]; omega) (fun u hu => by
        rcases List.mem_append.mp hu with hu | hu
        · exact ho u hu
        · rw [List.mem_singleton.mp hu]; exact hs) hw'
      refine ⟨a, b.trans (.of_iff fun x y => ?_), ?_⟩
      · unfold orR
        rw [relL_append, relL_cons]
        unfold orR
        rw [relL_cons]
        unfold orR
        constructor
        · rintro ((h | h | h) | h)
          · exact .inl h
          · exact .inr (.inl h)
          · exact absurd h relL_nil
          · exact .inr (.inr h)
        · rintro (h | h | h)
          · exact .inl (.inl h)
          · exact .inl (.inr (.inl h))
          · exact .inr h
      · rw [List.length_append, List.length_singleton] at c
        rw [List.length_cons]
        simp only
        omega
    | some k =>
      obtain ⟨ts, o, hk, to, hsh⟩ := partner_some hp
      have hoo := ho o (List.mem_of_getElem? hk)
      have hsh' : lead o + lead s ≤ shared o s := by rw [shared_comm]; omega
      have hkl : k < out.length := (List.getElem?_eq_some_iff.mp hk).1
      have hlen : (out.eraseIdx k).length = out.length - 1 := by rw [List.length_eraseIdx, if_pos hkl]
      simp only [hk]
      obtain ⟨a, b, c⟩ := taken_ok f (out.eraseIdx k) (joinF o s :: w) (by rw [List.length_cons, hlen]; omega) (fun u hu => ho u ((mem_erase hk u).mpr (.inr hu))) (fun u hu => by
        rcases List.mem_cons.mp hu with rfl | hu
        · exact join_ok hoo hs hsh'
        · exact hw' u hu)
      refine ⟨a, b.trans ?_, ?_⟩
      · have j := (join_eq hoo hs to ts hsh').symm
        have e1 : EqR (orR (relL (out.eraseIdx k)) (relL (joinF o s :: w))) (orR (rel (joinF o s)) (orR (relL (out.eraseIdx k)) (relL w))) := .of_iff fun x y => by
          unfold orR; rw [relL_cons]; unfold orR
          constructor
          · rintro (h | h | h)
            · exact .inr (.inl h)
            · exact .inl h
            · exact .inr (.inr h)
          · rintro (h | h | h)
            · exact .inr (.inl h)
            · exact .inl h
            · exact .inr (.inr h)
        refine e1.trans ((j.orl _).trans (.of_iff fun x y => ?_))
        unfold orR
        rw [relL_cons]
        unfold orR
        have em : relL out x y ↔ rel o x y ∨ relL (out.eraseIdx k) x y := by
          unfold relL
          constructor
          · rintro ⟨u, hu, h⟩
            rcases (mem_erase hk u).mp hu with rfl | hu
            · exact .inl h
            · exact .inr ⟨u, hu, h⟩
          · rintro (h | ⟨u, hu, h⟩)
            · exact ⟨o, (mem_erase hk o).mpr (.inl rfl), h⟩
            · exact ⟨u, (mem_erase hk u).mpr (.inr hu), h⟩
        rw [em]
        constructor
        · rintro ((h | h) | h | h)
          · exact .inl (.inl h)
          · exact .inr (.inl h)
          · exact .inl (.inr h)
          · exact .inr (.inr h)
        · rintro ((h | h) | h | h)
          · exact .inl (.inl h)
          · exact .inr (.inl h)
          · exact .inl (.inr h)
          · exact .inr (.inr h)
      · rw [List.length_cons, hlen] at c
        rw [List.length_cons]
        omega
end Rep
namespace Rep
/-! carrying by the leader -/
/-- the places of (st, n) are, by R, those of (st', n), the one way round or the other -/
def Mv (R : Int → Int → Prop) (st st' n : Int) (f : Bool) : Prop := ∀ i, 0 ≤ i → i < n → Eqv R (st + i) (if f = true then st' + n - 1 - i else st' + i)
theorem Mv.id (R : Int → Int → Prop) (st n : Int) : Mv R st st n false := fun i _ _ => by
  rw [if_neg (by decide)]; exact .refl _
theorem carry_eq {R : Int → Int → Prop} {a a' b b' n : Int} {t f g : Bool} (ha : Mv R a a' n f) (hb : Mv R b b' n g) : EqR (orR R (says a b n t)) (orR R (says a' b' n ((t ^^ f) ^^ g))) := by
  refine .more (fun x y h => ?_) (fun x y h => ?_)
  · -- x = a + i
    obtain ⟨i, hi0, hi1, rfl⟩ : ∃ i, 0 ≤ i ∧ i < n ∧ x = a + i := ⟨x - a, by have := h.1; omega, by have := h.2.1; omega, by omega⟩
    have hy : y = b + (if t = true then n - 1 - i else i) := by
      cases t with
      | true => rw [says_t] at h; rw [if_pos rfl]; omega
      | false => rw [says_f] at h; rw [if_neg (by decide)]; omega
    have e1 := (ha i hi0 hi1).mono (S := orR R (says a' b' n ((t ^^ f) ^^ g))) fun _ _ z => .inl z
    have e2 : Eqv (orR R (says a' b' n ((t ^^ f) ^^ g))) y (if g = true then b' + n - 1 - (if t = true then n - 1 - i else i) else b' + (if t = true then n - 1 - i else i)) := by
      rw [hy]
      refine (hb _ ?_ ?_).mono fun _ _ z => .inl z
      · split <;> omega
      · split <;> omega
    refine .trans e1 (.trans (.of (.inr ?_)) (.symm e2))
    cases t <;> cases f <;> cases g <;> simp only [Bool.true_xor, Bool.false_xor, Bool.not_true, Bool.not_false, if_true, if_false, Bool.false_eq_true] <;> first | (rw [says_t]; omega) | (rw [says_f]; omega)
  · obtain ⟨j, hj0, hj1, rfl⟩ : ∃ j, 0 ≤ j ∧ j < n ∧ x = a' + j := ⟨x - a', by have := h.1; omega, by have := h.2.1; omega, by omega⟩
    -- the place of the stretch that was carried there
    have hi : ∃ i, 0 ≤ i ∧ i < n ∧ (if f = true then a' + n - 1 - i else a' + i) = a' + j ∧ (if g = true then b' + n - 1 - (if t = true then n - 1 - i else i) else b' + (if t = true then n - 1 - i else i)) = y := by
      cases f with
      | true =>
        refine ⟨n - 1 - j, by omega, by omega, by rw [if_pos rfl]; omega, ?_⟩
        cases t <;> cases g <;> simp only [Bool.true_xor, Bool.false_xor, Bool.not_true, Bool.not_false, if_true, if_false, Bool.false_eq_true] at h ⊢ <;> first | (rw [says_t] at h; omega) | (rw [says_f] at h; omega)
      | false =>
        refine ⟨j, hj0, hj1, by rw [if_neg (by decide)], ?_⟩
        cases t <;> cases g <;> simp only [Bool.true_xor, Bool.false_xor, Bool.not_true, Bool.not_false, if_true, if_false, Bool.false_eq_true] at h ⊢ <;> first | (rw [says_t] at h; omega) | (rw [says_f] at h; omega)
    obtain ⟨i, h0, h1, ex, ey⟩ := hi
    have e1 := (ha i h0 h1).mono (S := orR R (says a b n t)) fun _ _ z => .inl z
    have e2 : Eqv (orR R (says a b n t)) (b + (if t = true then n - 1 - i else i)) y := by
      rw [← ey]
      refine (hb _ ?_ ?_).mono fun _ _ z => .inl z
      · split <;> omega
      · split <;> omega
    rw [ex] at e1
    refine .trans (.symm e1) (.trans (.of (.inr ?_)) e2)
    cases t with
    | true => rw [says_t, if_pos rfl]; omega
    | false => rw [says_f, if_neg (by decide)]; omega
/-- where a stretch within the leader's high one starts when it is carried -/
def cstart (l : Sy) (st n : Int) : Int := if l.t = true then l.lo + l.hi + l.n - st - n else st - ((st - l.hi) / (l.hi - l.lo) + 1) * (l.hi - l.lo)
theorem mul_le_of {q d x : Int} (hd : 0 < d) : q * d ≤ x ↔ q ≤ x / d := (Int.le_ediv_iff_mul_le hd).symm
theorem div_bounds {x d : Int} (hd : 0 < d) : x / d * d ≤ x ∧ x < (x / d + 1) * d := by
  have h1 := Int.emod_nonneg x (show d ≠ 0 by omega)
  have h2 := Int.emod_lt_of_pos x hd
  have h3 := Int.emod_add_mul_ediv x d
  rw [Int.mul_comm] at h3
  rw [Int.add_mul]
  omega
theorem cstart_mv {e : Int} {l : Sy} (hl : Ok e l) (he : l.hi + l.n = e) {st n : Int} (h1 : l.hi ≤ st) (h2 : st + n ≤ e) (hn : 1 ≤ n) :
    Mv (rel l) st (cstart l st n) n l.t ∧ 0 ≤ cstart l st n ∧ cstart l st n < st := by
  have hlt := hl.lt
  have h0 := hl.lo0
  unfold cstart
  by_cases c : l.t = true
  · rw [if_pos c]
    have hov := hl.ov c
    refine ⟨fun i hi0 hi1 => ?_, by omega, by omega⟩
    rw [if_pos c]
    refine .symm (.of ?_)
    unfold rel
    rw [c, says_t]
    omega
  · rw [if_neg c]
    have c' : l.t = false := by cases e : l.t with | false => rfl | true => exact absurd e c
    have hd : 0 < l.hi - l.lo := by omega
    obtain ⟨b1, b2⟩ := div_bounds (x := st - l.hi) hd
    have hq : 0 ≤ (st - l.hi) / (l.hi - l.lo) := Int.ediv_nonneg (by omega) (by omega)
    have hB := rel_beat c' (R := rel l) fun x y h => .of h
    rw [he] at hB
    have eL : lead l = l.hi - l.lo := rfl
    obtain ⟨k, hk⟩ : ∃ k : Nat, (st - l.hi) / (l.hi - l.lo) + 1 = (k : Int) := ⟨((st - l.hi) / (l.hi - l.lo) + 1).toNat, by omega⟩
    rw [hk] at b2 ⊢
    have b3 : (k : Int) * (l.hi - l.lo) ≤ st - l.hi + (l.hi - l.lo) := by
      rw [← hk, Int.add_mul]
      omega
    have b4 : l.hi - l.lo ≤ (k : Int) * (l.hi - l.lo) := by
      rw [← hk, Int.add_mul]
      have := Int.mul_nonneg hq (show 0 ≤ l.hi - l.lo by omega)
      omega
    refine ⟨fun i hi0 hi1 => ?_, by omega, by omega⟩
    rw [if_neg c]
    have := beat_mul (R := rel l) (t := lead l) hd hB k (st - (k : Int) * (l.hi - l.lo) + i) (by omega) (by rw [eL]; omega)
    rw [eL, show st - (k : Int) * (l.hi - l.lo) + i + (k : Int) * (l.hi - l.lo) = st + i by omega] at this
    exact .symm this
/-- a saying, each of its stretches carried that lies within the leader's high one: not yet as it is kept -/
def carryF (l s : Sy) : Int × Int × Int × Bool :=
  (if l.hi ≤ s.lo then cstart l s.lo s.n else s.lo, if l.hi ≤ s.hi then cstart l s.hi s.n else s.hi, s.n, (s.t ^^ (decide (l.hi ≤ s.lo) && l.t)) ^^ (decide (l.hi ≤ s.hi) && l.t))
def saysQ (q : Int × Int × Int × Bool) (x y : Int) : Prop := says q.1 q.2.1 q.2.2.1 q.2.2.2 x y
theorem carryF_ok {e : Int} {l s : Sy} (hl : Ok e l) (he : l.hi + l.n = e) (hs : Ok e s) (hh : l.hi ≤ s.hi) :
    EqR (orR (rel l) (rel s)) (orR (rel l) (saysQ (carryF l s))) ∧ 0 ≤ (carryF l s).1 ∧ 0 ≤ (carryF l s).2.1 ∧ (carryF l s).1 + s.n < e ∧ (carryF l s).2.1 + s.n < e := by
  have a1 := hs.lo0
  have a2 := hs.lt
  have a3 := hs.n1
  have a4 := hs.le
  obtain ⟨m2, c2, d2⟩ := cstart_mv hl he hh a4 a3
  have eh : (if l.hi ≤ s.hi then cstart l s.hi s.n else s.hi) = cstart l s.hi s.n := if_pos hh
  have fh : (decide (l.hi ≤ s.hi) && l.t) = l.t := by rw [decide_eq_true hh]; rfl
  unfold carryF saysQ
  simp only [eh, fh]
  by_cases c : l.hi ≤ s.lo
  · obtain ⟨m1, c1, d1⟩ := cstart_mv hl he c (show s.lo + s.n ≤ e by omega) a3
    rw [if_pos c, decide_eq_true c]
    simp only [Bool.true_and]
    exact ⟨carry_eq m1 m2, c1, c2, by omega, by omega⟩
  · rw [if_neg c, decide_eq_false c]
    simp only [Bool.false_and]
    exact ⟨carry_eq (Mv.id _ _ _) m2, a1, c2, by omega, by omega⟩
/-! the cut -/
structure Ct where
  lo : Int
  be : Int
  by_ : Int
  t : Bool
def led (c : Ct) (x : Int) : Int := if c.t = true then c.by_ - x else x - ((x - c.lo) / c.by_ + 1) * c.by_
def link (c : Ct) (x y : Int) : Prop := 0 < c.by_ ∧ c.lo ≤ x ∧ x < c.be ∧ y = led c x
def shortF (l : Sy) (e' : Int) : Int × Int × Int × Bool := if l.t = true then (l.lo + (l.hi + l.n - e'), l.hi, l.n - (l.hi + l.n - e'), true) else (l.lo, l.hi, l.n - (l.hi + l.n - e'), false)
def cutF (l : Sy) (e' : Int) : Ct := ⟨e', l.hi + l.n, if l.t = true then l.lo + l.hi + l.n - 1 else l.hi - l.lo, l.t⟩
theorem cut_by_pos {e : Int} {l : Sy} (hl : Ok e l) (e' : Int) : 0 < (cutF l e').by_ := by
  have := hl.lt
  have := hl.lo0
  have := hl.n1
  unfold cutF
  show 0 < if l.t = true then _ else _
  split <;> omega
theorem cut_led {e e' : Int} {l : Sy} (hl : Ok e l) (h1 : l.hi ≤ e') {x : Int} (hx : e' ≤ x) (hb : x < l.hi + l.n) : 0 ≤ led (cutF l e') x ∧ led (cutF l e') x < e' ∧ Eqv (rel l) x (led (cutF l e') x) := by
  have hlt := hl.lt
  have h0 := hl.lo0
  unfold led cutF
  by_cases c : l.t = true
  · simp only [if_pos c]
    have hov := hl.ov c
    refine ⟨by omega, by omega, .symm (.of ?_)⟩
    unfold rel
    rw [c, says_t]
    omega
  · simp only [if_neg c]
    have c' : l.t = false := by cases e : l.t with | false => rfl | true => exact absurd e c
    have hd : 0 < l.hi - l.lo := by omega
    obtain ⟨b1, b2⟩ := div_bounds (x := x - e') hd
    have hq : 0 ≤ (x - e') / (l.hi - l.lo) := Int.ediv_nonneg (by omega) (by omega)
    have hB := rel_beat c' (R := rel l) fun x y h => .of h
    have eL : lead l = l.hi - l.lo := rfl
    obtain ⟨k, hk⟩ : ∃ k : Nat, (x - e') / (l.hi - l.lo) + 1 = (k : Int) := ⟨((x - e') / (l.hi - l.lo) + 1).toNat, by omega⟩
    rw [hk] at b2 ⊢
    have b3 : (k : Int) * (l.hi - l.lo) ≤ x - e' + (l.hi - l.lo) := by
      rw [← hk, Int.add_mul]
      omega
    refine ⟨by omega, by omega, ?_⟩
    have := beat_mul (R := rel l) (t := lead l) hd hB k (x - (k : Int) * (l.hi - l.lo)) (by omega) (by rw [eL]; omega)
    rw [eL, show x - (k : Int) * (l.hi - l.lo) + (k : Int) * (l.hi - l.lo) = x by omega] at this
    exact .symm this
theorem cut_eq {e e' : Int} {l : Sy} (hl : Ok e l) (h1 : l.hi ≤ e') (h2 : e' ≤ l.hi + l.n) : EqR (rel l) (orR (saysQ (shortF l e')) (link (cutF l e'))) := by
  have hlt := hl.lt
  have h0 := hl.lo0
  refine ⟨fun x y h => ?_, fun x y h => ?_⟩
  · by_cases c : l.t = true
    · have hs : saysQ (shortF l e') = says (l.lo + (l.hi + l.n - e')) l.hi (l.n - (l.hi + l.n - e')) true := by unfold saysQ shortF; rw [if_pos c]
      have hov := hl.ov c
      unfold rel at h
      rw [c, says_t] at h
      by_cases d : y < e'
      · refine .of (.inl ?_)
        rw [hs, says_t]
        omega
      · refine .symm (.of (.inr ⟨cut_by_pos hl e', ?_, ?_, ?_⟩))
        · show e' ≤ y; omega
        · show y < l.hi + l.n; omega
        · unfold led cutF
          simp only [if_pos c]
          omega
    · have c' : l.t = false := by cases e : l.t with | false => rfl | true => exact absurd e c
      have hs : saysQ (shortF l e') = says l.lo l.hi (l.n - (l.hi + l.n - e')) false := by unfold saysQ shortF; rw [if_neg c]
      have h := (rel_straight c').mp h
      have eL : lead l = l.hi - l.lo := rfl
      rw [eL] at h
      have hd : 0 < l.hi - l.lo := by omega
      by_cases d : y < e'
      · refine .of (.inl ?_)
        rw [hs, says_f]
        omega
      · have hy : Eqv (orR (saysQ (shortF l e')) (link (cutF l e'))) y (led (cutF l e') y) := .of (.inr ⟨cut_by_pos hl e', by show e' ≤ y; omega, by show y < l.hi + l.n; omega, rfl⟩)
        have ly : led (cutF l e') y = y - ((y - e') / (l.hi - l.lo) + 1) * (l.hi - l.lo) := by
          unfold led cutF; simp only [if_neg c]
        by_cases g : x < e'
        · have e0 : (y - e') / (l.hi - l.lo) = 0 := Int.ediv_eq_zero_of_lt (by omega) (by omega)
          rw [ly, e0] at hy
          rw [show y - (0 + 1) * (l.hi - l.lo) = x by omega] at hy
          exact .symm hy
        · have hx : Eqv (orR (saysQ (shortF l e')) (link (cutF l e'))) x (led (cutF l e') x) := .of (.inr ⟨cut_by_pos hl e', by show e' ≤ x; omega, by show x < l.hi + l.n; omega, rfl⟩)
          have lx : led (cutF l e') x = x - ((x - e') / (l.hi - l.lo) + 1) * (l.hi - l.lo) := by
            unfold led cutF; simp only [if_neg c]
          have e0 : (y - e') / (l.hi - l.lo) = (x - e') / (l.hi - l.lo) + 1 := by
            have : y - e' = (x - e') + (l.hi - l.lo) := by omega
            rw [this, Int.add_ediv_of_dvd_right (Int.dvd_refl _), Int.ediv_self (by omega)]
          have ee : led (cutF l e') y = led (cutF l e') x := by
            rw [ly, lx, e0, Int.add_mul, Int.add_mul]
            omega
          rw [ee] at hy
          exact .trans hx (.symm hy)
  · rcases h with h | h
    · by_cases c : l.t = true
      · have hs : saysQ (shortF l e') = says (l.lo + (l.hi + l.n - e')) l.hi (l.n - (l.hi + l.n - e')) true := by unfold saysQ shortF; rw [if_pos c]
        rw [hs, says_t] at h
        refine .of ?_
        unfold rel
        rw [c, says_t]
        omega
      · have c' : l.t = false := by cases e : l.t with | false => rfl | true => exact absurd e c
        have hs : saysQ (shortF l e') = says l.lo l.hi (l.n - (l.hi + l.n - e')) false := by unfold saysQ shortF; rw [if_neg c]
        rw [hs, says_f] at h
        refine .of ?_
        unfold rel
        rw [c', says_f]
        omega
    · obtain ⟨_, hx, hb, rfl⟩ := h
      exact (cut_led hl h1 hx hb).2.2
/-! following -/
def fOf : List Ct → Int → Int
  | [], x => x
  | c :: r, x => if c.lo ≤ x then (if 0 < c.by_ then fOf r (led c x) else x) else fOf r x
/-- what the cuts of a song below e are to the sayings that are left: told from the song's end -/
inductive Stg : Int → List Sy → List Ct → Prop
  | nil {K : List Sy} : (∀ s ∈ K, Ok 0 s) → Stg 0 K []
  | free {e e' : Int} {K : List Sy} {C : List Ct} : 0 ≤ e' → e' < e → (∀ s ∈ K, Ok e' s) → Stg e' K C → Stg e K (⟨e', e, 0, false⟩ :: C)
  | led {e e' : Int} {K K' : List Sy} {c : Ct} {C : List Ct} : 0 ≤ e' → e' < e → (∀ s ∈ K, Ok e s) → (∀ s ∈ K', Ok e' s) → c.lo = e' → c.be = e → 0 < c.by_ → (∀ x, e' ≤ x → x < e → 0 ≤ led c x ∧ led c x < e') →
      EqR (relL K) (orR (relL K') (link c)) → Stg e' K' C → Stg e K (c :: C)
theorem Ok.both {e : Int} {s : Sy} (h : Ok e s) {x y : Int} (r : rel s x y) : (0 ≤ x ∧ x < e) ∧ 0 ≤ y ∧ y < e := by
  have a1 := h.lo0
  have a2 := h.lt
  have a4 := h.le
  unfold rel at r
  cases c : s.t with
  | true => rw [c, says_t] at r; omega
  | false => rw [c, says_f] at r; omega
theorem fOf_ok {e : Int} {K : List Sy} {C : List Ct} (h : Stg e K C) :
    (∀ x, 0 ≤ x → x < e → 0 ≤ fOf C x ∧ fOf C x ≤ x ∧ Eqv (relL K) x (fOf C x)) ∧ ∀ x y, Eqv (relL K) x y → (x = y ∨ (0 ≤ x ∧ x < e ∧ 0 ≤ y ∧ y < e ∧ fOf C x = fOf C y)) := by
  -- a relation within [0, e) that f keeps is kept along any number of steps
  have along : ∀ {R : Int → Int → Prop} {e : Int} {F : Int → Int}, (∀ x y, R x y → 0 ≤ x ∧ x < e ∧ 0 ≤ y ∧ y < e ∧ F x = F y) → ∀ x y, Eqv R x y → (x = y ∨ (0 ≤ x ∧ x < e ∧ 0 ≤ y ∧ y < e ∧ F x = F y)) := by
    intro R e F hR x y h
    induction h with
    | refl x => exact .inl rfl
    | of r => exact .inr (hR _ _ r)
    | symm _ ih =>
      rcases ih with e | ⟨a, b, c, d, e⟩
      · exact .inl e.symm
      · exact .inr ⟨c, d, a, b, e.symm⟩
    | trans _ _ i1 i2 =>
      rcases i1 with e1 | ⟨a, b, c, d, e1⟩
      · rw [e1]; exact i2
      · rcases i2 with e2 | ⟨_, _, c', d', e2⟩
        · rw [← e2]; exact .inr ⟨a, b, c, d, e1⟩
        · exact .inr ⟨a, b, c', d', e1.trans e2⟩
  induction h with
  | nil hK =>
    refine ⟨fun x h0 h1 => by omega, along fun x y ⟨s, hs, r⟩ => ?_⟩
    have := (hK s hs).both r
    omega
  | @free e e' K C h0 h1 hK _ ih =>
    obtain ⟨i1, i2⟩ := ih
    have f1 : ∀ x, e' ≤ x → fOf (⟨e', e, 0, false⟩ :: C) x = x := fun x hx => by
      show (if e' ≤ x then (if (0 : Int) < 0 then _ else x) else _) = x
      rw [if_pos hx, if_neg (by decide)]
    have f2 : ∀ x, x < e' → fOf (⟨e', e, 0, false⟩ :: C) x = fOf C x := fun x hx => by
      show (if e' ≤ x then _ else fOf C x) = _
      rw [if_neg (by omega)]
    refine ⟨fun x hx hb => ?_, along fun x y ⟨s, hs, r⟩ => ?_⟩
    · by_cases c : e' ≤ x
      · rw [f1 x c]; exact ⟨hx, Int.le_refl _, .refl x⟩
      · rw [f2 x (by omega)]; exact i1 x hx (by omega)
    · have hb := (hK s hs).both r
      refine ⟨hb.1.1, by omega, hb.2.1, by omega, ?_⟩
      rw [f2 x (by omega), f2 y (by omega)]
      rcases i2 x y (.of ⟨s, hs, r⟩) with e | e
      · rw [e]
      · exact e.2.2.2.2
  | @led e e' K K' c C h0 h1 hK hK' hlo hbe hby hled heq _ ih =>
    obtain ⟨i1, i2⟩ := ih
    have f1 : ∀ x, e' ≤ x → fOf (c :: C) x = fOf C (led c x) := fun x hx => by
      show (if c.lo ≤ x then (if 0 < c.by_ then _ else x) else _) = _
      rw [hlo, if_pos hx, if_pos hby]
    have f2 : ∀ x, x < e' → fOf (c :: C) x = fOf C x := fun x hx => by
      show (if c.lo ≤ x then _ else fOf C x) = _
      rw [hlo, if_neg (by omega)]
    have up : ∀ {x y}, Eqv (relL K') x y → Eqv (relL K) x y := fun {x y} h => heq.iff.mpr (h.mono fun _ _ z => .inl z)
    refine ⟨fun x hx hb => ?_, fun x y h => ?_⟩
    · by_cases d : e' ≤ x
      · obtain ⟨l0, l1⟩ := hled x d hb
        obtain ⟨a, b, g⟩ := i1 _ l0 l1
        rw [f1 x d]
        refine ⟨a, by omega, .trans (heq.iff.mpr (.of (.inr ⟨hby, by rw [hlo]; exact d, by rw [hbe]; exact hb, rfl⟩))) (up g)⟩
      · rw [f2 x (by omega)]
        obtain ⟨a, b, g⟩ := i1 x hx (by omega)
        exact ⟨a, b, up g⟩
    · refine along (R := orR (relL K') (link c)) (fun x y r => ?_) x y (heq.iff.mp h)
      rcases r with ⟨s, hs, r⟩ | ⟨_, hx, hb, rfl⟩
      · have hb := (hK' s hs).both r
        refine ⟨hb.1.1, by omega, hb.2.1, by omega, ?_⟩
        rw [f2 x (by omega), f2 y (by omega)]
        rcases i2 x y (.of ⟨s, hs, r⟩) with e | e
        · rw [e]
        · exact e.2.2.2.2
      · rw [hlo] at hx
        rw [hbe] at hb
        obtain ⟨l0, l1⟩ := hled x hx hb
        refine ⟨by omega, hb, l0, by omega, ?_⟩
        rw [f1 x hx, f2 _ l1]
/-- so what is come to is the least place alike -/
theorem fOf_least {e : Int} {K : List Sy} {C : List Ct} (h : Stg e K C) {x y : Int} (hx : 0 ≤ x) (hb : x < e) (hy : Eqv (relL K) x y) : fOf C x ≤ y := by
  obtain ⟨a, b⟩ := fOf_ok h
  rcases b x y hy with e | ⟨_, _, c, d, e⟩
  · rw [← e]; exact (a x hx hb).2.1
  · rw [e]; exact (a y c d).2.1
end Rep
namespace Rep
/-! the whole reckoning -/
def keptL (qs : List (Int × Int × Int × Bool)) : List Sy := qs.filterMap fun q => keptF q.1 q.2.1 q.2.2.1 q.2.2.2
def relQ (qs : List (Int × Int × Int × Bool)) (x y : Int) : Prop := ∃ q ∈ qs, saysQ q x y
theorem keptL_eq (qs : List (Int × Int × Int × Bool)) : EqR (relQ qs) (relL (keptL qs)) := by
  refine ⟨fun x y ⟨q, hq, h⟩ => ?_, fun x y ⟨s, hs, h⟩ => ?_⟩
  · refine ((kept_eq (a := q.1) (b := q.2.1) (n := q.2.2.1) (t := q.2.2.2)).1 x y h).mono fun x y ⟨s, e, r⟩ => ⟨s, ?_, r⟩
    exact List.mem_filterMap.mpr ⟨q, hq, e⟩
  · obtain ⟨q, hq, e⟩ := List.mem_filterMap.mp hs
    exact ((kept_eq (a := q.1) (b := q.2.1) (n := q.2.2.1) (t := q.2.2.2)).2 x y ⟨s, e, h⟩).mono fun x y r => ⟨q, hq, r⟩
def gE (K : List Sy) : Int := K.foldl (fun a s => max a (s.hi + s.n)) 0
theorem gE_fold : ∀ (K : List Sy) (a : Int), a ≤ K.foldl (fun a s => max a (s.hi + s.n)) a ∧ (∀ s ∈ K, s.hi + s.n ≤ K.foldl (fun a s => max a (s.hi + s.n)) a) ∧ ∀ e, a < e → (∀ s ∈ K, s.hi + s.n < e) → K.foldl (fun a s => max a (s.hi + s.n)) a < e
  | [], a => ⟨Int.le_refl _, fun s h => (by cases h), fun e h _ => h⟩
  | s :: K, a => by
    obtain ⟨h1, h2, h3⟩ := gE_fold K (max a (s.hi + s.n))
    refine ⟨?_, fun u hu => ?_, fun e ha hK => ?_⟩
    · show a ≤ K.foldl _ (max a (s.hi + s.n)); omega
    · show u.hi + u.n ≤ K.foldl _ (max a (s.hi + s.n))
      rcases List.mem_cons.mp hu with rfl | hu
      · omega
      · exact h2 u hu
    · refine h3 e ?_ fun u hu => hK u (List.mem_cons_of_mem _ hu)
      have := hK s List.mem_cons_self
      omega
theorem gE_nonneg (K : List Sy) : 0 ≤ gE K := (gE_fold K 0).1
theorem gE_ge {K : List Sy} {s : Sy} (h : s ∈ K) : s.hi + s.n ≤ gE K := (gE_fold K 0).2.1 s h
theorem gE_lt {K : List Sy} {e : Int} (h0 : 0 < e) (h : ∀ s ∈ K, s.hi + s.n < e) : gE K < e := (gE_fold K 0).2.2 e h0 h
/-- ends later, or as late with longer stretches -/
def better (a b : Sy) : Bool := decide (b.hi + b.n < a.hi + a.n ∨ (b.hi + b.n = a.hi + a.n ∧ b.n < a.n))
def bestF (s : Sy) (K : List Sy) : Sy := K.foldl (fun b s => if better s b = true then s else b) s
theorem best_ok : ∀ (K : List Sy) (s : Sy), bestF s K ∈ s :: K ∧ ∀ u ∈ s :: K, better u (bestF s K) = false
  | [], s => ⟨List.mem_cons_self, fun u hu => by
    have e : u = s := List.mem_singleton.mp hu
    rw [e]
    show better s s = false
    unfold better
    exact decide_eq_false (by omega)⟩
  | v :: K, s => by
    show (K.foldl _ (if better v s = true then v else s)) ∈ _ ∧ ∀ u ∈ _, better u (K.foldl _ (if better v s = true then v else s)) = false
    have hv : ∀ u, u = s ∨ u = v → better u (if better v s = true then v else s) = false := by
      intro u hu
      unfold better
      by_cases c : v.hi + v.n > s.hi + s.n ∨ (s.hi + s.n = v.hi + v.n ∧ s.n < v.n)
      · rw [if_pos (decide_eq_true (by omega))]
        rcases hu with rfl | rfl
        · exact decide_eq_false (by omega)
        · exact decide_eq_false (by omega)
      · rw [if_neg (fun z => c (by have := of_decide_eq_true z; omega))]
        rcases hu with rfl | rfl
        · exact decide_eq_false (by omega)
        · exact decide_eq_false (by omega)
    obtain ⟨a, b⟩ := best_ok K (if better v s = true then v else s)
    unfold bestF at a b
    refine ⟨?_, fun u hu => ?_⟩
    · rcases List.mem_cons.mp a with a | a
      · rw [a]
        by_cases c : better v s = true
        · rw [if_pos c]; exact List.mem_cons_of_mem _ List.mem_cons_self
        · rw [if_neg c]; exact List.mem_cons_self
      · exact List.mem_cons_of_mem _ (List.mem_cons_of_mem _ a)
    · rcases List.mem_cons.mp hu with h | hu
      · have h1 := hv u (.inl h)
        have h2 := b _ List.mem_cons_self
        unfold better at *
        have h1 := of_decide_eq_false h1
        have h2 := of_decide_eq_false h2
        exact decide_eq_false (by omega)
      · rcases List.mem_cons.mp hu with h | hu
        · have h1 := hv u (.inr h)
          have h2 := b _ List.mem_cons_self
          unfold better at *
          have h1 := of_decide_eq_false h1
          have h2 := of_decide_eq_false h2
          exact decide_eq_false (by omega)
        · exact b u (List.mem_cons_of_mem _ hu)
def leadF : List Sy → Option Sy
  | [] => none
  | s :: K => some (bestF s K)
/-- what is left behind the leader's cut, and where the song ends then -/
def stillF (l : Sy) (O : List Sy) : List Sy := O.filter fun s => decide (s.hi < l.hi)
def freshF (l : Sy) (O : List Sy) : List Sy := keptL ((O.filter fun s => decide (l.hi ≤ s.hi)).map (carryF l))
def endF (l : Sy) (O : List Sy) : Int := max (max l.hi (gE (stillF l O))) (gE (freshF l O))
def nextF (l : Sy) (O : List Sy) : List Sy :=
  let fr := freshF l O ++ keptL [shortF l (endF l O)]
  takenF (2 * fr.length + (stillF l O).length) (stillF l O) fr.reverse
structure Leads (e : Int) (l : Sy) (O : List Sy) : Prop where
  ok : Ok e l
  en : l.hi + l.n = e
  oth : ∀ s ∈ O, Ok e s
  best : ∀ s ∈ O, better s l = false
theorem Leads.still {e : Int} {l : Sy} {O : List Sy} (h : Leads e l O) : ∀ s ∈ stillF l O, Ok e s ∧ s.hi + s.n < e := by
  intro s hs
  obtain ⟨h1, h2⟩ := List.mem_filter.mp hs
  have h2 := of_decide_eq_true h2
  have h3 := h.oth s h1
  have h4 := of_decide_eq_false (h.best s h1)
  have h5 := h3.le
  have h6 := h.en
  exact ⟨h3, by omega⟩
theorem Leads.fresh {e : Int} {l : Sy} {O : List Sy} (h : Leads e l O) : ∀ s ∈ freshF l O, Ok e s ∧ s.hi + s.n < e := by
  intro s hs
  obtain ⟨q, hq, e1⟩ := List.mem_filterMap.mp hs
  obtain ⟨u, hu, rfl⟩ := List.mem_map.mp hq
  obtain ⟨h1, h2⟩ := List.mem_filter.mp hu
  have h2 := of_decide_eq_true h2
  obtain ⟨_, c1, c2, c3, c4⟩ := carryF_ok h.ok h.en (h.oth u h1) h2
  have en : (carryF l u).2.2.1 = u.n := rfl
  rw [en] at e1
  obtain ⟨k1, k2⟩ := kept_ok c1 c2 (show (carryF l u).1 + u.n ≤ e by omega) (show (carryF l u).2.1 + u.n ≤ e by omega) e1
  exact ⟨k1, by omega⟩
theorem Leads.end_ {e : Int} {l : Sy} {O : List Sy} (h : Leads e l O) : l.hi ≤ endF l O ∧ endF l O < e := by
  have h1 := h.ok.lo0
  have h2 := h.ok.lt
  have h3 := h.ok.n1
  have h4 := h.en
  have g1 := gE_lt (K := stillF l O) (e := e) (by omega) fun s hs => (h.still s hs).2
  have g2 := gE_lt (K := freshF l O) (e := e) (by omega) fun s hs => (h.fresh s hs).2
  unfold endF
  omega
theorem Leads.stage {e : Int} {l : Sy} {O : List Sy} (h : Leads e l O) :
    (∀ s ∈ nextF l O, Ok (endF l O) s) ∧ EqR (orR (rel l) (relL O)) (orR (relL (nextF l O)) (link (cutF l (endF l O)))) ∧ (nextF l O).length ≤ O.length + 1 := by
  obtain ⟨e1, e2⟩ := h.end_
  have en := h.en
  have l0 := h.ok.lo0
  have l1 := h.ok.lt
  have l2 := h.ok.n1
  -- the shortened leader
  have hsh : ∀ s ∈ keptL [shortF l (endF l O)], Ok (endF l O) s := fun s hs => by
    obtain ⟨q, hq, k⟩ := List.mem_filterMap.mp hs
    have eq_ : q = shortF l (endF l O) := List.mem_singleton.mp hq
    subst eq_
    by_cases c : l.t = true
    · have es : shortF l (endF l O) = (l.lo + (l.hi + l.n - endF l O), l.hi, l.n - (l.hi + l.n - endF l O), true) := if_pos c
      rw [es] at k
      have hov := h.ok.ov c
      exact (kept_ok (by show 0 ≤ l.lo + (l.hi + l.n - endF l O); omega) (by show 0 ≤ l.hi; omega) (by show l.lo + (l.hi + l.n - endF l O) + (l.n - (l.hi + l.n - endF l O)) ≤ endF l O; omega) (by show l.hi + (l.n - (l.hi + l.n - endF l O)) ≤ endF l O; omega) k).1
    · have es : shortF l (endF l O) = (l.lo, l.hi, l.n - (l.hi + l.n - endF l O), false) := if_neg c
      rw [es] at k
      exact (kept_ok (by show 0 ≤ l.lo; omega) (by show 0 ≤ l.hi; omega) (by show l.lo + (l.n - (l.hi + l.n - endF l O)) ≤ endF l O; omega) (by show l.hi + (l.n - (l.hi + l.n - endF l O)) ≤ endF l O; omega) k).1
  have hst : ∀ s ∈ stillF l O, Ok (endF l O) s := fun s hs => (h.still s hs).1.mono (by have := gE_ge hs; unfold endF; omega)
  have hfr : ∀ s ∈ freshF l O, Ok (endF l O) s := fun s hs => (h.fresh s hs).1.mono (by have := gE_ge hs; unfold endF; omega)
  have hw : ∀ s ∈ (freshF l O ++ keptL [shortF l (endF l O)]).reverse, Ok (endF l O) s := fun s hs => by
    rcases List.mem_append.mp (List.mem_reverse.mp hs) with hs | hs
    · exact hfr s hs
    · exact hsh s hs
  obtain ⟨t1, t2, t3⟩ := taken_ok (e := endF l O) (2 * (freshF l O ++ keptL [shortF l (endF l O)]).length + (stillF l O).length) (stillF l O) (freshF l O ++ keptL [shortF l (endF l O)]).reverse (by rw [List.length_reverse]; omega) hst hw
  refine ⟨t1, ?_, ?_⟩
  · -- the others, carried
    have c1 : EqR (orR (rel l) (relL O)) (orR (rel l) (orR (relL (stillF l O)) (relQ ((O.filter fun s => decide (l.hi ≤ s.hi)).map (carryF l))))) := by
      refine .more (fun x y ⟨s, hs, r⟩ => ?_) (fun x y r => ?_)
      · by_cases c : l.hi ≤ s.hi
        · refine ((carryF_ok h.ok en (h.oth s hs) c).1.to x y (.inr r)).mono fun x y z => ?_
          rcases z with z | z
          · exact .inl z
          · exact .inr (.inr ⟨_, List.mem_map.mpr ⟨s, List.mem_filter.mpr ⟨hs, decide_eq_true c⟩, rfl⟩, z⟩)
        · exact .of (.inr (.inl ⟨s, List.mem_filter.mpr ⟨hs, decide_eq_true (by omega)⟩, r⟩))
      · rcases r with ⟨s, hs, r⟩ | ⟨q, hq, r⟩
        · exact .of (.inr ⟨s, (List.mem_filter.mp hs).1, r⟩)
        · obtain ⟨s, hs, rfl⟩ := List.mem_map.mp hq
          obtain ⟨h1, h2⟩ := List.mem_filter.mp hs
          refine ((carryF_ok h.ok en (h.oth s h1) (of_decide_eq_true h2)).1.back x y (.inr r)).mono fun x y z => ?_
          rcases z with z | z
          · exact .inl z
          · exact .inr ⟨s, h1, z⟩
    have c2 : EqR (relQ ((O.filter fun s => decide (l.hi ≤ s.hi)).map (carryF l))) (relL (freshF l O)) := keptL_eq _
    have c3 : EqR (rel l) (orR (relL (keptL [shortF l (endF l O)])) (link (cutF l (endF l O)))) := by
      refine (cut_eq h.ok e1 (by omega)).trans (EqR.orl _ ?_)
      refine EqR.trans (.of_iff fun x y => ?_) (keptL_eq [shortF l (endF l O)])
      constructor
      · intro r; exact ⟨_, List.mem_singleton.mpr rfl, r⟩
      · rintro ⟨q, hq, r⟩
        rw [List.mem_singleton.mp hq] at r
        exact r
    refine (c1.trans (((c2.orr _).orr _).trans (c3.orl _))).trans ?_
    refine EqR.trans (.of_iff fun x y => ?_) (EqR.orl _ (t2.symm))
    unfold orR
    have em : relL (freshF l O ++ keptL [shortF l (endF l O)]).reverse x y ↔ relL (freshF l O) x y ∨ relL (keptL [shortF l (endF l O)]) x y := by
      have e0 : relL (freshF l O ++ keptL [shortF l (endF l O)]).reverse x y ↔ relL (freshF l O ++ keptL [shortF l (endF l O)]) x y :=
        ⟨fun ⟨s, hs, r⟩ => ⟨s, List.mem_reverse.mp hs, r⟩, fun ⟨s, hs, r⟩ => ⟨s, List.mem_reverse.mpr hs, r⟩⟩
      rw [e0, relL_append]
      rfl
    rw [em]
    constructor
    · rintro ((h | h) | h | h)
      · exact .inl (.inr (.inr h))
      · exact .inr h
      · exact .inl (.inl h)
      · exact .inl (.inr (.inl h))
    · rintro ((h | h | h) | h)
      · exact .inr (.inl h)
      · exact .inr (.inr h)
      · exact .inl (.inl h)
      · exact .inl (.inr h)
  · refine Nat.le_trans t3 ?_
    rw [List.length_reverse, List.length_append]
    have f1 : (freshF l O).length ≤ (O.filter fun s => decide (l.hi ≤ s.hi)).length := by
      unfold freshF keptL
      refine Nat.le_trans (List.length_filterMap_le _ _) ?_
      rw [List.length_map]
      exact Nat.le_refl _
    have f2 : (keptL [shortF l (endF l O)]).length ≤ 1 := List.length_filterMap_le _ _
    have f3 : (stillF l O).length + (O.filter fun s => decide (l.hi ≤ s.hi)).length = O.length := by
      unfold stillF
      clear t1 t2 t3 hw hfr hst hsh f1 f2 h en e1 e2
      induction O with
      | nil => rfl
      | cons s O ih =>
        by_cases c : s.hi < l.hi
        · have e1 : (s :: O).filter (fun s => decide (s.hi < l.hi)) = s :: O.filter (fun s => decide (s.hi < l.hi)) := by simp [c]
          have e2 : (s :: O).filter (fun s => decide (l.hi ≤ s.hi)) = O.filter (fun s => decide (l.hi ≤ s.hi)) := by
            have c' : ¬ l.hi ≤ s.hi := by omega
            simp [c']
          rw [e1, e2, List.length_cons, List.length_cons]
          omega
        · have e1 : (s :: O).filter (fun s => decide (s.hi < l.hi)) = O.filter (fun s => decide (s.hi < l.hi)) := by simp [c]
          have e2 : (s :: O).filter (fun s => decide (l.hi ≤ s.hi)) = s :: O.filter (fun s => decide (l.hi ≤ s.hi)) := by
            have c' : l.hi ≤ s.hi := by omega
            simp [c']
          rw [e1, e2, List.length_cons, List.length_cons]
          omega
    omega
/-- one cut of what is left -/
def cutBy (K : List Sy) : Option (Ct × List Sy) := match leadF K with
  | none => none
  | some l => some (cutF l (endF l (K.erase l)), nextF l (K.erase l))
theorem lead_leads {e : Int} {K : List Sy} {l : Sy} (hK : ∀ s ∈ K, Ok e s) (he : e ≤ gE K) (h0 : 0 < e) (hl : leadF K = some l) : Leads e l (K.erase l) ∧ l ∈ K := by
  cases K with
  | nil => cases hl
  | cons s K =>
    cases hl
    obtain ⟨a, b⟩ := best_ok K s
    refine ⟨⟨hK _ a, ?_, fun u hu => hK u (List.mem_of_mem_erase hu), fun u hu => b u (List.mem_of_mem_erase hu)⟩, a⟩
    -- it ends last
    have h1 := (hK _ a).le
    by_cases c : (bestF s K).hi + (bestF s K).n < e
    · have : gE (s :: K) < e := gE_lt h0 fun u hu => by
        have := of_decide_eq_false (b u hu)
        omega
      omega
    · omega
theorem lead_some {K : List Sy} (h : 0 < gE K) : ∃ l, leadF K = some l := by
  cases K with
  | nil => exact absurd h (by decide)
  | cons s K => exact ⟨_, rfl⟩
theorem relL_erase {K : List Sy} {l : Sy} (h : l ∈ K) : EqR (relL K) (orR (rel l) (relL (K.erase l))) := .of_iff fun x y => by
  constructor
  · rintro ⟨s, hs, r⟩
    by_cases c : s = l
    · subst c; exact .inl r
    · exact .inr ⟨s, (List.mem_erase_of_ne c).mpr hs, r⟩
  · rintro (r | ⟨s, hs, r⟩)
    · exact ⟨l, h, r⟩
    · exact ⟨s, List.mem_of_mem_erase hs, r⟩
/-- all cuts, from the song's end -/
def cutsF : Nat → Int → List Sy → List Ct
  | 0, _, _ => []
  | f + 1, e, K => if e ≤ 0 then [] else if gE K < e then ⟨gE K, e, 0, false⟩ :: cutsF f (gE K) K else match cutBy K with
    | none => []
    | some (c, K') => c :: cutsF f c.lo K'
theorem cuts_stg : ∀ (f : Nat) (e : Int) (K : List Sy), e ≤ (f : Int) → 0 ≤ e → (∀ s ∈ K, Ok e s) → Stg e K (cutsF f e K)
  | 0, e, K, hf, h0, hK => by
    have e0 : e = 0 := by omega
    subst e0
    exact .nil hK
  | f + 1, e, K, hf, h0, hK => by
    show Stg e K (if e ≤ 0 then [] else if gE K < e then ⟨gE K, e, 0, false⟩ :: cutsF f (gE K) K else match cutBy K with | none => [] | some (c, K') => c :: cutsF f c.lo K')
    by_cases c : e ≤ 0
    · have e0 : e = 0 := by omega
      subst e0
      rw [if_pos c]
      exact .nil hK
    · rw [if_neg c]
      by_cases d : gE K < e
      · rw [if_pos d]
        have hK' : ∀ s ∈ K, Ok (gE K) s := fun s hs => (hK s hs).mono (gE_ge hs)
        exact .free (gE_nonneg K) d hK' (cuts_stg f (gE K) K (by omega) (gE_nonneg K) hK')
      · rw [if_neg d]
        obtain ⟨l, hl⟩ := lead_some (K := K) (by omega)
        obtain ⟨L, hm⟩ := lead_leads hK (by omega) (by omega) hl
        obtain ⟨s1, s2, s3⟩ := L.stage
        obtain ⟨e1, e2⟩ := L.end_
        have en := L.en
        have b0 := L.ok.lo0
        have b1 := L.ok.lt
        have ec : cutBy K = some (cutF l (endF l (K.erase l)), nextF l (K.erase l)) := by unfold cutBy; rw [hl]
        rw [ec]
        refine .led (e' := endF l (K.erase l)) (by omega) e2 hK s1 rfl (by show l.hi + l.n = e; exact en) (cut_by_pos L.ok _) (fun x hx hb => ?_) ((relL_erase hm).trans s2) (cuts_stg f (endF l (K.erase l)) _ (by omega) (by omega) s1)
        have := cut_led L.ok e1 hx (by rw [en]; exact hb)
        exact ⟨this.1, this.2.1⟩
end Rep
namespace Rep
open PySem PySem.Spec PyProof.Rows L2
/-! rules that the layer lacks: max(ints, default=d), xs.remove(tuple) -/
theorem dp_ints {K : PySem.W.Frag} {H : Hp} : ∀ ns : List Int, DpAll K H (ns.map V.int) (ns.map PyData.int)
  | [] => .nil
  | n :: r => .cons (.int n) (dp_ints r)
theorem depth_ints : ∀ ns : List Int, PyData.depthAll (ns.map PyData.int) = 0
  | [] => rfl
  | n :: r => by
    show max 0 (PyData.depthAll (r.map PyData.int)) = 0
    rw [depth_ints r]; rfl
def maxI : List Int → Int → Int
  | [], d => d
  | n :: r, _ => r.foldl max n
theorem cr_maxD {X : Cx} (hc : X.calm = true) (hu : X.A.units + 64 < cLine) : CallRK X (.builtin "max") [Str.ofString "default"] (fun vs zs H Q => ∃ (a : Addr) (ns : List Int) (d : Int), vs = [.ref a] ∧ zs = [.int d] ∧ SqL X.K H a (ns.map V.int) ∧ Q (.int (maxI ns d)) H) := by
  intro pins s σ H vs zs us ws Q I r rz h
  obtain ⟨a, ns, d, rfl, rfl, hs, q⟩ := h
  obtain rfl := Vals.ref1 r
  obtain ⟨w1, rfl, e1⟩ := vals1 rz
  obtain ⟨t1, rfl⟩ := e1
  obtain ⟨its, rv, hl, hz⟩ := I.list hs
  obtain ⟨as, hr⟩ := Dp.readsAll I _ _ its (dp_ints ns) rv
  refine PySem.W.max_list_default (xs := ns.map PyData.int) (I.ok.hd hc) hl.isList (by simpa using hr) ⟨fun x hx y hy => ?_, fun x hx => ?_⟩ (by rw [depth_ints]; omega) (fun e h' tk k => ?_) (fun y ys i v h' tk bs e hv rd k => ?_)
  · obtain ⟨i, _, rfl⟩ := List.mem_map.mp hx
    obtain ⟨j, _, rfl⟩ := List.mem_map.mp hy
    rfl
  · obtain ⟨i, _, rfl⟩ := List.mem_map.mp hx
    intro z; cases z
  · have e0 : ns = [] := List.map_eq_nil_iff.mp e
    subst e0
    exact ⟨.int d, H, I.kept k, ⟨t1, rfl⟩, q⟩
  · cases ns with
    | nil => cases e
    | cons n rr =>
      cases e
      rw [PySem.W.maxD_ints] at rd
      cases rd
      exact ⟨.int _, H, I.kept k, ⟨_, rfl⟩, q⟩
/-- xs.remove(v), the items and v data: the first that is == v goes -/
theorem mt_removeD {X : Cx} (hu : X.A.units + 200 < cLine) : MtM X "list.remove" (fun x xs H Q => ∃ (l : Addr) (ys : List V) (y : V) (ds : List PyData) (d : PyData) (j : Nat), x = .ref l ∧ xs = [y] ∧ H l = some (.lst ys) ∧ DpAll X.K H ys ds ∧ Dp X.K H y d ∧ PyData.plainAll ds = true ∧ d.plain = true ∧ d.depth ≤ 64 ∧
    SeqAt.dataPlace ds d = some j ∧ Q .non (upd H l (.lst (ys.eraseIdx j)))) := by
  intro pins s σ H x xs v us Q I rx rxs h
  obtain ⟨l, ys, y, ds, d, j, rfl, rfl, hH, hds, hd, p1, p2, p3, hj, q⟩ := h
  cases rx
  obtain ⟨u, rfl, ru⟩ := vals1 rxs
  obtain ⟨z, its, n, r, hl, e⟩ := I.lstM hH
  obtain ⟨as, hr⟩ := Dp.readsAll I _ _ its hds r
  obtain ⟨bs, hr2⟩ := Dp.reads I d y u hd ru
  refine SeqAt.remove_list_data (vs := its.toArray) ⟨_, e, rfl, n, rfl⟩ (by simpa using hr) hr2 p1 p2 (by have := Nat.min_le_right (PyData.depthAll ds) d.depth; omega) hj (by rw [List.size_toArray]; omega) ?_
  refine ⟨.non, _, I.lset (its' := its.eraseIdx j) hH e ?_ (r.eraseIdx j) ?_, rfl, q⟩
  · show its.toArray.eraseIdxIfInBounds j = (its.eraseIdx j).toArray
    rw [List.eraseIdxIfInBounds_toArray]
  · have := len_erase ys j
    omega
end Rep
namespace Rep
open PySem PySem.Spec PyProof.Rows L2
/-! a lambda of one parameter that captures nothing, called -/
theorem lam1_run {P : Program} {w : World} {K : PySem.W.Frag} {mg : Str → Option Value} {base : Heap} {A : Around} {outer : List Env} {s : Shared} {H : Hp} {f c' : Addr} {q x : Str} {params : Arguments} {body : Expr} {scope : Scope} {pm ctv u : Value} {v : V} {N : List Str} {k : Nat} {Q : VK} {t : TE}
    (S : FnScope N [x] scope) (hf : s.heap.get? f = some (PySem.W.kla_obj "<lambda>" q params body scope [] pm c' ctv)) (hco : H c' = some (LamX.CodeO c' q)) (hr : Room (k + 1) A) (e0 : Env0 P w K mg base A outer s H)
    (hb : bindArgs (PySem.W.kla_fn "<lambda>" q params body scope [] pm (.ref c') ctv) ⟨[u], []⟩ = pure [(x, u)]) (rv : RelV v u)
    (hbody : Room k (A.deeper (envOfC q scope s.heap.objs.size f (.ref c'))) → PE (cxOf CX0 P w K mg base N q scope f (.ref c') A outer s H E0).nox body t) (hq : t (L2.start N [v]) H Q) :
    codeAny (model P w) A (.call (.ref f) ⟨[u], []⟩) (CR CX0 outer P w H s Q E0) s := by
  have lim : s.heap.NoLimit := e0.mod.nolimit.keeps fun b o e => (e0.bs b o e).1
  obtain ⟨⟨oc, vs, tq, hoc, hdc, hvc⟩, _, _⟩ := e0.hok c' _ hco
  refine PySem.W.kla_callFunE hr.depth hf rfl S.co S.gen rfl ⟨c', oc, vs, tq, rfl, hoc, hdc, hvc⟩ ?_
  rw [hb]
  have hkind : ∀ y ∈ [(x, u)], scope.names.lookup y.1 = some .local ∨ (scope.names.lookup y.1 = some .cell ∧ ((cellsFrom (s.heap.objs.size + 1) scope.names []).lookup y.1).isSome = true) := fun y hy => by
    rw [List.mem_singleton.mp hy]
    rcases S.par x List.mem_cons_self with h | h
    · exact .inl h
    · exact .inr ⟨h, PySem.W.cellsFrom_some _ _ _ (.inl h)⟩
  refine wpAny_pure (wpAny_newFunctionEnv_cells S.kind hkind fun env he s1 xc => ?_)
  subst he
  refine ⟨lim.keeps xc.toInCall.keep, ?_⟩
  have I : Inv (cxOf CX0 P w K mg base N q scope f (.ref c') A outer s H E0) [] (L2.start N [v]) H s1 := inv_start (us := [u]) S hr.hd e0 rfl (.cons rv .nil) xc
  refine PySem.W.kla_codeExpr (wpAny_mono (((hbody (hr.deeper _)).nox).run [] s1 (L2.start N [v]) H Q I hq) (fun v' s' hs => ?_) fun e s' hs => hs)
  obtain ⟨w', H', J, rv', q'⟩ := hs
  exact ⟨w', H', J.os, J.bare, J.base, J.hok, rv', q'⟩
end Rep
namespace Rep
open PySem PySem.W PySem.Spec PyProof.Rows L2
section
variable {X : Cx} {pins : List (Addr × Obj)} {σ : L2.St} {H H2 : Hp} {s s0 : Shared}
theorem no_frame (I : Inv X pins σ H s) {f : Addr} (hf : s.heap.objs.size ≤ f) : f ∉ frs X.stack := fun z => by
  rcases List.mem_cons.mp (I.stkSub _ z) with e | e
  · have h1 := I.lt
    rw [← e] at h1
    exact Nat.lt_irrefl _ (Nat.lt_of_lt_of_le h1 hf)
  · exact I.nofs hf e
theorem relV_int {a : V} {i : Int} {t : Tok} (h : RelV a (.int i t)) : a = .int i := by
  cases a with
  | int j => obtain ⟨t', e⟩ := h; cases e; rfl
  | non => cases h
  | bl b => cases h
  | str x => obtain ⟨_, e⟩ := h; cases e
  | byt x => obtain ⟨_, e⟩ := h; cases e
  | flt x => obtain ⟨_, e⟩ := h; cases e
  | ref x => cases h
  | ty x => cases h
/-- H' is H2 and, besides, tuples -/
structure Grown (H2 H' : Hp) : Prop where
  all : ∀ b o, H2 b = some o → H' b = some o
  new : ∀ b o, H2 b = none → H' b = some o → ∃ xs, o = .tup xs
theorem Grown.refl (H : Hp) : Grown H H := ⟨fun _ _ h => h, fun b o h h' => by rw [h] at h'; cases h'⟩
theorem Grown.tup {H2 H' : Hp} (g : Grown H2 H') {p : Addr} {xs : List V} (n : H' p = none) : Grown H2 (upd H' p (.tup xs)) := by
  refine ⟨fun b o h => ?_, fun b o h h' => ?_⟩
  · have h1 := g.all b o h
    rw [upd_ne (ne_of_none h1 n)]
    exact h1
  · by_cases e : b = p
    · subst e
      rw [upd_same] at h'
      exact ⟨xs, (Option.some.inj h').symm⟩
    · rw [upd_ne e] at h'
      exact g.new b o h h'
/-- what stays while max asks for its keys -/
structure Asks (X : Cx) (pins : List (Addr × Obj)) (σ : L2.St) (H2 : Hp) (f I S : Addr) (fo : Obj) (s : Shared) : Prop where
  ex : ∃ H', Inv X pins σ H' s ∧ Grown H2 H' ∧ H' I = none ∧ H' S = none ∧ H' f = none
  fn : s.heap.get? f = some fo
/-- the key of an item, as it lies on the heap -/
def KeyAt (H2 : Hp) (S I : Addr) (k : Int × Int) (v : Value) (s : Shared) : Prop := ∃ (t : Addr) (o : Obj) (n : Nat) (t1 t2 : Tok), v = .ref t ∧ H2 t = none ∧ t ∉ [S, I] ∧ s.heap.get? t = some o ∧ o.cls = .type "tuple" ∧ o.data = .seq #[.int k.1 t1, .int k.2 t2] n
theorem KeyAt.reads {S I : Addr} {k : Int × Int} {v : Value} (h : KeyAt H2 S I k v s) : Reads s.heap v (.tuple [.int k.1, .int k.2]) [] := by
  obtain ⟨t, o, n, t1, t2, rfl, _, _, e, c, d⟩ := h
  exact .tuple (as := []) e c d (.cons (.int _ _) (.cons (.int _ _) .nil))
end
/-- max(xs, key=lambda x: body), xs locked: the keys are pairs of ints -/
theorem key_run {X : Cx} {pins : List (Addr × Obj)} {σ : L2.St} {H2 : Hp} {s0 : Shared} {l f c' : Addr} {lo : Obj} {ys : List V} {vs : Array Value} {q x : Str} {params : Arguments} {body : Expr} {scope : Scope} {pm ctv : Value} {N : List Str} {k : Nat} {t : TE} {kk : V → Int × Int}
    (I0 : Inv X pins σ H2 s0) (hl : H2 l = some (.frz lo (.lst ys))) (hv : Vals ys vs.toList) (Sc : FnScope N [x] scope) (hf : s0.heap.get? f = some (PySem.W.kla_obj "<lambda>" q params body scope [] pm c' ctv)) (hfn : H2 f = none) (hfr : f ∉ frs X.stack) (hco : H2 c' = some (LamX.CodeO c' q)) (hr : Room (k + 2) X.A)
    (hb : ∀ u : Value, bindArgs (PySem.W.kla_fn "<lambda>" q params body scope [] pm (.ref c') ctv) ⟨[u], []⟩ = pure [(x, u)])
    (hbody : ∀ (A : Around) (outer : List Env) (s : Shared) (H : Hp) (g : Addr) (cd : Value), Room k (A.deeper (envOfC q scope s.heap.objs.size g cd)) → PE (cxOf CX0 X.prog X.w X.K X.mg X.base N q scope g cd A outer s H E0).nox body t)
    (hq : ∀ y ∈ ys, ∀ (H' : Hp) (Q : VK), Grown H2 H' → (∀ p, H' p = none → Q (.ref p) (upd H' p (.tup [.int (kk y).1, .int (kk y).2]))) → t (L2.start N [y]) H' Q)
    (hS : s0.heap.objs.size + 1 = S) :
    KeyRun X.prog X.w X.A.in1 (.ref f) .Gt S [s0.heap.objs.size] (fun a b => b = a) vs.size (fun i v => vs[i]? = some v) (fun i s' => s'.heap.IsListIter s0.heap.objs.size l i ∧ s'.heap.IsList l vs)
      (Asks X pins σ H2 f s0.heap.objs.size S (PySem.W.kla_obj "<lambda>" q params body scope [] pm c' ctv)) (fun i v s' => KeyAt H2 S s0.heap.objs.size (kk (ys.getD i .non)) v s')
      (fun i j => dataLt (.tuple [.int (kk (ys.getD j .non)).1, .int (kk (ys.getD j .non)).2]) (.tuple [.int (kk (ys.getD i .non)).1, .int (kk (ys.getD i .non)).2])) := by
  have fI : f ≠ s0.heap.objs.size := Nat.ne_of_lt (Heap.lt_size hf)
  have fS : f ≠ S := Nat.ne_of_lt (by rw [← hS]; exact Nat.lt_succ_of_lt (Heap.lt_size hf))
  have iS : s0.heap.objs.size ≠ S := by rw [← hS]; exact Nat.ne_of_lt (Nat.lt_succ_self _)
  have hSge : s0.heap.objs.size ≤ S := by rw [← hS]; exact Nat.le_succ _
  refine ⟨fun s s' J m => ?_, fun i v s s' V m => ?_, fun i v s o Q E hi hP J st hSo hQ => ?_, fun i j ki kj s Q E J Vi Vj h => ?_⟩
  · obtain ⟨⟨H', I, g, n1, n2, n3⟩, fn⟩ := J
    have fn' := m.heap f _ (by simp [fI, fS]) fn
    refine ⟨⟨H', ?_, g, n1, n2, n3⟩, fn'⟩
    have I' := I.turnedL (t' := s'.toks) (h' := s'.heap) (ch := [S, s0.heap.objs.size]) (fun b o hb e => m.heap b o hb e) (fun b hb => by
      rcases List.mem_cons.mp hb with rfl | hb
      · exact I0.fpOk hSge n2
      · rw [List.mem_singleton.mp hb]; exact I0.fpOk (Nat.le_refl _) n1)
    have es : s' = { s with heap := s'.heap, toks := s'.toks } := by
      obtain ⟨a1, a2, a3, a4, a5⟩ := s'
      have g1 : a2 = s.gens := m.gens
      have g2 : a3 = s.drawn := m.drawn
      have g3 := m.os
      simp only at g3
      subst g1 g2 g3
      rfl
    rw [es]
    exact I'
  · obtain ⟨t', o, n, t1, t2, e, a1, a2, a3, a4, a5⟩ := V
    exact ⟨t', o, n, t1, t2, e, a1, a2, m.heap t' o (by simpa using a2) a3, a4, a5⟩
  · obtain ⟨⟨H', I, g, n1, n2, n3⟩, fn⟩ := J
    -- the item
    have hvi : vs.toList[i]? = some v := by rw [Array.getElem?_toList]; exact hP
    have hyl : i < ys.length := by
      rw [hv.length]
      exact (List.getElem?_eq_some_iff.mp hvi).1
    obtain ⟨u, hu, ru⟩ := hv.get (List.getElem?_eq_getElem hyl)
    rw [hvi] at hu
    cases hu
    have eg : ys.getD i .non = ys[i] := by rw [List.getD_eq_getElem?_getD, List.getElem?_eq_getElem hyl]; rfl
    have r1 : Room (k + 1) X.A.in1 := hr.in1
    have rc := lam1_run (P := X.prog) (w := X.w) (K := X.K) (mg := X.mg) (base := X.base) (A := X.A.in1) (outer := X.stack) (s := s) (H := H') (k := k) (Q := fun w' H'' => ∃ p, w' = .ref p ∧ H' p = none ∧ H'' = upd H' p (.tup [.int (kk ys[i]).1, .int (kk ys[i]).2])) Sc fn (g.all _ _ hco) r1 I.env0.in1 (hb v) ru (fun hr' => hbody _ _ _ _ _ _ hr') (hq _ (List.getElem_mem hyl) H' _ g fun p np => ⟨p, rfl, np, rfl⟩)
    refine wpAny_call (codeAny_mono rc fun r s' hr' => ?_)
    cases r with
    | error e => exact (show False from hr').elim
    | ok fl =>
      cases fl with
      | next => exact (show False from hr').elim
      | brk => exact (show False from hr').elim
      | cont => exact (show False from hr').elim
      | ret w' =>
        obtain ⟨y', H'', os, bare, un, hok, rw', p, rfl, np, rfl⟩ := hr'
        obtain rfl : w' = Value.ref p := rw'
        have I' : Inv X pins σ (upd H' p (.tup [.int (kk ys[i]).1, .int (kk ys[i]).2])) s' := by
          obtain ⟨hh, gg, d, tt, os'⟩ := s'
          obtain rfl : os' = s.os := os
          exact I.call (h' := hh) (g' := gg) (d' := d) (t' := tt) (ch := []) un hok bare (fun b z => absurd z (by simp))
        have kS := un.keep S o hSo n2 (no_frame I0 hSge) (by simp)
        have kf := un.keep f _ fn n3 hfr (by simp)
        have pS : p ≠ S := fun e => by
          have := un.free S o hSo n2 (by simp)
          rw [← e, upd_same] at this
          cases this
        obtain ⟨⟨oi, ei, ci, di⟩, hls⟩ := st
        have kI := un.keep _ oi ei n1 (no_frame I0 (Nat.le_refl _)) (by simp)
        have pI : p ≠ s0.heap.objs.size := fun e => by
          have := un.free _ oi ei n1 (by simp)
          rw [← e, upd_same] at this
          cases this
        have pf : p ≠ f := fun e => by
          have := un.free f _ fn n3 (by simp)
          rw [← e, upd_same] at this
          cases this
        have p2 : H2 p = none := by
          cases h2 : H2 p with
          | none => rfl
          | some o2 => rw [g.all _ _ h2] at np; cases np
        have nu : ∀ b, b ≠ p → H' b = none → upd H' p (.tup [.int (kk ys[i]).1, .int (kk ys[i]).2]) b = none := fun b hb hn => by rw [upd_ne hb]; exact hn
        -- the list is the very object that it was
        have l1 : s.heap.get? l = some lo := (I.hok l _ (g.all _ _ hl)).1
        have l2' : upd H' p (.tup [.int (kk ys[i]).1, .int (kk ys[i]).2]) l = some (.frz lo (.lst ys)) := by rw [upd_ne (ne_of_none (g.all _ _ hl) np)]; exact g.all _ _ hl
        have l2 : s'.heap.get? l = some lo := (hok l _ l2').1
        have hls' : s'.heap.IsList l vs := by
          obtain ⟨ol, el, cl, nl, dl⟩ := hls
          rw [l1] at el
          cases el
          exact ⟨lo, l2, cl, nl, dl⟩
        refine hQ (.ref p) s' ⟨⟨_, I', g.tup np, nu _ pI.symm n1, nu _ pS.symm n2, nu _ pf.symm n3⟩, kf⟩ ⟨⟨oi, kI, ci, di⟩, hls'⟩ kS ?_ (fun j k' V => ?_)
        · -- the new key
          obtain ⟨_, its, rits, ot, eo, co, nt, dt⟩ := hok p _ upd_same
          obtain ⟨u1, u2, rfl, q1, q2⟩ := vals2 rits
          obtain ⟨t1, rfl⟩ := q1
          obtain ⟨t2, rfl⟩ := q2
          rw [eg]
          exact ⟨p, ot, nt, t1, t2, rfl, p2, by simp [pS, pI], eo, co, dt⟩
        · obtain ⟨t', o', n', t1, t2, e1, a1, a2, a3, a4, a5⟩ := V
          cases ht : H' t' with
          | none =>
            obtain ⟨sl, e2⟩ := un.any a3 ht (by simp)
            exact ⟨t', _, n', t1, t2, e1, a1, a2, e2, a4, a5⟩
          | some ob =>
            obtain ⟨xs, rfl⟩ := g.new _ _ a1 ht
            obtain ⟨_, its, rits, ot, eo, co, nt, dt⟩ := I.hok t' _ ht
            rw [a3] at eo
            cases eo
            rw [a5] at dt
            have ed : its.toArray = #[.int (kk (ys.getD j .non)).1 t1, .int (kk (ys.getD j .non)).2 t2] := by
              injection dt with d1 d2
              exact d1.symm
            have ei' : its = [.int (kk (ys.getD j .non)).1 t1, .int (kk (ys.getD j .non)).2 t2] := by
              have := congrArg Array.toList ed
              simpa using this
            subst ei'
            have t3 := un.tups _ _ ht
            obtain ⟨_, its2, rits2, ot2, eo2, co2, nt2, dt2⟩ := hok t' _ t3
            cases rits with
            | cons b1 rr =>
              cases rr with
              | cons b2' rr2 =>
                cases rr2
                have x1 := relV_int b1
                have x2 := relV_int b2'
                subst x1 x2
                obtain ⟨u1, u2, rfl, q1, q2⟩ := vals2 rits2
                obtain ⟨t5, rfl⟩ := q1
                obtain ⟨t6, rfl⟩ := q2
                exact ⟨t', ot2, nt2, t5, t6, e1, a1, a2, eo2, co2, dt2⟩
  · have r1 := Vi.reads
    have r2 := Vj.reads
    obtain ⟨⟨H', I, _⟩, _⟩ := J
    exact rcGt_alike _ _ X.A.in1 s ki kj _ _ r1 r2 rfl (by intro z; cases z) (by
      have := hr.un
      show X.A.units + 1 + min 1 1 < cLine
      omega) X.prog X.w E Q h
end Rep
namespace Rep
open PySem PySem.W PySem.Spec PyProof.Rows L2 NdefX
/-! nested defs and lambdas that are handed on to another def, and called there -/
/-- a lambda's function, known -/
def LmO (f : Addr) (F : NF) (e : Expr) : HO := .ext fun h => ∃ (d : Option Addr) (sl : Array (Option Value)) (m t : Value), h.get? f = some (⟨.type "function", d, .func (kla_fn F.name F.qual F.params e F.scope F.cl m (.ref F.c) t), sl⟩ : Obj)
section
variable {X : Cx} {pins : List (Addr × Obj)} {σ : L2.St} {H : Hp} {s : Shared}
/-- a lambda is made in a def whose table may tell code objects of several names -/
theorem lam_new {T : List NTab} {nm : Nat → Nat → Str} {c P : Addr} {params : Arguments} {e : Expr} {scope : Scope} {pos : Pos} {R : Value → Shared → Prop} {Q : Value → Shared → Prop} (I : Inv X pins σ H s) (B : LamX.TabB X.base X.mg c P) (ec : X.env.code = .ref c)
    (inT : (P, nm) ∈ T) (at_ : nm pos.line pos.col = X.env.qual ++ "<lambda>") (only : ∀ p ∈ T, p.1 = P → p.2 = nm) (tabs : TabsN T H) (nod : defaultsOf params X.env = ([], [])) (caps : ∀ y ∈ scope.names, y.2 = .free → ∃ c, X.env.cells.lookup y.1 = some c)
    (go : ∀ (c' : Addr) (m t : Value) (H1 : Hp) (h1 : Heap) (tk : Nat), Inv X pins σ H1 { s with heap := h1, toks := tk } → LamX.ExtN H H1 → (∀ b, H1 b = Option.none → H b = Option.none) → TabsN T H1 → s.heap.objs.size ≤ h1.objs.size → H1 c' = some (LamX.CodeO c' (X.env.qual ++ "<lambda>")) →
      Q (.ref h1.objs.size) { s with heap := h1.push (kla_obj "<lambda>" (X.env.qual ++ "<lambda>") params e scope (cloFrom X.env.cells scope.names []) m c' t), toks := tk }) :
    wpAny (model X.prog X.w) X.A (eval (.Lambda params e scope pos) X.env) Q R s := by
  obtain ⟨ps, tp, tr, ta⟩ := (show TabN H P nm from tabs _ inT)
  have b1 := B.bm.keeps I.bk
  have b2 : s.heap.get? P = some { cls := .none, data := .fields ps } := I.hok P _ tp
  refine kla_eval nod ?_
  cases fnd : codeAmong pos ps.toList with
  | some cv =>
    obtain ⟨c', rfl, ho⟩ := ta pos cv fnd
    rw [at_] at ho
    refine kla_makeFunctionHit (P := P) (ps := ps) (c := c) (mg := X.mg) (closure_ok caps) I.ok.glob (I.mod.glob.keeps I.bk) ec (B.code.keeps I.bk) b2 tr fnd b1 fun t h1 tk kp le => ?_
    exact go c' _ t H h1 tk (I.kept kp) (LamX.ExtN.refl H) (fun _ z => z) tabs le ho
  | none =>
    refine kla_makeFunction (P := P) (ps := ps) (c := c) (mg := X.mg) (closure_ok caps) I.ok.glob (I.mod.glob.keeps I.bk) ec (B.code.keeps I.bk) b2 tr fnd B.gP b1 fun c' t h1 tk kp le lt rec tb => ?_
    obtain ⟨_, oc, vs, tq, e2, o1, o2, o3⟩ := rec
    cases e2
    have n' : H c' = Option.none := I.hok.fresh le
    have J := LamX.inv_table (t' := tk) (more := #[rawInt pos.line, rawInt pos.col, .ref c']) (h' := h1) I tp (fun b o ne z => kp b o ne z) tb le ⟨oc, vs, tq, o1, o2, o3⟩
    have lst : (ps ++ #[rawInt pos.line, rawInt pos.col, .ref c']).toList = ps.toList ++ [rawInt pos.line, rawInt pos.col, .ref c'] := by simp
    have cP : P ≠ c' := ne_of_none tp n'
    have old : ∀ b o, b ≠ P → H b = some o → upd (upd H P (.tbl (ps ++ #[rawInt pos.line, rawInt pos.col, .ref c']))) c' (LamX.CodeO c' (X.env.qual ++ "<lambda>")) b = some o := fun b o ne z => by
      rw [upd_ne (ne_of_none z n'), upd_ne ne]; exact z
    have ex : LamX.ExtN H (upd (upd H P (.tbl (ps ++ #[rawInt pos.line, rawInt pos.col, .ref c']))) c' (LamX.CodeO c' (X.env.qual ++ "<lambda>"))) := fun b o z nt => old b o (fun q => nt ps (by rw [q, tp] at z; exact (Option.some.inj z).symm)) z
    refine go c' _ t _ h1 tk J ex (fun b z => upd_none (upd_none z)) (fun p hp => ?_) (Nat.le_of_lt (Nat.lt_of_le_of_lt le lt)) upd_same
    by_cases q : p.1 = P
    · rw [only p hp q, q]
      refine ⟨_, by rw [upd_ne cP, upd_same], by rw [lst]; exact PySem.TriplesOk_snoc _ _ _ _ tr, fun p' cv z => ?_⟩
      rw [lst] at z
      rcases among_app2 _ tr z with z | ⟨rfl, z1, z2⟩
      · obtain ⟨c0, y1, y2⟩ := ta p' cv z
        exact ⟨c0, y1, ex _ _ y2 LamX.codeO_ne⟩
      · exact ⟨c', rfl, by rw [← z1, ← z2, at_]; exact upd_same⟩
    · obtain ⟨ps2, y1, y2, y3⟩ := tabs p hp
      refine ⟨ps2, old _ _ q y1, y2, fun p' cv z => ?_⟩
      obtain ⟨c0, z1, z2⟩ := y3 p' cv z
      exact ⟨c0, z1, ex _ _ z2 LamX.codeO_ne⟩
/-- .. and its object is known from now on -/
theorem inv_lm {F : NF} {e : Expr} {t' : Nat} {m t : Value} (I : Inv X pins σ H s) :
    Inv X pins σ (upd H s.heap.objs.size (LmO s.heap.objs.size F e)) { s with heap := s.heap.push ({ cls := .type "function", data := .func (kla_fn F.name F.qual F.params e F.scope F.cl m (.ref F.c) t) } : Obj), toks := t' } := by
  refine I.laid (fun b u z => Heap.get?_push_of_some _ z) (Nat.le_refl _) ?_
  have z : (s.heap.push ({ cls := .type "function", data := .func (kla_fn F.name F.qual F.params e F.scope F.cl m (.ref F.c) t) } : Obj)).get? s.heap.objs.size = some _ := Heap.get?_push_size _ rfl
  exact ⟨⟨_, _, m, t, z⟩, ⟨_, z⟩, fun h1 h2 ⟨d, sl, a, b, y⟩ st => ⟨d, sl, a, b, st _ y⟩⟩
theorem lmO_at {P : Program} {w : World} {h : Heap} {f : Addr} {F : NF} {e : Expr} (ok : HOk P w H h) (z : H f = some (LmO f F e)) : ∃ (d : Option Addr) (sl : Array (Option Value)) (m t : Value), h.get? f = some (⟨.type "function", d, .func (kla_fn F.name F.qual F.params e F.scope F.cl m (.ref F.c) t), sl⟩ : Obj) := (ok f _ z).1
end
/-- a thing that can be called, known by kn; CL, FR, ws: the cells of the def that made it, by name, and what they hold at the call -/
structure Run (P : Program) (w : World) (K : PySem.W.Frag) (mg : Str → Option Value) (base : Heap) (k : Nat) (f : Addr) (kn : Hp → Prop) (CL : List (Str × Addr)) (FR : List Str) (sp : List (Option V) → Sp) : Prop where
  fn : ∀ (H : Hp) (h : Heap), HOk P w H h → kn H → PySem.W.FnAt f h
  run : ∀ (A : Around) (outer : List Env) (s : Shared) (H : Hp) (us : List Value) (vs : List V) (ws : List (Option V)) (Q : VK), Room k A → Env0 P w K mg base A outer s H → kn H → CellsAt CL FR ws s.heap H → (∀ y c, CL.lookup y = some c → c ∉ frs outer) → Vals vs us → sp ws vs H Q E0 → codeAny (model P w) A (.call (.ref f) ⟨us, []⟩) (CR CX0 outer P w H s Q E0) s
theorem cells_part {cl cl' : List (Str × Addr)} {fr fr' : List Str} {ws : List (Option V)} {h : Heap} {H : Hp} (C : CellsAt cl fr ws h H) (sub : ∀ y c, cl'.lookup y = some c → cl.lookup y = some c) (js : List Nat) (hj : js.map (fun j => fr[j]?) = fr'.map some) (sup : ∀ y ∈ fr', ∀ c, cl.lookup y = some c → cl'.lookup y = some c) :
    CellsAt cl' fr' (js.map (slotAt ws)) h H := by
  refine ⟨?_, fun y c z => C.all y c (sub y c z), fun x y c z1 z2 => C.inj x y c (sub x c z1) (sub y c z2), fun i y hi => ?_⟩
  · have q := congrArg List.length hj
    rw [List.length_map, List.length_map] at q
    rw [List.length_map]; exact q
  · have e2 : (js.map fun j => fr[j]?)[i]? = some (some y) := by rw [hj, List.getElem?_map, hi]; rfl
    rw [List.getElem?_map] at e2
    obtain ⟨j, ej, hjy⟩ := Option.map_eq_some_iff.mp e2
    obtain ⟨c, hc, hv⟩ := C.has j y hjy
    refine ⟨c, sup y (List.mem_of_getElem? hi) c hc, fun v ev => hv v ?_⟩
    rw [List.getElem?_map, ej] at ev
    exact slotAt_some (Option.some.inj ev)
section
variable {P : Program} {w : World} {K : PySem.W.Frag} {mg : Str → Option Value} {base : Heap} {N ps fr : List Str} {F : NF} {f : Addr} {k : Nat} {e : Expr}
/-- a lambda with parameters, by its body -/
theorem lam_run {sp : List (Option V) → Sp} {CL : List (Str × Addr)} {FR : List Str} (js : List Nat) (S : NScope N ps fr F.scope) (sub : ∀ y c, F.cl.lookup y = some c → CL.lookup y = some c) (hj : js.map (fun j => FR[j]?) = fr.map some) (sup : ∀ y ∈ fr, ∀ c, CL.lookup y = some c → F.cl.lookup y = some c)
    (hb : ∀ (m t : Value) (us : List Value), us.length = ps.length → bindArgs (kla_fn F.name F.qual F.params e F.scope F.cl m (.ref F.c) t) ⟨us, []⟩ = pure (ps.zip us)) (len : ∀ ws vs H Q E, sp ws vs H Q E → vs.length = ps.length)
    (body : ∀ (A : Around) (outer : List Env) (s : Shared) (H : Hp) (vs : List V) (ws : List (Option V)) (Q : VK), Room k (A.deeper (envF F f s.heap.objs.size)) → H f = some (LmO f F e) → CellsAt CL FR ws s.heap H → (∀ y c, CL.lookup y = some c → c ∉ frs outer) → ws.length = FR.length → sp ws vs H Q E0 →
      ∃ t, PE (ncx CX0 P w K mg base N F f A outer s H E0) e t ∧ t (startF N vs (js.map (slotAt ws))) H Q) :
    Run P w K mg base (k + 1) f (fun H => H f = some (LmO f F e) ∧ H F.c = some (LamX.CodeO F.c F.qual)) CL FR sp := by
  refine ⟨fun H h ok kn => ?_, fun A outer s H us vs ws Q hr e0 kn C nf r q => ?_⟩
  · obtain ⟨d, sl, m, t, z⟩ := lmO_at ok kn.1
    exact ⟨_, d, _, sl, z⟩
  have hl := len _ _ _ _ _ q
  have lim : s.heap.NoLimit := e0.mod.nolimit.keeps fun b o z => (e0.bs b o z).1
  obtain ⟨d, sl, m, t, z⟩ := lmO_at e0.hok kn.1
  refine kla_callFunE hr.depth z rfl S.co S.gen rfl (codeO_at e0.hok kn.2) ?_
  rw [hb m t us (by rw [← r.length]; exact hl)]
  refine wpAny_pure (wpAny_newFunctionEnv S.nocell (fun ⟨n, _⟩ hy => S.par n (List.of_mem_zip hy).1) (fun h₁ hns hsb => ⟨lim.fresh _ hsb, ?_⟩) S.kind)
  show codeAny _ _ (.expr e (envF F f s.heap.objs.size)) _ _
  have kp : ∀ b o, s.heap.get? b = some o → h₁.get? b = some o := fun b o z => hsb.extBut b o (Nat.ne_of_lt (Heap.lt_size z)) (Heap.get?_push_of_some _ z)
  obtain ⟨te, ht, hq⟩ := body A outer s H vs ws Q (hr.deeper _) kn.1 C nf C.len q
  have I : Inv (ncx CX0 P w K mg base N F f A outer s H E0) [] (startF N vs (js.map (slotAt ws))) H { s with heap := h₁, toks := s.toks + (ps.zip us).length } := inv_startN S hr.hd e0 hl r (cells_part C sub js hj sup) hns kp
  refine kla_codeExpr (wpAny_mono (ht.run [] _ _ H Q I hq) (fun u s' hs => ?_) fun e s' hs => hs)
  obtain ⟨v, H', J, rv, q'⟩ := hs
  exact ⟨v, H', J.os, J.bare, J.base, J.hok, rv, q'⟩
/-- a nested def, by its body -/
theorem ndf_run {sp : List (Option V) → Sp} {CL : List (Str × Addr)} {FR : List Str} (js : List Nat) (S : NScope N ps fr F.scope) (sub : ∀ y c, F.cl.lookup y = some c → CL.lookup y = some c) (hj : js.map (fun j => FR[j]?) = fr.map some) (sup : ∀ y ∈ fr, ∀ c, CL.lookup y = some c → F.cl.lookup y = some c)
    (hb : ∀ (d m t : Value) (us : List Value), us.length = ps.length → bindArgs (F.fd d m t) ⟨us, []⟩ = pure (ps.zip us)) (len : ∀ ws vs H Q E, sp ws vs H Q E → vs.length = ps.length)
    (body : ∀ (A : Around) (outer : List Env) (s : Shared) (H : Hp) (vs : List V) (ws : List (Option V)) (Q : VK), Room k (A.deeper (envF F f s.heap.objs.size)) → ws.length = FR.length → sp ws vs H Q E0 →
      ∃ t, PSs (ncx CX0 P w K mg base N F f A outer s H E0) F.body t ∧ t { nx := fun _ H' => Q .non H', rt := Q } (startF N vs (js.map (slotAt ws))) H) :
    Run P w K mg base (k + 1) f (fun H => H f = some (FnO f F) ∧ H F.c = some (LamX.CodeO F.c F.qual)) CL FR sp := by
  refine ⟨fun H h ok kn => ?_, fun A outer s H us vs ws Q hr e0 kn C nf r q => ?_⟩
  · obtain ⟨d, sl, dc, m, t, z⟩ := fnO_at ok kn.1
    exact ⟨_, d, _, sl, z⟩
  have hl := len _ _ _ _ _ q
  have lw : (js.map (slotAt ws)).length = fr.length := by
    have z := congrArg List.length hj
    rw [List.length_map, List.length_map] at z
    rw [List.length_map]; exact z
  have ok : NOk P w K mg base CX0 (k + 1) f F ps fr (fun ws' vs' H' Q' _ => ws' = js.map (slotAt ws) ∧ sp ws vs' H' Q' E0) := by
    refine nok_of S hb (fun _ _ _ _ _ z => len _ _ _ _ _ z.2) fun A outer s H vs ws' Q E hr _ _ _ z => ?_
    obtain ⟨rfl, z⟩ := z
    obtain ⟨t, h1, h2⟩ := body A outer s H vs ws Q hr C.len z
    exact ⟨t, h1, h2⟩
  exact ok.run A outer s H us vs _ Q E0 hr e0 kn.1 kn.2 (cells_part C sub js hj sup) r ⟨rfl, q⟩
end
/-- what is held in a name is called: in a frame that was entered while the cells were so -/
def tHeld (i : Nat) (f : Addr) (kn : Hp → Prop) (ws : List (Option V)) (sp : List (Option V) → Sp) (t : TA) : TE := fun σ H Q => σ[i]? = some (some (.ref f)) ∧ kn H ∧ t σ H fun vs H1 => kn H1 ∧ sp ws vs H1 Q E0
theorem pe_held {X : Cx} {k i : Nat} {f : Addr} {kn : Hp → Prop} {CL : List (Str × Addr)} {FR : List Str} {ws : List (Option V)} {sp : List (Option V) → Sp} {x : Str} {p pos : Pos} {e : Expr} {es : List Expr} {t : TA}
    (R : Run X.prog X.w X.K X.mg X.base k f kn CL FR sp) (C : CellsAt CL FR ws X.s_0.heap X.H_0) (nf : ∀ y c, CL.lookup y = some c → c ∉ X.fs) (nx : ∀ y c, CL.lookup y = some c → c ∉ X.ex) (hr : Room k X.A) (hN : X.N[i]? = some x) (hv : Vis X.env.scope x) (ha : PA X (e :: es) t)
    (hd : (x == ("__debug__" : Str)) = false := by decide) (hcd : (x == ("__classdict__" : Str)) = false := by decide)
    (he : starEach (e :: es) X.env = (false, eval e X.env) :: starEach es X.env := by rfl) (hpl : (backTo pos (starEach es X.env)).any (·.1) = false := by rfl) :
    PE X (.Call (.Name x p) (e :: es) [] pos) (tHeld i f kn ws sp t) := by
  refine ⟨fun pins s σ H Q I h => ?_⟩
  obtain ⟨hs, hf, ht⟩ := h
  refine wpAny_Call_Name_kw (thn ((pe_var (pos := p) hN hv hd hcd).run pins s σ H (fun v H1 => v = .ref f ∧ H1 = H) I ⟨.ref f, hs, rfl, rfl⟩) fun u s1 ⟨v, H1, I1, r1, q1⟩ => ?_)
  obtain ⟨rfl, rfl⟩ := q1
  obtain rfl : u = Value.ref f := r1
  refine callWith_F (first := []) (R.fn _ _ I1.hok hf) (thn (ha.run pos pins s1 σ H1 _ I1 ht) fun us s2 ⟨vs, H2, I2, r, h1, q⟩ => ⟨R.fn _ _ I2.hok h1, ?_⟩) he hpl
  show wpAny _ _ (call (.ref f) us) _ _ _
  have nf2 : ∀ y c, CL.lookup y = some c → c ∉ frs X.stack := fun y c z b => by
    rcases List.mem_cons.mp (I2.stkSub _ b) with e | e
    · obtain ⟨_, v, o, ho, _⟩ := C.all y c z
      exact absurd (Heap.lt_size ho) (Nat.not_lt.mpr (by rw [e]; exact I2.ok.above))
    · exact nf y c z e
  refine wpAny_call (codeAny_mono (R.run X.A X.stack s2 H2 us vs ws Q hr I2.env0 h1 (C.later nf nx I2) nf2 r q) fun r' s' hq => ?_)
  cases r' with
  | error e => exact (show False from hq).elim
  | ok fl =>
    cases fl with
    | ret u => exact I2.after hq
    | next => exact False.elim hq
    | brk => exact False.elim hq
    | cont => exact False.elim hq
/-- a def is called whose run is known of the very state -/
def tGo (t : TA) (G : L2.St → List V → Hp → VK → Prop) : TE := fun σ H Q => t σ H fun vs H1 => G σ vs H1 Q
theorem pe_go {X : Cx} {g : Addr} {x : Str} {p pos : Pos} {e : Expr} {es : List Expr} {t : TA} {G : L2.St → List V → Hp → VK → Prop} (hg : Gl X x) (hm : X.mg x = some (.ref g)) (hk : PySem.W.keepIn X.K (.ref g) = true) (ha : PA X (e :: es) t)
    (run : ∀ (pins : List (Addr × Obj)) (σ : L2.St) (s : Shared) (H : Hp) (us : List Value) (vs : List V) (Q : VK), Inv X pins σ H s → Vals vs us → G σ vs H Q → codeAny (model X.prog X.w) X.A (.call (.ref g) ⟨us, []⟩) (CR CX0 X.stack X.prog X.w H s Q E0) s)
    (hdb : (x == ("__debug__" : Str)) = false := by decide) (he : starEach (e :: es) X.env = (false, eval e X.env) :: starEach es X.env := by rfl) (hpl : (backTo pos (starEach es X.env)).any (·.1) = false := by rfl) :
    PE X (.Call (.Name x p) (e :: es) [] pos) (tGo t G) := by
  refine ⟨fun pins s σ H Q I h => ?_⟩
  refine wpAny_Call_Name_kw (ld_glob I hg hm ?_ hdb)
  refine callWith_K (h₀ := X.base) I.ok.mod.kin hk (thn (ha.run pos pins s σ H _ I h) fun us s1 ⟨vs, H1, I1, r, q⟩ => ⟨I1.kIn, ?_⟩) he hpl
  refine wpAny_call (codeAny_mono (run pins σ s1 H1 us vs Q I1 r q) fun r' s' hq => ?_)
  cases r' with
  | error e => exact (show False from hq).elim
  | ok fl =>
    cases fl with
    | ret u => exact I1.after hq
    | next => exact False.elim hq
    | brk => exact False.elim hq
    | cont => exact False.elim hq
/-- the cells of a running def are no frames -/
theorem cells_nf {X : Cx} {pins : List (Addr × Obj)} {σ : L2.St} {H : Hp} {s : Shared} (I : Inv X pins σ H s) (all : ∀ x, X.fn x = true) : ∀ y c, X.env.cells.lookup y = some c → c ∉ frs X.stack := fun y c z q => by
  rcases List.mem_cons.mp (I.stkSub _ q) with e | e
  · exact I.cne y c z e
  · obtain ⟨_, o, ho, _⟩ := I.ok.funs.mem e
    exact absurd (Heap.lt_size ho) (Nat.not_lt.mpr (I.ok.cab y c (all y) z))
/-- a lambda as a value: the reading -/
def tLamN (T : List NTab) (mk : Addr → NF) (e : Expr) : TE := fun _ H Q => TabsN T H ∧ ∀ (f c' : Addr) (H1 : Hp), LamX.ExtN H H1 → (∀ b, H1 b = Option.none → H b = Option.none) → TabsN T H1 → H f = none → H1 f = some (LmO f (mk c') e) → H1 c' = some (LamX.CodeO c' (mk c').qual) → Q (.ref f) H1
theorem pe_lamN {X : Cx} {T : List NTab} {nm : Nat → Nat → Str} {c P : Addr} {params : Arguments} {e : Expr} {scope : Scope} {pos : Pos} (B : LamX.TabB X.base X.mg c P) (ec : X.env.code = .ref c) (inT : (P, nm) ∈ T) (at_ : nm pos.line pos.col = X.env.qual ++ "<lambda>") (only : ∀ p ∈ T, p.1 = P → p.2 = nm) (nod : defaultsOf params X.env = ([], []))
    (free : ∀ y ∈ scope.names, y.2 = .free → X.env.scope.names.lookup y.1 = some .cell ∨ X.env.scope.names.lookup y.1 = some .free) : PE X (.Lambda params e scope pos) (tLamN T (fun c' => ⟨"<lambda>", X.env.qual ++ "<lambda>", params, [], scope, cloFrom X.env.cells scope.names [], c'⟩) e) := by
  refine ⟨fun pins s σ H Q I h => ?_⟩
  obtain ⟨hT, h⟩ := h
  refine lam_new I B ec inT at_ only hT nod (fun y hy z => (free y hy z).elim (fun q => I.ok.has _ (.inl q)) fun q => I.ok.has _ (.inr q)) fun c' m t H1 h1 tk I1 eN nn T1 le hco => ?_
  have nF : H1 h1.objs.size = none := I1.hok.fresh (Nat.le_refl _)
  have I2 := inv_lm (F := ⟨"<lambda>", X.env.qual ++ "<lambda>", params, [], scope, cloFrom X.env.cells scope.names [], c'⟩) (e := e) (m := m) (t := t) (t' := tk) I1
  refine ⟨.ref h1.objs.size, _, I2, rfl, h _ c' _ (fun b o z n => ?_) (fun b z => nn b (upd_none z)) (T1.ext fun b o z => ?_) (I.hok.fresh le) upd_same ?_⟩
  · have z1 := eN b o z n
    exact (upd_ne (ne_of_none z1 nF)).trans z1
  · exact (upd_ne (ne_of_none z nF)).trans z
  · exact (upd_ne (ne_of_none hco nF)).trans hco
end Rep
namespace Rep
open PySem PySem.W PySem.Spec PyProof.Rows L2 NdefX
def kD (k : Int × Int) : PyData := .tuple [.int k.1, .int k.2]
/-- the place of the first item whose key is the greatest -/
def topAt (kk : V → Int × Int) (ys : List V) : Nat := argBest (fun i j => dataLt (.tuple [.int (kk (ys.getD j .non)).1, .int (kk (ys.getD j .non)).2]) (.tuple [.int (kk (ys.getD i .non)).1, .int (kk (ys.getD i .non)).2])) (ys.length - 1)
def rMaxLam (T : List NTab) (N : List Str) (t : TE) (Q : VK) (vs : List V) (H1 : Hp) : Prop := ∃ (l : Addr) (ys : List V) (kk : V → Int × Int), vs = [.ref l] ∧ H1 l = some (.lst ys) ∧ ys ≠ [] ∧ TabsN T H1 ∧
  (∀ y ∈ ys, ∀ (H' : Hp) (Q' : VK), (∀ b xs, H1 b = some (.tup xs) → H' b = some (.tup xs)) → (∀ p, H' p = none → Q' (.ref p) (upd H' p (.tup [.int (kk y).1, .int (kk y).2]))) → t (L2.start N [y]) H' Q') ∧
  ∀ H3 y, LamX.ExtN H1 H3 → TabsN T H3 → ys[topAt kk ys]? = some y → Q y H3
def tMaxLam (T : List NTab) (N : List Str) (t : TE) (ta : TA) : TE := fun σ H Q => ta σ H (rMaxLam T N t Q)
theorem pe_maxLam {X : Cx} {T : List NTab} {nm : Nat → Nat → Str} {c P : Addr} {k : Nat} {x : Str} {params : Arguments} {body : Expr} {scope : Scope} {lpos p pos kpos : Pos} {e : Expr} {t : TE} {ta : TA} {N : List Str}
    (hg : Gl X "max") (hm : X.mg "max" = none) (ha : PA X [e] ta) (TB : LamX.TabB X.base X.mg c P) (hcode : X.env.code = .ref c) (hmT : (P, nm) ∈ T) (hnm : nm lpos.line lpos.col = X.env.qual ++ "<lambda>") (hu : ∀ p ∈ T, p.1 = P → p.2 = nm)
    (hdef : defaultsOf params X.env = ([], [])) (hnf : ∀ y ∈ scope.names, y.2 ≠ .free) (hclo : cloFrom X.env.cells scope.names [] = []) (hr : Room (k + 2) X.A) (Sc : FnScope N [x] scope)
    (hb : ∀ (q : Str) (pm cv ctv u : Value), bindArgs (kla_fn "<lambda>" q params body scope [] pm cv ctv) ⟨[u], []⟩ = pure [(x, u)])
    (hbody : ∀ (A : Around) (outer : List Env) (s : Shared) (H : Hp) (g : Addr) (cd : Value), Room k (A.deeper (envOfC (X.env.qual ++ "<lambda>") scope s.heap.objs.size g cd)) → PE (cxOf CX0 X.prog X.w X.K X.mg X.base N (X.env.qual ++ "<lambda>") scope g cd A outer s H E0).nox body t)
    (hs : backTo pos (starEach [e] X.env) = (false, eval e X.env) :: backTo pos (starEach [] X.env) := by rfl) (hpl : (backTo pos (starEach [e] X.env)).any (·.1) = false := by rfl) :
    PE X (.Call (.Name "max" p) [e] [⟨some "key", .Lambda params body scope lpos, kpos⟩] pos) (tMaxLam T N t ta) := by
  refine ⟨fun pins s σ H Q I h => ?_⟩
  refine wpAny_Call_Name_kw (ld_blt I hg hm (show bootBuiltins "max" = some (.builtin "max") by decide +kernel) ?_)
  refine PyProof.Rows.callWith_kw (thn (ha.run pos pins s σ H (rMaxLam T N t Q) I h) fun us s1 ⟨vs, H1, I1, r1, q1⟩ => ?_) hs hpl
  obtain ⟨l, ys, kk, rfl, hl, hne, hT, hk, hfin⟩ := q1
  obtain rfl := Vals.ref1 r1
  show wpAny _ _ (evalAll ((do let v ← eval (.Lambda params body scope lpos) X.env; standAt pos; pure v) :: [])) _ _ s1
  refine wpAny_evalAll_cons (wpAny_bind (lam_new I1 TB hcode hmT hnm hu hT hdef (fun y hy e => absurd e (hnf y hy)) fun c' pm ctv H2 h1 tk I2' eN _ T2 le hco => wpAny_bind (wpAny_standAt (wpAny_pure ?_))))
  refine wpAny_evalAll_nil ?_
  rw [hclo]
  have hfr : h1.objs.size ∉ frs X.stack := fun z => (List.mem_cons.mp (I1.stkSub _ z)).elim (fun e => Nat.ne_of_gt (Nat.lt_of_lt_of_le I1.lt le) e) fun e => I1.nofs le e
  have hfn : H2 h1.objs.size = none := I2'.hok.fresh (Nat.le_refl _)
  obtain ⟨s2, es2⟩ : ∃ s2 : Shared, s2 = { s1 with heap := h1.push (kla_obj "<lambda>" (X.env.qual ++ "<lambda>") params body scope [] pm c' ctv), toks := tk } := ⟨_, rfl⟩
  rw [← es2]
  have hf : s2.heap.get? h1.objs.size = some (kla_obj "<lambda>" (X.env.qual ++ "<lambda>") params body scope [] pm c' ctv) := by rw [es2]; exact Heap.get?_push_size _ rfl
  have I2 : Inv X pins σ H2 s2 := by rw [es2]; exact I2'.kept (t' := tk) fun b o e => Heap.get?_push_of_some _ e
  clear es2
  generalize h1.objs.size = f at hfr hfn hf ⊢
  have hl2 : H2 l = some (.lst ys) := eN l _ hl (fun ps z => by cases z)
  obtain ⟨od, I3⟩ := I2.lock hl2 trivial
  have nfl : f ≠ l := fun z => by rw [z, hl2] at hfn; cases hfn
  have ncl : c' ≠ l := fun z => by rw [z, hl2] at hco; unfold LamX.CodeO at hco; cases hco
  have hl3 : upd H2 l (.frz od (.lst ys)) l = some (.frz od (.lst ys)) := upd_same
  obtain ⟨_, _, its, n, rv, el⟩ := I3.hok l _ hl3
  have hlt : its.length = ys.length := rv.length.symm
  have hn0 : 0 < ys.length := List.length_pos_iff.mpr hne
  have hf3 : upd H2 l (.frz od (.lst ys)) f = none := by rw [upd_ne nfl]; exact hfn
  have hco3 : upd H2 l (.frz od (.lst ys)) c' = some (LamX.CodeO c' (X.env.qual ++ "<lambda>")) := by rw [upd_ne ncl]; exact hco
  have hh : X.A.in1.handled = none := hr.hd
  have tups : ∀ b xs, H1 b = some (.tup xs) → upd H2 l (.frz od (.lst ys)) b = some (.tup xs) := fun b xs hx => by
    have hb2 : H2 b = some (.tup xs) := eN b _ hx (fun ps z => by cases z)
    rw [upd_ne (ne_of hb2 hl2 (by intro z; cases z))]
    exact hb2
  refine call_max_walkK (PySem.W.iter_listW (A := X.A.in1) (vs := its.toArray) hh ⟨_, el, rfl, n, rfl⟩ fun s₃ e3 W st hfp hw hkp => ?_)
  have hsz : s₃.heap.objs.size = s2.heap.objs.size + 1 := by rw [e3]; exact Heap.size_push _ _
  have KR := key_run (S := s₃.heap.objs.size) (vs := its.toArray) (kk := kk) I3 hl3 (by simpa using rv) Sc hf hf3 hfr hco3 hr (fun u => hb _ _ _ _ u) hbody (fun y hy H' Q' g hq => hk y hy H' Q' (fun b xs hx => g.all _ _ (tups b xs hx)) hq) hsz.symm
  · have I4 : Inv X pins σ (upd H2 l (.frz od (.lst ys))) s₃ := by
      rw [e3]
      exact I3.kept (t' := s2.toks) (h' := s2.heap.push _) fun b o q => Heap.get?_push_of_some _ q
    refine ⟨_, _, _, _, _, _, _, _, _, _, rfl, W, st, hfp, by rw [List.size_toArray, hlt]; exact hn0, KR, ⟨⟨_, I4, Grown.refl _, I3.hok.fresh (Nat.le_refl _), I3.hok.fresh (by rw [hsz]; exact Nat.le_succ _), hf3⟩, hkp f _ hf⟩, fun v s4 hP hJ => ?_⟩
    obtain ⟨⟨H4, I5, g, _, _, _⟩, _⟩ := hJ
    have hl4 := g.all _ _ hl3
    have I6 := I5.unlock hl4 (I2.nofrz hl2 trivial)
    have same : ∀ b o, H2 b = some o → upd H4 l (.lst ys) b = some o := fun b o q => by
      by_cases c1 : b = l
      · subst c1; rw [upd_same, ← hl2]; exact q
      · rw [upd_ne c1]
        exact g.all _ _ (by rw [upd_ne c1]; exact q)
    have hP' : its[topAt kk ys]? = some v := by
      have e5 : its.toArray.size - 1 = ys.length - 1 := by rw [List.size_toArray, hlt]
      rw [e5, List.getElem?_toArray] at hP
      exact hP
    have hti : topAt kk ys < ys.length := by
      rw [← hlt]
      exact (List.getElem?_eq_some_iff.mp hP').1
    obtain ⟨u, hu', ru⟩ := rv.get (List.getElem?_eq_getElem hti)
    rw [hP'] at hu'
    cases hu'
    refine ⟨ys[topAt kk ys], _, I6, ru, hfin _ _ (fun b o q n => same b o (eN b o q n)) (T2.ext same) (List.getElem?_eq_getElem hti)⟩
end Rep
/-! what is walked and taken apart while an exception is handled -/
namespace RepHot
open PySem PySem.Spec PyProof.Rows L2 L2H HotX
section
variable {prog : Program} {w : World} {A : Around} {E : Value → Shared → Prop} {s : Shared}
def Kp (h h' : Heap) : Prop := ∀ b o, h.get? b = some o → h'.get? b = some o
theorem HotAt.kp {x : Addr} {h h' : Heap} (t : HotAt A x h) (k : ∀ o, h.get? x = some o → h'.get? x = some o) : HotAt A x h' := by
  obtain ⟨a, o, vs, e, d, c⟩ := t
  exact ⟨a, o, vs, k _ e, d, c⟩
/-- a new StopIteration -/
theorem stop_made {x : Addr} {Q : Value → Shared → Prop} (t : HotAt A x s.heap)
    (q : ∀ h' e oe vs, Kp s.heap h' → h'.get? e = some oe → oe.cls = .type "StopIteration" → oe.data = .fields vs → 2 < vs.size → x ≠ e → HotAt A x h' → (∀ b o, s.heap.get? b = some o → b ≠ e) → Q (.ref e) { s with heap := h' }) : wpAny (model prog w) A (newExc (.type "StopIteration") []) Q E s := by
  simp only [newExc, newTuple]
  refine wpAny_bind (wpAny_newObj_type ?_ (by size_fits))
  refine wpAny_bind (m := firstArgMember _ _) (wpAny_of_eq (a := Value.none) (by first | rfl | (simp only [firstArgMember]; rfl)) ?_)
  refine wpAny_newObj_type ?_ (by size_fits)
  obtain ⟨ah, ox, vx, zx, dx, cx⟩ := t
  exact q _ _ _ _ (fun b o z => Heap.get?_push_of_some _ (Heap.get?_push_of_some _ z)) (Heap.get?_push_size _ rfl) rfl rfl (by first | (simp; done) | (simp; omega) | (simp only [Array.size_append]; simp; omega)) (Nat.ne_of_lt (Heap.lt_size (Heap.get?_push_of_some _ zx))) ⟨ah, ox, vx, Heap.get?_push_of_some _ (Heap.get?_push_of_some _ zx), dx, cx⟩ (fun b o z => Nat.ne_of_lt (Heap.lt_size (Heap.get?_push_of_some _ z)))
/-- and raised -/
theorem stop_raised {α : Type} {x e : Addr} {oe : Obj} {vs : Array Value} {Q : α → Shared → Prop} (t : HotAt A x s.heap) (n : x ≠ e) (g : s.heap.get? e = some oe) (c : oe.cls = .type "StopIteration") (d : oe.data = .fields vs) (l : 2 < vs.size)
    (q : ∀ h', (∀ b o, b ≠ e → s.heap.get? b = some o → h'.get? b = some o) → (∃ o, h'.get? e = some o ∧ o.cls = .type "StopIteration") → E (.ref e) { s with heap := h' }) : wpAny (model prog w) A (raiseNew (.ref e) : Sem α) Q E s := by
  refine raiseNew_hot t n g d l (q _ (fun b o nb z => ?_) ⟨_, Heap.get?_update_self _ g (Obj.isFreed_of_fields (Obj.data_mapFields d _)), (Obj.cls_mapFields ..).trans c⟩)
  rw [Heap.get?_update_other _ _ nb.symm]; exact z
/-- a tuple's iterator at its end -/
theorem tup_end {it t x : Addr} {i : Nat} {items : Array Value} {Q : Option Value → Shared → Prop} (hot : HotAt A x s.heap) (nx : x ≠ it) (hit : IsTupIter s.heap it t i) (ht : IsTup s.heap t items) (no : items[i]? = none)
    (q : ∀ h', Heap.ExtBut it s.heap h' → Q none { s with heap := h' }) : wpAny (model prog w) A (pyNext (.ref it)) Q E s := by
  obtain ⟨o1, g1, _, d1⟩ := id hit
  obtain ⟨o2, g2, _, _, d2⟩ := ht
  unfold pyNext
  refine wpAny_bind (wpAny_attempt (wpAny_callSpecial?_slot (name := Str.ofString "__next__") hit.typeIs slot_tupleiter_next (wpAny_call_entry slot_tupleiter_next hit.typeIs entry_tupleiter_next ?_ (args_tupleiter_next _))))
  show wpAny _ _ (field (.ref it) 0 >>= _) _ _ s
  refine wpAny_bind (wpAny_field g1 d1 (x := .ref t) rfl ?_)
  show wpAny _ _ (if (Value.ref t == Value.none) = true then _ else _) _ _ s
  rw [if_neg (fun z : (Value.ref t == Value.none) = true => Bool.false_ne_true z)]
  show wpAny _ _ (field (.ref it) 1 >>= _) _ _ s
  refine wpAny_bind (wpAny_field g1 d1 (x := .int i 0) rfl ?_)
  show wpAny _ _ (seqItems? (.ref t) >>= _) _ _ s
  refine wpAny_bind (wpAny_seqItems g2 d2 ?_)
  simp only [Int.toNat_natCast, no]
  refine wpAny_bind (wpAny_rule (wpAny_bind (wpAny_setField g1 d1 (by simp) ?_)))
  show wpAny _ _ (newExc (.type "StopIteration") [] >>= _) _ _ _
  have ext := (Heap.SameBut.update s.heap it (Obj.mapFields (·.setIfInBounds 0 Value.none))).extBut
  refine wpAny_bind (stop_made (HotAt.kp hot fun o z => ext _ _ nx z) fun h1 e oe vs kp g c d l ne hot1 old => ?_)
  refine stop_raised hot1 ne g c d l fun h2 k2 he => ?_
  obtain ⟨o, ho, hc⟩ := he
  refine wpAny_bind (wpAny_isInstance (T := "StopIteration") (b := true) ⟨o, ho, hc⟩ isSubtype_stop ?_)
  refine wpAny_pure (q _ fun b o nb z => ?_)
  exact k2 b o (old b o (ext b o nb z)) (kp b o (ext b o nb z))
/-- a list's iterator at its end, within zip -/
theorem list_end {it t x : Addr} {i : Nat} {items : Array Value} {Q : Value → Shared → Prop} (hot : HotAt A x s.heap) (nx : x ≠ it) (hit : s.heap.IsListIter it t i) (ht : s.heap.IsList t items) (no : items[i]? = none)
    (q : ∀ h' e, Heap.ExtBut it s.heap h' → (∃ o, h'.get? e = some o ∧ o.cls = .type "StopIteration") → E (.ref e) { s with heap := h' }) : wpAny (model prog w) A (Builtin.SmallTypes.nextOf (.ref it)) Q E s := by
  obtain ⟨o1, g1, _, d1⟩ := id hit
  obtain ⟨o2, g2, _, _, d2⟩ := ht
  unfold Builtin.SmallTypes.nextOf
  refine wpAny_bind (wpAny_callSpecial?_slot (name := Str.ofString "__next__") hit.typeIs slot_listiter_next (wpAny_call_entry slot_listiter_next hit.typeIs entry_listiter_next ?_ (args_listiter_next _)))
  show wpAny _ _ (field (.ref it) 0 >>= _) _ _ s
  refine wpAny_bind (wpAny_field g1 d1 (x := .ref t) rfl ?_)
  show wpAny _ _ (if (Value.ref t == Value.none) = true then _ else _) _ _ s
  rw [if_neg (fun z : (Value.ref t == Value.none) = true => Bool.false_ne_true z)]
  show wpAny _ _ (field (.ref it) 1 >>= _) _ _ s
  refine wpAny_bind (wpAny_field g1 d1 (x := .int i 0) rfl ?_)
  show wpAny _ _ (seqItems? (.ref t) >>= _) _ _ s
  refine wpAny_bind (wpAny_seqItems g2 d2 ?_)
  simp only [Int.toNat_natCast, no]
  refine wpAny_bind (wpAny_rule (wpAny_bind (wpAny_setField g1 d1 (by simp) ?_)))
  show wpAny _ _ (newExc (.type "StopIteration") [] >>= _) _ _ _
  have ext := (Heap.SameBut.update s.heap it (Obj.mapFields (·.setIfInBounds 0 Value.none))).extBut
  refine wpAny_bind (stop_made (HotAt.kp hot fun o z => ext _ _ nx z) fun h1 e oe vs kp g c d l ne hot1 old => ?_)
  exact stop_raised hot1 ne g c d l fun h2 k2 he => q _ _ (fun b o nb z => k2 b o (old b o (ext b o nb z)) (kp b o (ext b o nb z))) he
/-- a tuple of so many, taken apart -/
theorem apart_tuple {env : Env} {elts : List Expr} {kk} {pos : Pos} {t x : Addr} {items : Array Value} {Q : Unit → Shared → Prop} (hot : HotAt A x s.heap) (ht : IsTup s.heap t items) (hn : (assignEach elts env).length = items.size) (hst : (assignEach elts env).findIdx? (·.1) = none)
    (q : ∀ h', Heap.ExtBut s.heap.objs.size s.heap h' → wpAny (model prog w) A (assignInOrder ((assignEach elts env).map (·.2)) items.toList) Q E { s with heap := h' }) : wpAny (model prog w) A (assign (.Tuple elts kk pos) env (.ref t)) Q E s := by
  have ne : t ≠ s.heap.objs.size := by obtain ⟨o, z, _⟩ := ht; exact Nat.ne_of_lt (Heap.lt_size z)
  have nx : x ≠ s.heap.objs.size := by obtain ⟨_, o, _, z, _⟩ := hot; exact Nat.ne_of_lt (Heap.lt_size z)
  rw [assign_Tuple]
  refine wpAny_bind (wpAny_standAt ?_)
  unfold unpack
  rw [hn, hst]
  refine wpAny_bind (wpAny_holding ?_)
  unfold unpackItems notIterableAtAll
  refine wpAny_bind (wpAny_bind (wpAny_specialOf ht.typeIs slot_tuple_iter.lookup (wpAny_pure ?_)))
  simp only [Bool.false_eq_true, if_false]
  refine wpAny_bind (wpAny_holding (iter_tuple ht ?_))
  refine wpAny_bind (wpAny_holding (draw_tuple ne items.size 0 _ _ ⟨_, Heap.get?_push_size _ rfl, rfl, rfl⟩ (ht.push _) (by omega) fun h1 it1 s1 => ?_))
  rw [show List.take items.size (List.drop 0 items.toList) = items.toList by rw [List.drop_zero]; exact List.take_of_length_le (by simp), if_neg (by simp)]
  have hot1 : HotAt A x h1 := HotAt.kp hot fun o z => s1.extBut _ _ nx (Heap.get?_push_of_some _ z)
  refine wpAny_bind (wpAny_holding (tup_end hot1 nx it1 ((ht.push _).extBut s1.extBut ne) (by simp) fun h2 e2 => ?_))
  simp only [Option.isSome_none, Bool.false_eq_true, if_false]
  exact wpAny_pure (q h2 fun b o nb z => e2 b o nb (s1.extBut b o nb (Heap.get?_push_of_some _ z)))
/-- zip of two lists at its end -/
theorem zip_end0 {z TI TO i1 i2 l1 l2 x : Addr} {k1 k2 : Nat} {xs ys : Array Value} {a b : Value} {Q : Fin → Shared → Prop} (hot : HotAt A x s.heap) (nz : x ≠ z) (nO : x ≠ TO) (n1 : x ≠ i1) (n2 : x ≠ i2) (D : ZipApart z TI TO i1 i2 l1 l2)
    (hz : IsZip s.heap z TI TO .none) (hTI : IsPair s.heap TI (.ref i1) (.ref i2)) (hTO : IsPair s.heap TO a b) (h1 : s.heap.IsListIter i1 l1 k1) (h2 : s.heap.IsListIter i2 l2 k2) (hl1 : s.heap.IsList l1 xs) (hl2 : s.heap.IsList l2 ys) (no : xs[k1]? = none ∨ ys[k2]? = none)
    (fin : ∀ (h' : Heap) (e : Addr), (∀ c o, c ≠ z → c ≠ TO → c ≠ i1 → c ≠ i2 → s.heap.get? c = some o → h'.get? c = some o) → (∃ o, h'.get? e = some o ∧ o.cls = .type "StopIteration") → E (.ref e) { s with heap := h' }) : wpAny (model prog w) A (Builtin.«zip.__next__» ⟨[.ref z], []⟩) Q E s := by
  show wpAny _ _ (field (.ref z) 2 >>= _) _ _ _
  refine wpAny_bind (wpAny_field hz rfl (x := .bool false) rfl ?_)
  show wpAny _ _ (field (.ref z) 3 >>= _) _ _ _
  refine wpAny_bind (wpAny_field hz rfl (x := .ref TI) rfl (wpAny_bind (wpAny_seqItems hTI rfl ?_)))
  show wpAny _ _ (Builtin.SmallTypes.ownedTupleIsFree (.ref z) >>= _) _ _ _
  unfold Builtin.SmallTypes.ownedTupleIsFree
  refine wpAny_bind (wpAny_bind (wpAny_field hz rfl (x := .none) rfl (wpAny_pure ?_)))
  simp only [if_true]
  refine wpAny_bind (wpAny_rule (wpAny_bind (wpAny_field hz rfl (x := .ref TO) rfl ?_)))
  refine wpAny_bind (wpAny_setField_rec hz (by simp) fun g1 zz1 e1 => ?_)
  replace zz1 : IsZip g1 z TI TO .ellipsis := zz1
  have hot1 : HotAt A x g1 := HotAt.kp hot fun o v => e1.extBut _ _ nz v
  refine wpAny_bind ?_
  simp only [List.zipIdx_cons, List.zipIdx_nil, List.forIn_cons, List.forIn_nil]
  refine wpAny_bind (wpAny_bind (wpAny_onRaise ?_))
  show wpAny _ _ (Builtin.SmallTypes.nextOf (.ref i1) >>= _) _ _ _
  cases hx : xs[k1]? with
  | none =>
    refine wpAny_bind (list_end hot1 n1 (h1.extBut e1.extBut D.i1z) (hl1.extBut e1.extBut D.l1z) hx fun g2 e e2 he => ?_)
    obtain ⟨oe, ge, ce⟩ := he
    have zz2 : IsZip g2 z TI TO .ellipsis := e2 _ _ D.i1z.symm zz1
    have ez : e ≠ z := fun v => by subst v; rw [zz2] at ge; cases ge; simp at ce
    exact wpAny_setField_rec zz2 (by simp) fun g3 _ e3 => fin g3 e (fun c o c1 _ c3 _ v => e3.extBut _ _ c1 (e2 _ _ c3 (e1.extBut _ _ c1 v))) ⟨oe, e3.extBut _ _ ez ge, ce⟩
  | some v1 =>
    have hy : ys[k2]? = none := no.resolve_left (by rw [hx]; simp)
    refine wpAny_bind (wpAny_nextOf_list_item (h1.extBut e1.extBut D.i1z) (hl1.extBut e1.extBut D.l1z) hx fun g2 _ e2 => wpAny_pure ?_)
    have pO : IsPair g2 TO a b := e2.extBut _ _ D.TOi1 (e1.extBut _ _ D.TOz hTO)
    refine wpAny_bind (wpAny_seqItems pO rfl (wpAny_bind (wpAny_updateSeq_pair pO fun g3 _ e3 => ?_)))
    have hot3 : HotAt A x g3 := HotAt.kp hot1 fun o v => e3.extBut _ _ nO (e2.extBut _ _ n1 v)
    refine wpAny_bind (wpAny_letGo (wpAny_pure (wpAny_bind (wpAny_bind (wpAny_onRaise ?_)))))
    show wpAny _ _ (Builtin.SmallTypes.nextOf (.ref i2) >>= _) _ _ _
    refine wpAny_bind (list_end hot3 n2 (((h2.extBut e1.extBut D.i2z).extBut e2.extBut D.i12.symm).extBut e3.extBut D.TOi2.symm) (((hl2.extBut e1.extBut D.l2z).extBut e2.extBut D.l2i1).extBut e3.extBut D.l2TO) hy fun g4 e e4 he => ?_)
    obtain ⟨oe, ge, ce⟩ := he
    have zz4 : IsZip g4 z TI TO .ellipsis := e4 _ _ D.i2z.symm (e3.extBut _ _ D.TOz.symm (e2.extBut _ _ D.i1z.symm zz1))
    have ez : e ≠ z := fun v => by subst v; rw [zz4] at ge; cases ge; simp at ce
    exact wpAny_setField_rec zz4 (by simp) fun g5 _ e5 => fin g5 e (fun c o c1 c2 c3 c4 v => e5.extBut _ _ c1 (e4 _ _ c4 (e3.extBut _ _ c2 (e2.extBut _ _ c3 (e1.extBut _ _ c1 v))))) ⟨oe, e5.extBut _ _ ez ge, ce⟩
theorem zip_end {z TI TO i1 i2 l1 l2 x : Addr} {k1 k2 : Nat} {xs ys : Array Value} {a b : Value} {Q : Option Value → Shared → Prop} (hot : HotAt A x s.heap) (nz : x ≠ z) (nO : x ≠ TO) (n1 : x ≠ i1) (n2 : x ≠ i2) (D : ZipApart z TI TO i1 i2 l1 l2)
    (hz : IsZip s.heap z TI TO .none) (hTI : IsPair s.heap TI (.ref i1) (.ref i2)) (hTO : IsPair s.heap TO a b) (h1 : s.heap.IsListIter i1 l1 k1) (h2 : s.heap.IsListIter i2 l2 k2) (hl1 : s.heap.IsList l1 xs) (hl2 : s.heap.IsList l2 ys) (no : xs[k1]? = none ∨ ys[k2]? = none)
    (q : ∀ h', (∀ c o, c ≠ z → c ≠ TO → c ≠ i1 → c ≠ i2 → s.heap.get? c = some o → h'.get? c = some o) → Q none { s with heap := h' }) : wpAny (model prog w) A (pyNext (.ref z)) Q E s := by
  have hT : s.TypeIs (.ref z) "zip" := ⟨_, hz, rfl⟩
  unfold pyNext
  refine wpAny_bind (wpAny_attempt (wpAny_callSpecial?_slot (name := Str.ofString "__next__") hT F.slot_zip_next (wpAny_call_entry F.slot_zip_next hT F.entry_zip_next (zip_end0 hot nz nO n1 n2 D hz hTI hTO h1 h2 hl1 hl2 no fun h' e kp he => ?_) (F.args_zip_next_1 _))))
  obtain ⟨o, ho, hc⟩ := he
  exact wpAny_bind (wpAny_isInstance (T := "StopIteration") (b := true) ⟨o, ho, hc⟩ isSubtype_stop (wpAny_pure (q _ kp)))
end
end RepHot
/-! rules for an except suite's callee -/
namespace RepHot
open PySem PySem.Spec PyProof.Rows L2 L2H HotX
abbrev St := L2.St
section
variable {X : Cx}
theorem pg_tupP {es : List Expr} {k : Nat} {t : TGs} {n : Nat} {pos : Pos} (hc : HotC X) (h : PGs X es t) (hn : (assignEach es X.env).length = n := by rfl) (hst : (assignEach es X.env).findIdx? (·.1) = none := by rfl) : PG X (.Tuple es k pos) (gTup X.K n t) := by
  refine ⟨fun ps s σ H v u Q I r hw => ?_⟩
  obtain ⟨a, xs, rfl, hq, hl, hw⟩ := hw
  cases r
  obtain ⟨vals, rel, tp, _⟩ := I.tuple hq
  obtain ⟨x, hot⟩ := hc.at I
  refine apart_tuple hot tp (by simp [hn, ← hl, rel.length]) hst fun h' ext => ?_
  have I' : Inv X ps σ H { s with heap := h' } := I.kept (t' := s.toks) fun b o z => ext b o (Nat.ne_of_lt (Heap.lt_size z)) z
  exact h.run ps _ σ H xs _ Q I' (by simpa using rel) hw
end
theorem five {c z TI TO i1 i2 : Addr} (h : c ∈ [z, TI, TO, i1, i2]) : c = z ∨ c = TI ∨ c = TO ∨ c = i1 ∨ c = i2 := by simpa using h
theorem turn_zipP {P : Program} {w : World} {K : PySem.W.Frag} {elts : List Expr} {kk : Nat} {tpos : Pos} {a b z TI TO i1 i2 : Addr} (D : ZipApart z TI TO i1 i2 a b) :
    TurnH P w K (.Tuple elts kk tpos) (Itz K a b) [z, TI, TO, i1, i2] z (fun i h => IsZip h z TI TO .none ∧ IsPair h TI (.ref i1) (.ref i2) ∧ (∃ x y, IsPair h TO x y) ∧ h.IsListIter i1 a i ∧ h.IsListIter i2 b i) where
  mem := (turn_zip (P := P) (w := w) (K := K) (elts := elts) (kk := kk) (tpos := tpos) D).mem
  obj := (turn_zip (P := P) (w := w) (K := K) (elts := elts) (kk := kk) (tpos := tpos) D).obj
  keep := (turn_zip (P := P) (w := w) (K := K) (elts := elts) (kk := kk) (tpos := tpos) D).keep
  item := by
    intro X eP ew eK _ i ps s σ H E I fr stt go
    subst eP ew eK
    obtain ⟨sz, sI, ⟨q1, q2, sO⟩, s1, s2⟩ := stt
    obtain ⟨xs, ys, v1, v2, lx, ly, gx, gy⟩ := go
    obtain ⟨us, ru, pu, _⟩ := I.list lx
    obtain ⟨ws, rw', pw, _⟩ := I.list ly
    obtain ⟨u, hu, vu⟩ := ru.get gx
    obtain ⟨u', hu', vu'⟩ := rw'.get gy
    have lz : z < s.heap.objs.size := Heap.lt_size sz
    refine wpAny_pyNext_zip_item D sz sI sO s1 s2 pu.isList pw.isList (x := u) (y := u') (by simpa using hu) (by simpa using hu') fun g zz pO n1 n2 pT _ kp => ⟨_, rfl, wpAny_letOwnedTupleGo_zip (s := { s with heap := g }) zz fun g' zz' sb => ?_⟩
    have pT' : g'.get? s.heap.objs.size = some { cls := .type "tuple", data := .seq #[u, u'] } := (sb.2 _ (Nat.ne_of_gt lz)).trans pT
    have ok : ObjOk X.prog X.w (upd H s.heap.objs.size (.tup [v1, v2])) g' s.heap.objs.size (.tup [v1, v2]) := ⟨by show 2 ≤ sizeLine; decide, [u, u'], .cons vu (.cons vu' .nil), ⟨_, pT', rfl, _, rfl⟩⟩
    have I' : Inv X ps σ (upd H s.heap.objs.size (.tup [v1, v2])) { s with heap := g' } := I.turnedNew (t' := s.toks) (ch := [z, TI, TO, i1, i2]) (fun c o hb q => (sb.2 c (fun e => hb (by simp [e]))).trans (kp c o (fun e => hb (by simp [e])) (fun e => hb (by simp [e])) (fun e => hb (by simp [e])) (fun e => hb (by simp [e])) q)) fr (Nat.le_refl _) ok
    have eqx : ∀ l, SqL X.K H a l → l[i]? = some v1 := fun l hl => by rw [I.list_inj hl lx]; exact gx
    have eqy : ∀ l, SqL X.K H b l → l[i]? = some v2 := fun l hl => by rw [I.list_inj hl ly]; exact gy
    refine ⟨.ref s.heap.objs.size, _, I', rfl, ⟨_, v1, v2, rfl, I.hok.fresh (Nat.le_refl _), rfl, eqx, eqy⟩, ⟨zz', (sb.2 _ D.TIz).trans (kp _ _ D.TIz D.TITO D.TIi1 D.TIi2 sI), ⟨u, u', (sb.2 _ D.TOz).trans pO⟩, n1.at fun o q => (sb.2 _ D.i1z).trans q, n2.at fun o q => (sb.2 _ D.i2z).trans q⟩, fun c hc => ?_⟩
    have lt : c < s.heap.objs.size := by
      rcases five hc with e | e | e | e | e
      · rw [e]; exact lz
      · rw [e]; exact Heap.lt_size sI
      · rw [e]; exact Heap.lt_size sO
      · rw [e]; obtain ⟨_, e1, _⟩ := s1; exact Heap.lt_size e1
      · rw [e]; obtain ⟨_, e2, _⟩ := s2; exact Heap.lt_size e2
    rw [upd_ne (Nat.ne_of_lt lt)]
    exact (fr c hc).1
  done := by
    intro X eP ew eK hot i ps s σ H E I fr stt stop
    subst eP ew eK
    obtain ⟨sz, sI, ⟨q1, q2, sO⟩, s1, s2⟩ := stt
    obtain ⟨xs, ys, lx, ly, no⟩ := stop
    obtain ⟨us, ru, pu, _⟩ := I.list lx
    obtain ⟨ws, rw', pw, _⟩ := I.list ly
    have e1 := ru.length
    have e2 := rw'.length
    obtain ⟨p, ⟨hh, vp, dp, cp⟩, hp⟩ := hot
    have np : ∀ c, c ∈ [z, TI, TO, i1, i2] → p.1 ≠ c := fun c hc => (fr c hc).2.2.2.2.2 p (List.mem_append_left _ hp)
    have hA : HotAt X.A p.1 s.heap := ⟨hh, p.2, vp, (I.pin p (List.mem_append_left _ hp)).1, dp, cp⟩
    have no' : us.toArray[i]? = none ∨ ws.toArray[i]? = none := no.imp (fun q => by simp; omega) (fun q => by simp; omega)
    exact zip_end hA (np z (by simp)) (np TO (by simp)) (np i1 (by simp)) (np i2 (by simp)) D sz sI sO s1 s2 pu.isList pw.isList no' fun g kp => ⟨rfl, I.turnedL (t' := s.toks) (ch := [z, TI, TO, i1, i2]) (fun c o hb q => kp c o (fun e => hb (by simp [e])) (fun e => hb (by simp [e])) (fun e => hb (by simp [e])) (fun e => hb (by simp [e])) q) fr⟩
  self := (turn_zip (P := P) (w := w) (K := K) (elts := elts) (kk := kk) (tpos := tpos) D).self
theorem pi_zipP {X : Cx} {e e2 : Expr} {ta : TA} {p pos tpos : Pos} {elts : List Expr} {kk : Nat} (hg : Gl X "zip") (hm : X.mg "zip" = none) (ha : PA X [e, e2] ta) (hs : starEach [e, e2] X.env = (false, eval e X.env) :: starEach [e2] X.env := by rfl) (hpl : (backTo pos (starEach [e2] X.env)).any (·.1) = false := by rfl) :
    PIH X (.Tuple elts kk tpos) (.Call (.Name "zip" p) [e, e2] [] pos) (iZip X.K ta) := by
  refine ⟨fun ps s σ H R I h => Call_ (ld_blt I hg hm PyProof.Rows.boot_zip (PyProof.Rows.callWith_type1 (thn (ha.run pos ps s σ H _ I h) fun us s1 ⟨vs, H1, I1, r1, q1⟩ => ?_) hs hpl))⟩
  obtain ⟨a, b, xs, ys, ev, lx, ly, q⟩ := q1
  subst ev
  cases r1 with
  | cons ra rr =>
    cases rr with
    | cons rb rr =>
      cases rr
      cases ra
      cases rb
      obtain ⟨_, _, pa, _⟩ := I1.list lx
      obtain ⟨_, _, pb, _⟩ := I1.list ly
      refine call_zip_2 pa.isList pb.isList fun g hz hI hO h1 h2 _ kp => wpAny_pyIter_zip hz ?_
      refine ⟨s1.heap.objs.size + 4, [s1.heap.objs.size + 4, s1.heap.objs.size + 2, s1.heap.objs.size + 3, s1.heap.objs.size, s1.heap.objs.size + 1], _, _, H1, rfl, I1.kept (t' := s1.toks) kp, turn_zipP (PySem.W.ktu_apart s1.heap.objs.size a b pa.lt pb.lt), ⟨hz, hI, ⟨_, _, hO⟩, h1, h2⟩, fun c hc => ?_, q⟩
      have le : s1.heap.objs.size ≤ c := by
        rcases five hc with e | e | e | e | e
        · rw [e]; exact Nat.le_add_right ..
        · rw [e]; exact Nat.le_add_right ..
        · rw [e]; exact Nat.le_add_right ..
        · rw [e]; exact Nat.le_refl _
        · rw [e]; exact Nat.le_add_right ..
      exact I1.fpOk le (I1.hok.fresh le)
/-! the comprehension: as the layer's own, the handled exception stays pinned in its block -/
abbrev blkP (X : Cx) (s : Shared) (H : Hp) (scope : Scope) (ce : Env) (fp : List Addr) (p : Addr × Obj) : Cx := { X.blk s H scope ce fp with pn := [p] }
section
variable {X : Cx}
theorem inv_pin {s0 : Shared} {H0 : Hp} {scope : Scope} {ce : Env} {fp : List Addr} {p : Addr × Obj} {σ : St} {H : Hp} {s : Shared} (I : Inv (X.blk s0 H0 scope ce fp) [] σ H s) (h : s.heap.get? p.1 = some p.2 ∧ H p.1 = none ∧ p.1 ≠ ce.locals ∧ p.1 ∉ frs X.stack ∧ ∀ v, p.2.data ≠ .cell v) : Inv (blkP X s0 H0 scope ce fp p) [] σ H s :=
  ⟨⟨I.ok.mod, I.ok.kind, I.ok.glob, I.ok.blt, I.ok.above, I.ok.inj, I.ok.has, I.ok.cab, I.ok.hd, I.ok.frames, I.ok.stk, I.ok.exf, I.ok.bs, I.ok.bsz, I.ok.noex, I.ok.exfs, I.ok.funs, I.ok.frf⟩, I.os, I.bare, I.base, I.loc, I.cell, I.free, I.freeC, fun q hq => by
    have e : q = p := by simpa using hq
    rw [e]; exact h, I.hok, I.len⟩
theorem pe_lcP {elt tg iter : Expr} {ifs : List Expr} {scope : Scope} {own : List (Str × Nat)} {pos : Pos} {wi : TI} {g : TG} {tt : TT} {te : TE} {p : Addr × Obj} (hot : Hot1 X.A p) (hp : p ∈ X.pn) (hN : X.N.Nodup) (hi : PIH X tg iter wi) (ok : BlkOk X.N X.env.scope scope own)
    (hg : ∀ (s : Shared) (H : Hp) (C : Addr) (cl : List (Str × Addr)) (fp : List Addr), PG (blkP X s H scope (compEnvC scope cl C X.env) fp p) tg g) (ht : ∀ (s : Shared) (H : Hp) (C : Addr) (cl : List (Str × Addr)) (fp : List Addr), PTs (blkP X s H scope (compEnvC scope cl C X.env) fp p) ifs tt)
    (he : ∀ (s : Shared) (H : Hp) (C : Addr) (cl : List (Str × Addr)) (fp : List Addr), PE (blkP X s H scope (compEnvC scope cl C X.env) fp p) elt te) (hs : ∀ x, foldedSetIterable iter X.env x = pure x := by intro _; rfl) : PE X (.ListComp elt [⟨tg, iter, ifs, 0⟩] scope pos) (tLc wi g tt te (own.map (·.2))) := by
  refine ⟨fun ps s σ H Q I h => ?_⟩
  rw [eval_ListComp]
  have hfr : ∀ y ∈ scope.names, y.2 = .free → ∃ c, X.env.cells.lookup y.1 = some c := fun y hy e => I.ok.has _ (ok.free y hy e)
  refine wpAny_comprehension_free (use := none) rfl hs (closure_ok hfr) ok.kind (fun y hy e => by rw [ok.uniq y hy, e]) (thn (hi.run ps s σ H _ I h) fun xv s1 hx => thn hx fun itv s2 h2 => ?_)
  obtain ⟨it, fp, tn, J, H2, e, I2, T, t2, f2, q⟩ := h2
  subst e
  refine wpAny_newObj_type (newEnv_comp ?_) (by show 0 ≤ sizeLine; decide)
  generalize eD : s2.heap.objs.size = D
  have nD : H2 D = none := I2.hok.fresh (Nat.le_of_eq eD)
  obtain ⟨W, ⟨m0, w0⟩, turn⟩ := q D nD
  generalize e3 : ({ s2 with heap := s2.heap.push { cls := .type "list", data := .seq ([] : List Value).toArray } } : Shared) = s3
  have h3 : s3.heap = s2.heap.push { cls := .type "list", data := .seq ([] : List Value).toArray } := by rw [← e3]
  have I3 : Inv X ps σ (upd H2 D (.lst [])) s3 := by
    rw [← e3]
    refine I2.laid (t' := s2.toks) (fun b o z => Heap.get?_push_of_some _ z) (Nat.le_of_eq eD) ⟨Nat.zero_le _, [], 0, .nil, ?_⟩
    rw [← eD]; exact Heap.get?_push_size _ rfl
  have lt2 : ∀ b ∈ fp, b < s2.heap.objs.size := fun b hb => by
    obtain ⟨o, z, _⟩ := T.obj _ _ t2 b hb
    exact Heap.lt_size z
  have f3 : ∀ b ∈ fp, FpOk X ps (upd H2 D (.lst [])) b ∧ b < s3.heap.objs.size := fun b hb => by
    refine ⟨⟨?_, (f2 b hb).2⟩, by rw [h3, Heap.size_push]; exact Nat.lt_succ_of_lt (lt2 b hb)⟩
    rw [upd_ne (by rw [← eD]; exact Nat.ne_of_lt (lt2 b hb))]
    exact (f2 b hb).1
  have t3 : tn 0 s3.heap := T.keep _ _ _ t2 fun b _ o z => by rw [h3]; exact Heap.get?_push_of_some _ z
  have I4 := block_start I3 ok hN f3
  have kg := hg s3 (upd H2 D (.lst [])) s3.heap.objs.size (cellsFrom (s3.heap.objs.size + 1) scope.names (cloFrom X.env.cells scope.names [])) fp
  have kt := ht s3 (upd H2 D (.lst [])) s3.heap.objs.size (cellsFrom (s3.heap.objs.size + 1) scope.names (cloFrom X.env.cells scope.names [])) fp
  have ke := he s3 (upd H2 D (.lst [])) s3.heap.objs.size (cellsFrom (s3.heap.objs.size + 1) scope.names (cloFrom X.env.cells scope.names [])) fp
  have n3 : ∀ b ∈ fp, (upd H2 D (.lst [])) b = none := fun b hb => (f3 b hb).1.1
  have P3 := I3.pin p (List.mem_append_left _ hp)
  have pst : p.1 ∉ frs X.stack := fun hm => (List.mem_cons.mp (I3.stkSub p.1 hm)).elim P3.2.2.1 P3.2.2.2.1
  show codeAny _ _ (.compStart (.ListComp elt [⟨tg, iter, ifs, 0⟩] scope pos) 0 (.ref it) (.ref D) (compEnvC scope (cellsFrom (s3.heap.objs.size + 1) scope.names (cloFrom X.env.cells scope.names [])) s3.heap.objs.size X.env)) (compPost (model X.prog X.w) X.A X.xe none (EP X ps σ Q) (.ref D) s3.heap.objs.size) { s3 with heap := pushCells (s3.heap.push { cls := .type "dict", data := .dict #[] }) scope.names }
  generalize hce : compEnvC scope (cellsFrom (s3.heap.objs.size + 1) scope.names (cloFrom X.env.cells scope.names [])) s3.heap.objs.size X.env = ce at I4 kg kt ke ⊢
  have cL : ce.locals = s3.heap.objs.size := by subst hce; rfl
  generalize hH3 : upd H2 D (.lst []) = H3 at I3 I4 kg kt ke w0 n3 f3 P3
  generalize hs4 : ({ s3 with heap := pushCells (s3.heap.push { cls := .type "dict", data := .dict #[] }) scope.names } : Shared) = s4 at I4 ⊢
  have kp4 : ∀ b o, s3.heap.get? b = some o → s4.heap.get? b = some o := fun b o z => by rw [← hs4]; exact pushCells_keeps _ _ _ _ (Heap.get?_push_of_some _ z)
  have t4 : tn 0 s4.heap := T.keep _ _ _ t3 fun b _ o z => kp4 b o z
  have J4 := inv_pin (p := p) I4 ⟨kp4 _ _ P3.1, P3.2.1, (by rw [cL]; exact Nat.ne_of_lt (Heap.lt_size P3.1)), pst, P3.2.2.2.2⟩
  have hc : HotC (blkP X s3 H3 scope ce fp p) := ⟨p, hot, List.mem_singleton.mpr rfl⟩
  have npf : ∀ b ∈ fp, p.1 ≠ b := fun b hb => (f3 b hb).1.2.2.2.2.2 p (List.mem_append_left _ hp)
  have stat : ∀ {σ' : St} {H' : Hp} {s' : Shared}, Inv (blkP X s3 H3 scope ce fp p) [] σ' H' s' → (∀ b ∈ fp, H' b = none) → ∀ b ∈ fp, FpOk (blkP X s3 H3 scope ce fp p) [] H' b := fun {σ' H' s'} K' hn b hb =>
    ⟨hn b hb, (K'.ok.exf b hb).1, K'.ok.exfs b hb, .inl hb, fun x c z => (K'.ok.exf b hb).2 x c z, fun q hq => by
      have e : q = p := by simpa using hq
      rw [e]; exact npf b hb⟩
  have loop : codeAny (model X.prog X.w) X.A (.compLoop (.ListComp elt [⟨tg, iter, ifs, 0⟩] scope pos) 0 (.ref it) (.ref D) ce) (compPost (model X.prog X.w) X.A X.xe none (EP X ps σ Q) (.ref D) s3.heap.objs.size) s4 := by
    refine compLoop_any (fun n s' => ∃ i H', Inv (blkP X s3 H3 scope ce fp p) [] (wipe σ (own.map (·.2))) H' s' ∧ tn i s'.heap ∧ (∀ b ∈ fp, H' b = none) ∧ W i n H') ?_ m0 ⟨0, H3, J4, t4, n3, w0⟩
    rintro n s5 ⟨i, H5, I5, t5, n5, w5⟩
    rcases turn i n H5 w5 with ⟨stop, qq⟩ | ⟨go, Nx, hNx, step⟩
    · refine thnF (T.done (blkP X s3 H3 scope ce fp p) rfl rfl rfl hc i [] s5 _ H5 (fun _ _ => False) I5 (stat I5 n5) t5 stop) fun r s6 ⟨hr, I6⟩ => ?_
      subst hr
      have I7 : Inv X ps σ H5 s6 := I3.call' (ch := fp) I6.os I6.base I6.hok I6.bare fun b hb => ⟨(f3 b hb).1.2.2.2.1, (f3 b hb).1.2.1, (f3 b hb).1.2.2.2.2.1, (f3 b hb).1.2.2.2.2.2⟩
      have nC : H5 s3.heap.objs.size = none := by
        have z : H5 ce.locals = none := I6.free
        rwa [cL] at z
      obtain ⟨m, hm, _⟩ := I6.loc
      have hm : s6.heap.Ns ce.locals m := hm
      rw [cL] at hm
      obtain ⟨f0, f1, _, f3', f4, f5⟩ := I3.fpOk (b := s3.heap.objs.size) (Nat.le_refl _) nC
      exact ⟨m, hm, fun h'' sb => ⟨.ref D, H5, I7.turned (t' := s6.toks) (fun b o hb z => (sb.2 b hb).trans z) f0 f1 f3' f4 f5, rfl, qq⟩⟩
    · refine thnF (T.item (blkP X s3 H3 scope ce fp p) rfl rfl rfl hc i [] s5 _ H5 (fun _ _ => False) I5 (stat I5 n5) t5 go) fun r s6 ⟨u, hr, h6⟩ => ?_
      subst hr
      refine thnF h6 fun _ s7 ⟨x, H7, I7, r7, y7, t7, n7⟩ => ?_
      refine thnF (kg.run _ s7 _ H7 x u _ (I7.pinned (stat I7 n7) (T.obj _ _ t7)) r7 (step x H7 y7)) fun _ s8 ⟨σ8, H8, I8, hw8, q8⟩ => ?_
      refine thnF (kt.run _ s8 σ8 H8 _ I8 q8) fun b s9 ⟨H9, I9, q9⟩ => ?_
      have fin : ∀ {s' : Shared} {H' : Hp}, Inv (blkP X s3 H3 scope ce fp p) ([] ++ pinsAt fp s7.heap) σ8 H' s' → Nx H' → ∃ m, m < n ∧ ∃ i H', Inv (blkP X s3 H3 scope ce fp p) [] (wipe σ (own.map (·.2))) H' s' ∧ tn i s'.heap ∧ (∀ b ∈ fp, H' b = none) ∧ W i m H' := fun {s' H'} I' nx => by
        obtain ⟨m', hm, w'⟩ := hNx H' nx
        have pp : ∀ b ∈ fp, ∀ o, s7.heap.get? b = some o → s'.heap.get? b = some o ∧ H' b = none := fun b hb o z =>
          have v := I'.pin (b, o) (List.mem_append_right _ (List.mem_append_right _ (mem_pinsAt hb z)))
          ⟨v.1, v.2.1⟩
        have hl : (wipe σ (own.map (·.2))).length = σ8.length := by rw [← hw8, wipe_length]
        refine ⟨m', hm, i + 1, H', (I'.unpinned (pins := [])).weak hl (fun j v z => ?_), T.keep _ _ _ t7 fun b hb o z => (pp b hb o z).1, fun b hb => ?_, w'⟩
        · rw [← hw8] at z; exact (wipe_some z).1
        · obtain ⟨o, z, _⟩ := T.obj _ _ t7 b hb
          exact (pp b hb o z).2
      cases b with
      | false =>
        simp only [Bool.false_eq_true, if_false] at q9 ⊢
        exact fin I9 q9
      | true =>
        simp only [if_true] at q9 ⊢
        refine thnF (ke.run _ s9 σ8 H9 _ I9 q9) fun z s10 ⟨yv, H10, I10, r10, acc, hD10, hz10, nx⟩ => ?_
        exact app_ok (X := blkP X s3 H3 scope ce fp p) I10 hD10 hz10 r10 fun s11 I11 => fin I11 nx
  exact codeAny_compStart_list loop (T.self X.A 0 _ _ _ t4 loop)
end
end RepHot
/-! defs that raise; defs called with the handled exception -/
namespace RepHot
open PySem PySem.Spec PyProof.Rows L2 L2H HotX
section
variable {P : Program} {w : World} {K : PySem.W.Frag} {mg : Str → Option Value} {base : Heap}
/-- a def that may raise, its exceptions without a context -/
theorem okN {x qual : Str} {st : Stmt} {f : Addr} {fd : FuncData} {N ps : List Str} {k : Nat} {sp : Sp} (F : Fun K x qual st f fd) (S : FnScope N ps (defScope st)) (len : ∀ vs H Q E, sp vs H Q E → vs.length = ps.length)
    (hb : ∀ (cdv : Value) (A : Around) (outer : List Env) (s : Shared) (H : Hp) (vs : List V) (Q : VK) (E : XK), Room k (A.deeper (envOfC qual (defScope st) s.heap.objs.size f cdv)) → sp vs H Q E →
      ∃ t, PSs (cxOf (L2N.CX P w) P w K mg base N qual (defScope st) f cdv A outer s H E) (defBody st) t ∧ t { nx := fun _ H' => Q .non H', rt := Q } (start N vs) H) : FnOk P w K mg base (L2N.CX P w) (k + 1) f fd ps sp := by
  obtain ⟨_, _, _, _, _, _, cdv, _, _, rfl, lk, hcd⟩ := F.ex
  exact fn_of lk hcd S len fun A outer s H vs Q E hr h => hb cdv A outer s H vs Q E hr h
/-- what a def promises that is called with the exception that is handled: sp speaks of its address, its class and its dict -/
structure FnP (P : Program) (w : World) (K : PySem.W.Frag) (mg : Str → Option Value) (base : Heap) (CX : CXT) (k : Nat) (f : Addr) (fd : FuncData) (ps : List Str) (sp : Addr → Value → Option Addr → Sp) : Prop where
  len : ∀ a c d vs H Q E, sp a c d vs H Q E → vs.length = ps.length
  run : ∀ (A : Around) (outer : List Env) (s : Shared) (H : Hp) (args : Args) (us : List Value) (vs : List V) (Q : VK) (E : XK) (p : Addr × Obj) (c : Value) (d : Option Addr), RoomH k A → Hot1 A p → PinOk outer H s p → Zc c d p.2 → Env0 P w K mg base A outer s H → BindsTo s fd args (ps.zip us) → Vals vs us → sp p.1 c d vs H Q E →
    codeAny (model P w) A (.call (.ref f) args) (CR CX outer P w H s Q E) s
theorem okP {x qual : Str} {st : Stmt} {f : Addr} {fd : FuncData} {N ps : List Str} {k : Nat} {CX : CXT} {sp : Addr → Value → Option Addr → Sp} (F : Fun K x qual st f fd) (S : FnScope N ps (defScope st)) (len : ∀ a c d vs H Q E, sp a c d vs H Q E → vs.length = ps.length)
    (hb : ∀ (cdv : Value) (A : Around) (outer : List Env) (s : Shared) (H : Hp) (vs : List V) (Q : VK) (E : XK) (p : Addr × Obj) (c : Value) (d : Option Addr), Hot1 A p → Zc c d p.2 → RoomH k (A.deeper (envOfC qual (defScope st) s.heap.objs.size f cdv)) → sp p.1 c d vs H Q E →
      ∃ t, PSs (cxH CX P w K mg base N qual (defScope st) f cdv A outer s H E p) (defBody st) t ∧ t { nx := fun _ H' => Q .non H', rt := Q } (L2.start N vs) H) : FnP P w K mg base CX (k + 1) f fd ps sp := by
  obtain ⟨_, _, _, _, _, _, cdv, _, _, rfl, lk, hcd⟩ := F.ex
  refine ⟨len, fun A outer s H args us vs Q E p c d hr hot hpin hz e0 bt r h => ?_⟩
  have kin : K.In s.heap := e0.mod.kin.keeps fun b o z => (e0.bs b o z).1
  have nol : s.heap.NoLimit := e0.mod.nolimit.keeps fun b o z => (e0.bs b o z).1
  have hk : ∀ y ∈ ps.zip us, (defScope st).names.lookup y.1 = some .local ∨ ((defScope st).names.lookup y.1 = some .cell ∧ ((cellsFrom (s.heap.objs.size + 1) (defScope st).names []).lookup y.1).isSome = true) := fun y hy =>
    (S.par y.1 (List.of_mem_zip (show (y.1, y.2) ∈ ps.zip us from hy)).1).imp id fun q => ⟨q, PySem.W.cellsFrom_some _ _ _ (.inl q)⟩
  refine codeAny_call_function hr.depth (kin _ _ lk) rfl S.co S.gen rfl (PySem.W.codeRec_of kin hcd) (bt _ _ _ _ (wpAny_newFunctionEnv_cells S.kind hk fun env he s1 x1 => ?_))
  subst he
  refine ⟨nol.keeps x1.toInCall.keep, codeAny_func ?_⟩
  obtain ⟨t, ht, hq⟩ := hb cdv A outer s H vs Q E p c d hot hz (hr.deeper _) h
  refine wpAny_mono (ht.run [] s1 (L2.start N vs) H _ (inv_startH S hpin e0 (len _ _ _ _ _ _ _ h) r x1) hq) (fun fl s' hs => ?_) fun e s' hs => hs
  cases fl with
  | ret u =>
    obtain ⟨v, σ', H', J, rv, q⟩ := hs
    exact ⟨v, H', J.os, J.bare, J.base, J.hok, rv, q⟩
  | next =>
    obtain ⟨σ', H', J, q⟩ := hs
    exact ⟨.non, H', J.os, J.bare, J.base, J.hok, rfl, q⟩
  | brk => obtain ⟨_, _, _, q⟩ := hs; exact q.elim
  | cont => obtain ⟨_, _, _, q⟩ := hs; exact q.elim
end
section
variable {X : Cx} {CX : CXT} {k : Nat} {f C : Addr} {fd : FuncData} {ps : List Str} {x m : Str} {q pos apos : Pos} {e o : Expr} {es : List Expr} {ta : TE} {t : TA}
/-- f(e, ..) where e's exception is handled -/
theorem pe_callP {sp : Addr → Value → Option Addr → Sp} {a : Addr} {oe : Obj} {c : Value} {d : Option Addr} (F : FnP X.prog X.w X.K X.mg X.base CX0 k f fd ps sp) (hr : RoomH k X.A) (hot : Hot1 X.A (a, oe)) (hp : (a, oe) ∈ X.pn) (hz : Zc c d oe) (hg : Gl X x) (hm : X.mg x = some (.ref f)) (hk : PySem.W.keepIn X.K (.ref f) = true) (hb : Binds X.K fd ps [])
    (ha : PA X (e :: es) t) (hdb : (x == ("__debug__" : Str)) = false := by decide) (he : starEach (e :: es) X.env = (false, eval e X.env) :: starEach es X.env := by rfl) (hpl : (backTo pos (starEach es X.env)).any (·.1) = false := by rfl) :
    PE X (.Call (.Name x q) (e :: es) [] pos) (tCallS (sp a c d) (fun _ _ _ _ => False) t) := by
  refine ⟨fun pins s σ H Q I h => wpAny_Call_Name_kw (ld_glob I hg hm (PySem.W.callWith_K (h₀ := X.base) I.ok.mod.kin hk (thn (ha.run pos pins s σ H _ I h) fun us s1 ⟨vs, H1, I1, r, q⟩ => ⟨I1.kIn, ?_⟩) he hpl) hdb)⟩
  have hl : us.length = ps.length := by rw [← r.length]; exact F.len _ _ _ _ _ _ _ q
  have b := hb s1 us I1.kIn (by rw [List.append_nil]; exact hl)
  rw [List.append_nil] at b
  have P1 := I1.pin (a, oe) (List.mem_append_left _ hp)
  have hpin : PinOk X.stack H1 s1 (a, oe) := ⟨P1.1, P1.2.1, fun hm => (List.mem_cons.mp (I1.stkSub a hm)).elim P1.2.2.1 P1.2.2.2.1, P1.2.2.2.2⟩
  refine wpAny_call (codeAny_mono (F.run X.A X.stack s1 H1 ⟨us, []⟩ us vs Q _ (a, oe) c d hr hot hpin hz I1.env0 b r q) fun r s' hq => ?_)
  cases r with
  | error e => exact hq.elim
  | ok fl =>
    cases fl with
    | ret u => exact I1.after hq
    | next => exact hq.elim
    | brk => exact hq.elim
    | cont => exact hq.elim
/-- o.m(e, ..) where what is raised is wished for at the caller's slots -/
def tMethN (C : Addr) (m : Str) (sp : Sp) (E : St → XK) (ta : TE) (t : TA) : TE := fun σ H Q => ta σ H fun x H1 => ∃ a dx fs, x = .ref a ∧ H1 a = some (.ins C dx fs) ∧ fs.lookup m = none ∧ t σ H1 fun vs H2 => sp (x :: vs) H2 Q (E σ)
theorem pe_methN {sp : Sp} {E : St → XK} {pl : Sem Bool} (he : PE X o ta) (c : Cls X.K C) (hm : Meth X.K C m f) (F : FnOk X.prog X.w X.K X.mg X.base CX k f fd ps sp) (hr : Room k X.A) (hb : Binds X.K fd ps []) (hx : ∀ σ, PassesAt CX X σ (E σ)) (ha : PA X (e :: es) t)
    (hst : starEach (e :: es) X.env = (false, eval e X.env) :: starEach es X.env := by rfl) (hpl : (backTo pos (starEach es X.env)).any (·.1) = false := by rfl)
    (ht : eval (.Call (.Attribute o m apos) (e :: es) [] pos) X.env = (do let ov ← eval o X.env; standAt apos.atName; let (f, first) ← holding [ov] (getMethod ov m pl); callWith pos f first (backTo pos (starEach (e :: es) X.env)) (backToKw pos (keywordEach [] X.env))) := by rfl) :
    PE X (.Call (.Attribute o m apos) (e :: es) [] pos) (tMethN C m sp E ta t) := by
  refine ⟨fun pins s σ H Q I h => PySem.W.methodCall_KW (pl := pl) (thn (he.run pins s σ H _ I h) fun u s1 ⟨x, H1, I1, rx, a, dx, fs, ex, ea, l, q⟩ => ?_) ht⟩
  subst ex
  obtain rfl : u = Value.ref a := rx
  refine getmeth_ok I1 ea c hm l (PySem.W.callWith_K (first := [.ref a]) (h₀ := X.base) I.ok.mod.kin hm.kp (thn (ha.run pos pins s1 σ H1 _ I1 q) fun us s2 ⟨vs, H2, I2, r, q2⟩ => ⟨I2.kIn, ?_⟩) hst hpl)
  exact run_fnS (us := .ref a :: us) (vs := .ref a :: vs) F hr hb (hx σ) I2 (.cons rfl r) q2
theorem pe_methN0 {sp : Sp} {E : St → XK} {pl : Sem Bool} (he : PE X o ta) (c : Cls X.K C) (hm : Meth X.K C m f) (F : FnOk X.prog X.w X.K X.mg X.base CX k f fd ps sp) (hr : Room k X.A) (hb : Binds X.K fd ps []) (hx : ∀ σ, PassesAt CX X σ (E σ))
    (ht : eval (.Call (.Attribute o m apos) [] [] pos) X.env = (do let ov ← eval o X.env; standAt apos.atName; let (f, first) ← holding [ov] (getMethod ov m pl); callWith pos f first (backTo pos (starEach [] X.env)) (backToKw pos (keywordEach [] X.env))) := by rfl) :
    PE X (.Call (.Attribute o m apos) [] [] pos) (tMethN C m sp E ta tNil) := by
  refine ⟨fun pins s σ H Q I h => PySem.W.methodCall_KW (pl := pl) (thn (he.run pins s σ H _ I h) fun u s1 ⟨x, H1, I1, rx, a, dx, fs, ex, ea, l, q⟩ => ?_) ht⟩
  subst ex
  obtain rfl : u = Value.ref a := rx
  refine getmeth_ok I1 ea c hm l (PySem.W.callWith_K0 I1.kIn hm.kp ?_)
  exact run_fnS (us := [.ref a]) (vs := [.ref a]) F hr hb (hx σ) I1 (.cons rfl .nil) q
/-- isinstance(e, c), e pinned -/
theorem call_isP {a D : Addr} {oe : Obj} (hp : (a, oe) ∈ X.pn) (C : ExcC X.K D) (hz : Zc (.ref D) none oe) (hf : ∃ vs, oe.data = .fields vs) : CallR X (.builtin "isinstance") (rIsE X.K D a) := by
  intro pins s σ H xs us Q I r h
  obtain ⟨c, cv, b, rfl, hcv, e, q⟩ := h
  match us, r with
  | [_, _], .cons rx (.cons rt .nil) =>
    cases rx
    obtain rfl := hcv _ rt
    obtain ⟨g, _⟩ := I.pin (a, oe) (List.mem_append_left _ hp)
    obtain ⟨vs, hv⟩ := hf
    have J : PySem.W.InstAt s.heap a oe D none := by
      obtain ⟨oc, od, oda, osl⟩ := oe
      obtain ⟨h1, h2⟩ := hz
      dsimp only at h1 h2 hv
      subst h1 h2 hv
      exact ⟨g, rfl, rfl, trivial⟩
    exact PySem.W.kia_one (PySem.W.handS_kitx_exc C.hg C.hk C.hs C.hd C.ha C.hn C.ht C.hm) I.kIn J e (fun z => nomatch z) fun tk => ⟨.bl b, H, I.kept (t' := tk) fun _ _ z => z, rfl, q⟩
/-- the suite's own exception -/
theorem hot_of {a : Addr} {oe : Obj} {c : Value} {d : Option Addr} {pn : List (Addr × Obj)} (hz : L2N.Zn c d oe) (hf : ∃ vs, oe.data = .fields vs) : Hot1 (X.suite a ((a, oe) :: pn)).A (a, oe) := by
  obtain ⟨vs, e⟩ := hf
  exact ⟨rfl, vs, e, hz.2.2 vs e⟩
theorem room_suite {a : Addr} {pn : List (Addr × Obj)} (hr : Room k X.A) : RoomH k (X.suite a pn).A := ⟨hr.dp, hr.un⟩
theorem takesN : L2N.Takes X (fun _ _ _ _ => False) := fun _ _ x => by
  obtain ⟨_, _, _, _, _, _, _, _, _, _, _, _, _, _, _, _, z⟩ := x
  exact z.elim
end
/-- where it is not refused nothing is raised -/
theorem fn_calm {P : Program} {w : World} {K : PySem.W.Frag} {mg : Str → Option Value} {base : Heap} {k : Nat} {f : Addr} {fd : FuncData} {ps : List Str} {sp : Sp} (F : FnOk P w K mg base (L2N.CX P w) k f fd ps sp) : FnOk P w K mg base CX0 k f fd ps (fun vs H Q _ => sp vs H Q (fun _ _ _ => False)) := by
  refine ⟨fun vs H Q E h => F.len _ _ _ _ h, fun A outer s H args us vs Q E hr e0 hb r h => codeAny_mono (F.run A outer s H args us vs Q _ hr e0 hb r h) fun r s' hq => ?_⟩
  cases r with
  | error e =>
    obtain ⟨_, _, _, _, _, _, _, _, _, _, _, _, z⟩ := hq
    exact z.elim
  | ok fl =>
    cases fl with
    | ret u => exact hq
    | next => exact hq.elim
    | brk => exact hq.elim
    | cont => exact hq.elim
end RepHot
namespace Rep
open PySem L2
def topS (i : Nat) : Stmt := PySem.Challenge.pw_reprise_k04_songs_refused.main.body.getD i (.Pass ⟨0, 0, 0, 0⟩)
abbrev s_wall : Stmt := topS 0
abbrev sBadPageInit : Stmt := inClass (topS 11) 0
abbrev sCheck_length : Stmt := topS 14
abbrev sCheck_place : Stmt := topS 15
abbrev sCheck_stretch : Stmt := topS 16
abbrev sCheck_sayings : Stmt := topS 17
abbrev sKept_form : Stmt := topS 19
abbrev sKept_forms : Stmt := topS 20
abbrev sCommon_beat : Stmt := topS 21
abbrev sPartner : Stmt := topS 22
abbrev sJoined : Stmt := topS 23
abbrev sTaken_in : Stmt := topS 24
abbrev sGreatest_end : Stmt := topS 25
abbrev sCarried_start : Stmt := topS 26
abbrev sCarried : Stmt := topS 27
abbrev sShortened : Stmt := topS 28
abbrev sLed_cut : Stmt := topS 29
abbrev sCut_by_leader : Stmt := topS 30
abbrev sCuts_of : Stmt := topS 31
abbrev sTidy : Stmt := topS 33
abbrev sBreadth : Stmt := topS 34
abbrev sBegun : Stmt := topS 35
abbrev sUnder : Stmt := topS 36
abbrev sLed_place : Stmt := topS 38
abbrev sFirst_of : Stmt := topS 39
abbrev sInit : Stmt := inClass (topS 41) 0
abbrev sMLength : Stmt := inClass (topS 41) 1
abbrev sMCount : Stmt := inClass (topS 41) 2
abbrev sMFirsts : Stmt := inClass (topS 41) 3
abbrev sMFirst : Stmt := inClass (topS 41) 4
abbrev sMSame : Stmt := inClass (topS 41) 5
abbrev sMBelow : Stmt := inClass (topS 41) 6
abbrev sMNumbered : Stmt := inClass (topS 41) 7
abbrev sMImage : Stmt := inClass (topS 41) 8
abbrev sMet : Stmt := topS 43
abbrev sBeside : Stmt := topS 44
abbrev sFront : Stmt := topS 45
abbrev sFollows : Stmt := topS 47
abbrev sLeast_failing : Stmt := topS 48
abbrev sAlike : Stmt := topS 49
abbrev sParted : Stmt := topS 50
abbrev sBeat : Stmt := topS 51
abbrev sMirror : Stmt := topS 52
abbrev sEach_first : Stmt := topS 54
abbrev sWrong : Stmt := topS 55
abbrev sCame_from : Stmt := topS 56
abbrev sPath : Stmt := topS 57
abbrev sLeads : Stmt := topS 58
abbrev sMix : Stmt := topS 60
abbrev sRaw : Stmt := topS 61
abbrev sDig : Stmt := topS 62
abbrev s_law_kin : Stmt := topS 63
abbrev s_law_saying : Stmt := topS 64
abbrev s_law_sayings : Stmt := topS 65
abbrev sSame : Stmt := topS 66
abbrev s_law_spoilt : Stmt := topS 67
abbrev s_law_fits : Stmt := topS 68
abbrev s_law_tried : Stmt := topS 69
abbrev sLaw : Stmt := topS 70
end Rep
namespace Rep
open PySem
abbrev PT2 : Addr := 421
end Rep
namespace Rep
open PySem L2 L2H RepHot
/-! which refusal it is, by the law's own words -/
def kinWords : List Str := ["BadLength", "BadStretch", "NoPlace", "NoNumber", "BadLetter", "Full", "InUse", "NothingLeft", "BadPage", "odd"]
def kinWord (j : Nat) : Str := kinWords.getD j ""
/-- the class D is the one at place j of the nine -/
structure KinD (K : PySem.W.Frag) (cs : List Addr) (D : Addr) (j : Nat) : Prop where
  ex : ExcC K D
  lt : j < 9
  own : ∀ i c, cs[i]? = some c → PySem.W.kitOne K (.ref D) (.ref c) = some (decide (i = j))
  val : PySem.W.kitOne K (.ref D) (.type "ValueError") = some true
structure KinM (mg : Str → Option Value) (cs : List Addr) : Prop where
  ln : cs.length = 9
  at_ : ∀ i c, cs[i]? = some c → mg (kinWord i) = some (.ref c)
def spKin (K : PySem.W.Frag) (cs : List Addr) : Addr → Value → Option Addr → Sp := fun a c d vs H Q _ => ∃ (D : Addr) (j : Nat), c = .ref D ∧ d = none ∧ KinD K cs D j ∧ vs = [.ref a] ∧ ∀ H', Same H H' → Q (.str (kinWord j)) H'
abbrev nKin : List Str := ["_law_e", "_law_found", "_law_words", "_law_word", "_law_kin_here"]
theorem scKin : FnScope nKin ["_law_e"] (defScope s_law_kin) := ⟨rfl, rfl, rfl, by decide +kernel, rfl, by decide +kernel, by decide +kernel⟩
def kinFlags (j : Nat) : List Bool := (List.range 10).map fun i => decide (i = j)
section
variable {P : Program} {w : World} {K : PySem.W.Frag} {mg : Str → Option Value} {base : Heap}
theorem ok_kin {f c0 c1 c2 c3 c4 c5 c6 c7 c8 : Addr} {fd : FuncData} {k : Nat} (F : Fun K "_law_kin" "_law_kin" s_law_kin f fd) (M : KinM mg [c0, c1, c2, c3, c4, c5, c6, c7, c8]) (mi : mg "isinstance" = none) (mV : mg "ValueError" = none) (mz : mg "zip" = none) :
    FnP P w K mg base CX0 (k + 1) f fd ["_law_e"] (spKin K [c0, c1, c2, c3, c4, c5, c6, c7, c8]) := by
  refine okP F scKin (fun a c d vs H Q E h => ?_) (fun cdv A outer s H vs Q E p c d hot hz hr h => ?_)
  · obtain ⟨D, j, _, _, _, rfl, _⟩ := h; rfl
  obtain ⟨D, j, rfl, rfl, kd, rfl, q⟩ := h
  have g0 : mg "BadLength" = some (.ref c0) := M.at_ 0 c0 rfl
  have g1 : mg "BadStretch" = some (.ref c1) := M.at_ 1 c1 rfl
  have g2 : mg "NoPlace" = some (.ref c2) := M.at_ 2 c2 rfl
  have g3 : mg "NoNumber" = some (.ref c3) := M.at_ 3 c3 rfl
  have g4 : mg "BadLetter" = some (.ref c4) := M.at_ 4 c4 rfl
  have g5 : mg "Full" = some (.ref c5) := M.at_ 5 c5 rfl
  have g6 : mg "InUse" = some (.ref c6) := M.at_ 6 c6 rfl
  have g7 : mg "NothingLeft" = some (.ref c7) := M.at_ 7 c7 rfl
  have g8 : mg "BadPage" = some (.ref c8) := M.at_ 8 c8 rfl
  have hf : ∃ vs, p.2.data = .fields vs := by obtain ⟨_, vs, e, _⟩ := hot; exact ⟨vs, e⟩
  have hp : (p.1, p.2) ∈ [p] := List.mem_singleton.mpr rfl
  refine ⟨_, (pss_cons (ps_set (i := 1) scKin.nd rfl (.inl rfl) (pe_lst (pa_cons (pe_callB (call_isP hp kd.ex hz hf) (by rfl) mi PyProof.Rows.boot_isinstance (pa_cons (pv 0) (pa_cons (pe_glob (v := .ref c0) (by rfl) g0 rfl) pa_nil))) (pa_cons (pe_callB (call_isP hp kd.ex hz hf) (by rfl) mi PyProof.Rows.boot_isinstance (pa_cons (pv 0) (pa_cons (pe_glob (v := .ref c1) (by rfl) g1 rfl) pa_nil))) (pa_cons (pe_callB (call_isP hp kd.ex hz hf) (by rfl) mi PyProof.Rows.boot_isinstance (pa_cons (pv 0) (pa_cons (pe_glob (v := .ref c2) (by rfl) g2 rfl) pa_nil))) (pa_cons (pe_callB (call_isP hp kd.ex hz hf) (by rfl) mi PyProof.Rows.boot_isinstance (pa_cons (pv 0) (pa_cons (pe_glob (v := .ref c3) (by rfl) g3 rfl) pa_nil))) pa_nil))))))
    (pss_cons (ps_set (i := 1) scKin.nd rfl (.inl rfl) (pe_op op_cat (pv 1) (pe_lst (pa_cons (pe_callB (call_isP hp kd.ex hz hf) (by rfl) mi PyProof.Rows.boot_isinstance (pa_cons (pv 0) (pa_cons (pe_glob (v := .ref c4) (by rfl) g4 rfl) pa_nil))) (pa_cons (pe_callB (call_isP hp kd.ex hz hf) (by rfl) mi PyProof.Rows.boot_isinstance (pa_cons (pv 0) (pa_cons (pe_glob (v := .ref c5) (by rfl) g5 rfl) pa_nil))) (pa_cons (pe_callB (call_isP hp kd.ex hz hf) (by rfl) mi PyProof.Rows.boot_isinstance (pa_cons (pv 0) (pa_cons (pe_glob (v := .ref c6) (by rfl) g6 rfl) pa_nil))) pa_nil))))))
    (pss_cons (ps_set (i := 1) scKin.nd rfl (.inl rfl) (pe_op op_cat (pv 1) (pe_lst (pa_cons (pe_callB (call_isP hp kd.ex hz hf) (by rfl) mi PyProof.Rows.boot_isinstance (pa_cons (pv 0) (pa_cons (pe_glob (v := .ref c7) (by rfl) g7 rfl) pa_nil))) (pa_cons (pe_callB (call_isP hp kd.ex hz hf) (by rfl) mi PyProof.Rows.boot_isinstance (pa_cons (pv 0) (pa_cons (pe_glob (v := .ref c8) (by rfl) g8 rfl) pa_nil))) (pa_cons (pe_not (pe_callB (call_isP hp kd.ex hz hf) (by rfl) mi PyProof.Rows.boot_isinstance (pa_cons (pv 0) (pa_cons (pe_bltn (v := .ty "ValueError") (by rfl) mV (by decide +kernel) rfl) pa_nil)))) pa_nil))))))
    (pss_cons (ps_set (i := 2) scKin.nd rfl (.inl rfl) (pe_lst (pa_cons pe_str (pa_cons pe_str (pa_cons pe_str (pa_cons pe_str (pa_cons pe_str (pa_cons pe_str (pa_cons pe_str (pa_cons pe_str (pa_cons pe_str pa_nil)))))))))))
    (pss_one (ps_ret (pe_join pe_str (pe_lcP (own := [("_law_word", 3), ("_law_kin_here", 4)]) (g := gTup K 2 (gCons (gName 3) (gCons (gName 4) gNil))) (tt := tTest (tVar 4)) (te := tVar 3) (p := p) hot hp scKin.nd (pi_zipP (by rfl) mz (pa_cons (pe_op op_cat (pv 2) (pe_lst (pa_cons pe_str pa_nil))) (pa_cons (pv 1) pa_nil))) (blkOk_by (N := nKin) (sc := defScope s_law_kin) (by decide +kernel)) (fun _ _ _ _ _ => pg_tupP ⟨p, hot, List.mem_singleton.mpr rfl⟩ (pgs_cons (pg_name (i := 3) scKin.nd rfl (.inl rfl)) (pgs_cons (pg_name (i := 4) scKin.nd rfl (.inl rfl)) pgs_nil))) (fun _ _ _ _ _ => pts_one (pt_val (pv 4))) (fun _ _ _ _ _ => pv 3))))))))), ?_⟩
  have o0 := kd.own 0 c0 rfl
  have o1 := kd.own 1 c1 rfl
  have o2 := kd.own 2 c2 rfl
  have o3 := kd.own 3 c3 rfl
  have o4 := kd.own 4 c4 rfl
  have o5 := kd.own 5 c5 rfl
  have o6 := kd.own 6 c6 rfl
  have o7 := kd.own 7 c7 rfl
  have o8 := kd.own 8 c8 rfl
  refine ⟨.ref p.1, rfl, .ref c0, _, _, rfl, (fun u e => e), o0, .ref p.1, rfl, .ref c1, _, _, rfl, (fun u e => e), o1, .ref p.1, rfl, .ref c2, _, _, rfl, (fun u e => e), o2, .ref p.1, rfl, .ref c3, _, _, rfl, (fun u e => e), o3, (by show 4 ≤ sizeLine; decide), fun l1 n1 => ?_⟩
  have s1 : Same H (upd H l1 (.lst [.bl (decide (0 = j)), .bl (decide (1 = j)), .bl (decide (2 = j)), .bl (decide (3 = j))])) := same_upd n1
  have z1 : (upd H l1 (.lst [.bl (decide (0 = j)), .bl (decide (1 = j)), .bl (decide (2 = j)), .bl (decide (3 = j))])) l1 = some (.lst [.bl (decide (0 = j)), .bl (decide (1 = j)), .bl (decide (2 = j)), .bl (decide (3 = j))]) := upd_same
  generalize upd H l1 (.lst [.bl (decide (0 = j)), .bl (decide (1 = j)), .bl (decide (2 = j)), .bl (decide (3 = j))]) = H1 at s1 z1 ⊢
  refine ⟨.ref l1, rfl, .ref p.1, rfl, .ref c4, _, _, rfl, (fun u e => e), o4, .ref p.1, rfl, .ref c5, _, _, rfl, (fun u e => e), o5, .ref p.1, rfl, .ref c6, _, _, rfl, (fun u e => e), o6, (by show 3 ≤ sizeLine; decide), fun l2 n2 => ?_⟩
  have s2 : Same H1 (upd H1 l2 (.lst [.bl (decide (4 = j)), .bl (decide (5 = j)), .bl (decide (6 = j))])) := same_upd n2
  have z2 : (upd H1 l2 (.lst [.bl (decide (4 = j)), .bl (decide (5 = j)), .bl (decide (6 = j))])) l2 = some (.lst [.bl (decide (4 = j)), .bl (decide (5 = j)), .bl (decide (6 = j))]) := upd_same
  generalize upd H1 l2 (.lst [.bl (decide (4 = j)), .bl (decide (5 = j)), .bl (decide (6 = j))]) = H2 at s2 z2 ⊢
  refine ⟨l1, l2, _, _, rfl, rfl, s2 _ _ z1, z2, (by show 4 + 3 ≤ sizeLine; decide), fun l3 n3 => ?_⟩
  have s3 := same_upd (o := .lst ([.bl (decide (0 = j)), .bl (decide (1 = j)), .bl (decide (2 = j)), .bl (decide (3 = j))] ++ [.bl (decide (4 = j)), .bl (decide (5 = j)), .bl (decide (6 = j))])) n3
  have z3 : (upd H2 l3 (.lst ([.bl (decide (0 = j)), .bl (decide (1 = j)), .bl (decide (2 = j)), .bl (decide (3 = j))] ++ [.bl (decide (4 = j)), .bl (decide (5 = j)), .bl (decide (6 = j))]))) l3 = some (.lst ([.bl (decide (0 = j)), .bl (decide (1 = j)), .bl (decide (2 = j)), .bl (decide (3 = j))] ++ [.bl (decide (4 = j)), .bl (decide (5 = j)), .bl (decide (6 = j))])) := upd_same
  generalize upd H2 l3 (.lst ([.bl (decide (0 = j)), .bl (decide (1 = j)), .bl (decide (2 = j)), .bl (decide (3 = j))] ++ [.bl (decide (4 = j)), .bl (decide (5 = j)), .bl (decide (6 = j))])) = H3 at s3 z3 ⊢
  refine ⟨.ref l3, rfl, .ref p.1, rfl, .ref c7, _, _, rfl, (fun u e => e), o7, .ref p.1, rfl, .ref c8, _, _, rfl, (fun u e => e), o8, .ref p.1, rfl, .ty "ValueError", .type "ValueError", true, rfl, (fun u e => e), kd.val, _, rfl, (by show 3 ≤ sizeLine; decide), fun l4 n4 => ?_⟩
  have s4 : Same H3 (upd H3 l4 (.lst [.bl (decide (7 = j)), .bl (decide (8 = j)), .bl (!true)])) := same_upd n4
  have z4 : (upd H3 l4 (.lst [.bl (decide (7 = j)), .bl (decide (8 = j)), .bl (!true)])) l4 = some (.lst [.bl (decide (7 = j)), .bl (decide (8 = j)), .bl (!true)]) := upd_same
  generalize upd H3 l4 (.lst [.bl (decide (7 = j)), .bl (decide (8 = j)), .bl (!true)]) = H4 at s4 z4 ⊢
  refine ⟨l3, l4, _, _, rfl, rfl, s4 _ _ z3, z4, (by show 7 + 3 ≤ sizeLine; decide), fun l5 n5 => ?_⟩
  have ef : ([.bl (decide (0 = j)), .bl (decide (1 = j)), .bl (decide (2 = j)), .bl (decide (3 = j))] ++ [.bl (decide (4 = j)), .bl (decide (5 = j)), .bl (decide (6 = j))]) ++ [.bl (decide (7 = j)), .bl (decide (8 = j)), .bl (!true)] = (kinFlags j).map V.bl := by
    have h9 : decide (9 = j) = false := decide_eq_false (by have := kd.lt; omega)
    show _ = [V.bl (decide (0 = j)), V.bl (decide (1 = j)), V.bl (decide (2 = j)), V.bl (decide (3 = j)), V.bl (decide (4 = j)), V.bl (decide (5 = j)), V.bl (decide (6 = j)), V.bl (decide (7 = j)), V.bl (decide (8 = j)), V.bl (decide (9 = j))]
    rw [h9]; rfl
  rw [ef]
  have s5 := same_upd (o := .lst ((kinFlags j).map V.bl)) n5
  have z5 : (upd H4 l5 (.lst ((kinFlags j).map V.bl))) l5 = some (.lst ((kinFlags j).map V.bl)) := upd_same
  generalize upd H4 l5 (.lst ((kinFlags j).map V.bl)) = H5 at s5 z5 ⊢
  refine ⟨(by show 9 ≤ sizeLine; decide), fun l6 n6 => ?_⟩
  generalize e6 : upd H5 l6 _ = H6
  have s6 : Same H5 H6 := by rw [← e6]; exact same_upd n6
  have z6 : H6 l6 = some (.lst ((kinWords.take 9).map V.str)) := by rw [← e6]; exact upd_same
  refine ⟨⟨_, rfl⟩, .ref l6, rfl, (by show 1 ≤ sizeLine; decide), fun l7 n7 => ?_⟩
  generalize e7 : upd H6 l7 _ = H7
  have s7 : Same H6 H7 := by rw [← e7]; exact same_upd n7
  have z7 : H7 l7 = some (.lst [V.str "odd"]) := by rw [← e7]; exact upd_same
  refine ⟨l6, l7, _, _, rfl, rfl, s7 _ _ z6, z7, (by show 9 + 1 ≤ sizeLine; decide), fun l8 n8 => ?_⟩
  generalize e8 : upd H7 l8 _ = H8
  have s8 : Same H7 H8 := by rw [← e8]; exact same_upd n8
  have z8 : H8 l8 = some (.lst (kinWords.map V.str)) := by rw [← e8]; exact upd_same
  have w5 : H8 l5 = some (.lst ((kinFlags j).map V.bl)) := s8 _ _ (s7 _ _ (s6 _ _ z5))
  have sAll : Same H H8 := s1.trans (s2.trans (s3.trans (s4.trans (s5.trans (s6.trans (s7.trans s8))))))
  refine ⟨.ref l5, rfl, l8, l5, kinWords.map V.str, (kinFlags j).map V.bl, rfl, .inl (.inl z8), .inl (.inl w5), fun D nD => ?_⟩
  refine lc_it (walk_zip (K := K) (a := l8) (b := l5) (xs := kinWords.map V.str) (ys := (kinFlags j).map V.bl) (n := 10) rfl) (fun i H9 => Same H8 H9 ∧ H9 D = some (.lst ((if j < i then [kinWord j] else []).map V.str))) ⟨same_upd nD, ?_⟩ (fun i H9 _ hP => ⟨.inl (.inl (hP.1 _ _ z8)), .inl (.inl (hP.1 _ _ w5))⟩) (fun i v H9 HA hi hP hy => ?_) (fun H9 hP => ?_)
  · rw [if_neg (Nat.not_lt_zero j)]; exact upd_same
  · obtain ⟨sm, eD⟩ := hP
    obtain ⟨t, u1, u2, rfl, nt, rfl, g1, g2⟩ := hy
    have g1 : (kinWords.map V.str)[i]? = some u1 := g1
    have g2 : ((kinFlags j).map V.bl)[i]? = some u2 := g2
    have e1 : u1 = .str (kinWord i) := by
      rw [List.getElem?_map] at g1
      have hi : i < kinWords.length := hi
      rw [List.getElem?_eq_getElem hi] at g1
      cases g1
      show V.str kinWords[i] = V.str (kinWords.getD i "")
      rw [List.getD_eq_getElem?_getD, List.getElem?_eq_getElem hi]; rfl
    have e2 : u2 = .bl (decide (i = j)) := by
      unfold kinFlags at g2
      rw [List.getElem?_map, List.getElem?_map, List.getElem?_range hi] at g2
      cases g2; rfl
    subst e1 e2
    have sA := same_upd (o := .tup [.str (kinWord i), .bl (decide (i = j))]) nt
    refine ⟨t, [.str (kinWord i), .bl (decide (i = j))], rfl, .inl (.inl upd_same), rfl, _, _, rfl, _, _, rfl, rfl, rfl, ?_⟩
    refine ⟨.bl (decide (i = j)), rfl, decide (i = j), rfl, ite2 (fun c => ?_) (fun c => ?_)⟩
    · have c : i = j := of_decide_eq_true c
      subst c
      rw [if_neg (Nat.lt_irrefl i)] at eD
      refine ⟨.str (kinWord i), rfl, [], sA _ _ eD, (by show 0 < sizeLine; decide), same_over (sm.trans sA) nD, ?_⟩
      rw [if_pos (Nat.lt_succ_self i)]; exact upd_same
    · have c : ¬ i = j := fun z => c (decide_eq_true z)
      refine ⟨sm.trans sA, ?_⟩
      rw [show (if j < i + 1 then [kinWord j] else []) = (if j < i then [kinWord j] else []) from by
        by_cases h : j < i
        · rw [if_pos h, if_pos (by omega)]
        · rw [if_neg h, if_neg (by omega)]]
      exact sA _ _ eD
  · obtain ⟨sm, eD⟩ := hP
    rw [if_pos (by have := kd.lt; omega)] at eD
    refine ⟨"", D, [kinWord j], rfl, rfl, .inl (.inl (.inl eD)), ?_, ?_⟩
    · have hl : ∀ j < 9, (([kinWord j] : List Str).map (·.length)).sum + ([kinWord j] : List Str).length * (("" : Str).length) ≤ 16777216 := by decide +kernel
      exact hl j kd.lt
    · exact q H9 (sAll.trans sm)
end
end Rep
namespace Rep
open PySem L2
/-! lists of things that lie as tuples -/
structure LL {α : Type} (D : Hp → V → α → Prop) (H : Hp) (vs : List V) (as : List α) : Prop where
  len : vs.length = as.length
  at_ : ∀ (i : Nat) (v : V) (a : α), vs[i]? = some v → as[i]? = some a → D H v a
section
variable {α : Type} {D : Hp → V → α → Prop} {H H' : Hp} {vs ws : List V} {as bs : List α}
theorem LL.nil : LL D H [] ([] : List α) := ⟨rfl, fun i v a h => by simp at h⟩
theorem LL.get (h : LL D H vs as) {i : Nat} {v : V} (e : vs[i]? = some v) : ∃ a, as[i]? = some a ∧ D H v a := by
  have hi : i < as.length := by rw [← h.len]; exact (List.getElem?_eq_some_iff.mp e).1
  exact ⟨as[i], List.getElem?_eq_getElem hi, h.at_ i v _ e (List.getElem?_eq_getElem hi)⟩
theorem LL.get' (h : LL D H vs as) {i : Nat} {a : α} (e : as[i]? = some a) : ∃ v, vs[i]? = some v ∧ D H v a := by
  have hi : i < vs.length := by rw [h.len]; exact (List.getElem?_eq_some_iff.mp e).1
  exact ⟨vs[i], List.getElem?_eq_getElem hi, h.at_ i _ a (List.getElem?_eq_getElem hi) e⟩
theorem LL.mem (h : LL D H vs as) {v : V} (e : v ∈ vs) : ∃ a ∈ as, D H v a := by
  obtain ⟨i, hi⟩ := List.mem_iff_getElem?.mp e
  obtain ⟨a, ha, d⟩ := h.get hi
  exact ⟨a, List.mem_of_getElem? ha, d⟩
theorem LL.imp (h : LL D H vs as) (s : ∀ v a, D H v a → D H' v a) : LL D H' vs as := ⟨h.len, fun i v a h1 h2 => s v a (h.at_ i v a h1 h2)⟩
theorem LL.app (h : LL D H vs as) (k : LL D H ws bs) : LL D H (vs ++ ws) (as ++ bs) := by
  refine ⟨by rw [List.length_append, List.length_append, h.len, k.len], fun i v a h1 h2 => ?_⟩
  by_cases c : i < vs.length
  · rw [List.getElem?_append_left c] at h1
    rw [List.getElem?_append_left (by rw [← h.len]; exact c)] at h2
    exact h.at_ i v a h1 h2
  · rw [List.getElem?_append_right (by omega)] at h1
    rw [List.getElem?_append_right (by rw [← h.len]; omega), ← h.len] at h2
    exact k.at_ _ v a h1 h2
theorem LL.one {v : V} {a : α} (h : D H v a) : LL D H [v] [a] := ⟨rfl, fun i w b h1 h2 => by
  match i, h1, h2 with
  | 0, h1, h2 => cases h1; cases h2; exact h
  | i + 1, h1, _ => simp at h1⟩
theorem LL.snoc (h : LL D H vs as) {v : V} {a : α} (k : D H v a) : LL D H (vs ++ [v]) (as ++ [a]) := h.app (.one k)
theorem LL.take (h : LL D H vs as) (n : Nat) : LL D H (vs.take n) (as.take n) := by
  refine ⟨by rw [List.length_take, List.length_take, h.len], fun i v a h1 h2 => ?_⟩
  rw [List.getElem?_take] at h1 h2
  by_cases c : i < n
  · rw [if_pos c] at h1 h2; exact h.at_ i v a h1 h2
  · rw [if_neg c] at h1; cases h1
theorem LL.erase (h : LL D H vs as) (k : Nat) : LL D H (vs.eraseIdx k) (as.eraseIdx k) := by
  refine ⟨by rw [List.length_eraseIdx, List.length_eraseIdx, h.len], fun i v a h1 h2 => ?_⟩
  rw [List.getElem?_eraseIdx] at h1 h2
  by_cases c : i < k
  · rw [if_pos c] at h1 h2; exact h.at_ i v a h1 h2
  · rw [if_neg c] at h1 h2; exact h.at_ _ v a h1 h2
theorem LL.init (h : LL D H vs as) : LL D H vs.dropLast as.dropLast := by
  rw [List.dropLast_eq_take, List.dropLast_eq_take, ← h.len]
  exact h.take _
theorem LL.rev (h : LL D H vs as) : LL D H vs.reverse as.reverse := by
  refine ⟨by rw [List.length_reverse, List.length_reverse, h.len], fun i v a h1 h2 => ?_⟩
  have hi : i < vs.length := by
    have := (List.getElem?_eq_some_iff.mp h1).1
    rw [List.length_reverse] at this
    exact this
  rw [List.getElem?_reverse hi] at h1
  rw [List.getElem?_reverse (by rw [← h.len]; exact hi), ← h.len] at h2
  exact h.at_ _ v a h1 h2
end
def IsSy (H : Hp) (v : V) (s : Sy) : Prop := ∃ t, v = .ref t ∧ H t = some (.tup [.int s.lo, .int s.hi, .int s.n, .bl s.t])
theorem IsSy.ts {H H' : Hp} (h : TS H H') {v : V} {s : Sy} (k : IsSy H v s) : IsSy H' v s := by
  obtain ⟨t, e, ht⟩ := k
  exact ⟨t, e, h _ _ ht⟩
abbrev SL (H : Hp) (vs : List V) (ss : List Sy) : Prop := LL IsSy H vs ss
theorem SL.ts {H H' : Hp} (h : TS H H') {vs : List V} {ss : List Sy} (k : SL H vs ss) : SL H' vs ss := k.imp fun _ _ z => z.ts h
theorem IsSy.of {H : Hp} {t : Addr} {s : Sy} (h : H t = some (.tup [.int s.lo, .int s.hi, .int s.n, .bl s.t])) : IsSy H (.ref t) s := ⟨t, rfl, h⟩
def q4 (s : Sy) : Int × Int × Int × Bool := (s.lo, s.hi, s.n, s.t)
def ofQ (q : Int × Int × Int × Bool) : Sy := ⟨q.1, q.2.1, q.2.2.1, q.2.2.2⟩
/-- all but tables stay -/
abbrev EX (H H' : Hp) : Prop := LamX.ExtN H H'
theorem EX.of {H H' : Hp} (h : Same H H') : EX H H' := fun b o e _ => h b o e
theorem EX.ts {H H' : Hp} (h : EX H H') : TS H H' := fun t xs e => h t _ e (fun ps z => by cases z)
theorem EX.lst {H H' : Hp} (h : EX H H') {a : Addr} {xs : List V} (e : H a = some (.lst xs)) : H' a = some (.lst xs) := h a _ e (fun ps z => by cases z)
/-! kept_form, kept_forms -/
def oS (H : Hp) (o : Option Sy) (v : V) : Prop := match o with
  | none => v = .non
  | some s => IsSy H v s
theorem oS.ts {H H' : Hp} (h : TS H H') {o : Option Sy} {v : V} (k : oS H o v) : oS H' o v := by
  cases o with
  | none => exact k
  | some s => exact IsSy.ts h k
def spKept : Sp := fun vs H Q _ => ∃ (a b n : Int) (t : Bool), vs = [.int a, .int b, .int n, .bl t] ∧ ∀ H' v, Same H H' → oS H' (keptF a b n t) v → Q v H'
abbrev nKept : List Str := ["one", "other", "many", "turned", "low", "high", "reach"]
theorem scKept : FnScope nKept ["one", "other", "many", "turned"] (defScope sKept_form) := ⟨rfl, rfl, rfl, by decide +kernel, rfl, by decide +kernel, by decide +kernel⟩
section
variable {P : Program} {w : World} {K : PySem.W.Frag} {mg : Str → Option Value} {base : Heap}
theorem ok_kept {f : Addr} {fd : FuncData} {k : Nat} (F : Fun K "kept_form" "kept_form" sKept_form f fd) (mm : mg "min" = none) (mM : mg "max" = none) : FnOk P w K mg base CX0 (k + 1) f fd ["one", "other", "many", "turned"] spKept := by
  refine F.ok scKept (fun vs H Q E h => ?_) (fun cdv A outer s H vs Q E hr h => ?_)
  · obtain ⟨a, b, n, t, rfl, _⟩ := h; rfl
  obtain ⟨a, b, n, t, rfl, q⟩ := h
  refine ⟨_, (pss_cons (ps_set (i := 4) scKept.nd rfl (.inl rfl) (pe_callB (call_min2 rfl) (by rfl) mm (by decide +kernel) (pa_cons (pv 0) (pa_cons (pv 1) pa_nil))))
    (pss_cons (ps_set (i := 5) scKept.nd rfl (.inl rfl) (pe_callB (call_max2 rfl) (by rfl) mM (by decide +kernel) (pa_cons (pv 0) (pa_cons (pv 1) pa_nil))))
    (C8.pss_cut (ps_if (PW.pt (pw_and (pt_val (pv 3)) (pw_and1 (pt_cmpR op_lt (pv 5) (pe_op op_add (pv 4) (pv 2)) (nomark _))))) (pss_cons (ps_set (i := 6) scKept.nd rfl (.inl rfl) (pe_op op_sub (pe_op op_add (pv 5) (pv 2)) (pv 4)))
    (pss_cons (ps_set (i := 2) scKept.nd rfl (.inl rfl) (pe_op op_fdiv (pv 6) pe_int))
    (pss_one (ps_set (i := 5) scKept.nd rfl (.inl rfl) (pe_op op_sub (pe_op op_add (pv 4) (pv 6)) (pv 2)))))) pss_nil)
    (pss_cons (ps_if (PW.pt (pw_or (pt_cmpR op_lt (pv 2) pe_int (nomark _)) (pw_or1 (pt_cmpR op_eq (pv 4) (pv 5) (nomark _))))) (pss_one (ps_ret pe_non)) pss_nil)
    (pss_one (ps_ret (pe_tup (pa_cons (pv 4) (pa_cons (pv 5) (pa_cons (pv 2) (pa_cons (pv 3) pa_nil))))))))))), ?_⟩
  have e1 : (if b < a then b else a) = min a b := by split <;> omega
  have e2 : (if b > a then b else a) = max a b := by split <;> omega
  refine ⟨.int a, rfl, .int b, rfl, a, b, rfl, ?_⟩
  show gName 4 (.int (if b < a then b else a)) _ _ _
  rw [e1]
  refine ⟨.int a, rfl, .int b, rfl, a, b, rfl, ?_⟩
  show gName 5 (.int (if b > a then b else a)) _ _ _
  rw [e2]
  have hk : keptF a b n t = (if t = true ∧ max a b < min a b + n then (if (max a b + n - min a b) / 2 < 1 ∨ min a b = min a b + (max a b + n - min a b) - (max a b + n - min a b) / 2 then none else some ⟨min a b, min a b + (max a b + n - min a b) - (max a b + n - min a b) / 2, (max a b + n - min a b) / 2, t⟩) else if n < 1 ∨ min a b = max a b then none else some ⟨min a b, max a b, n, t⟩) := rfl
  rw [hk] at q
  generalize min a b = lo at *
  generalize max a b = hi at *
  refine ⟨fun σ' H' => ∃ (n' hi' : Int) (y : Option V), σ' = [some (.int a), some (.int b), some (.int n'), some (.bl t), some (.int lo), some (.int hi'), y] ∧ H' = H ∧ (if t = true ∧ hi < lo + n then n' = (hi + n - lo) / 2 ∧ hi' = lo + (hi + n - lo) - (hi + n - lo) / 2 else n' = n ∧ hi' = hi), ?_, ?_⟩
  · refine ⟨.bl t, rfl, t, rfl, ?_⟩
    cases t with
    | false =>
      refine iteF ?_
      refine iteF ?_
      refine ⟨n, hi, none, rfl, rfl, ?_⟩
      rw [if_neg (fun z => by cases z.1)]
      exact ⟨rfl, rfl⟩
    | true =>
      refine iteT ?_
      refine ⟨.int hi, rfl, .int lo, rfl, .int n, rfl, _, _, rfl, rfl, _, _, rfl, rfl, _, rfl, ite2 (fun c => ?_) (fun c => ?_)⟩
      · have c1 : hi < lo + n := of_decide_eq_true c
        refine ⟨.int hi, rfl, .int n, rfl, _, _, rfl, rfl, .int lo, rfl, _, _, rfl, rfl, ?_⟩
        refine ⟨.int (hi + n - lo), rfl, _, 2, rfl, rfl, ⟨by decide, by decide⟩, ?_⟩
        refine ⟨.int lo, rfl, .int (hi + n - lo), rfl, _, _, rfl, rfl, .int ((hi + n - lo) / 2), rfl, _, _, rfl, rfl, ?_⟩
        refine ⟨_, _, _, rfl, rfl, ?_⟩
        rw [if_pos ⟨rfl, c1⟩]
        exact ⟨rfl, rfl⟩
      · have c1 : ¬ hi < lo + n := fun e => c (decide_eq_true e)
        refine ⟨n, hi, none, rfl, rfl, ?_⟩
        rw [if_neg fun z => c1 z.2]
        exact ⟨rfl, rfl⟩
  rintro σ' H' ⟨n', hi', y, rfl, rfl, hc⟩
  have hk2 : ∀ v H'', Same H' H'' → oS H'' (if n' < 1 ∨ lo = hi' then none else some ⟨lo, hi', n', t⟩) v → Q v H'' := fun v H'' s1 h1 => by
    refine q H'' v s1 ?_
    by_cases c : t = true ∧ hi < lo + n
    · rw [if_pos c] at hc ⊢
      obtain ⟨rfl, rfl⟩ := hc
      exact h1
    · rw [if_neg c] at hc ⊢
      obtain ⟨rfl, rfl⟩ := hc
      exact h1
  have fin : ¬ (n' < 1 ∨ lo = hi') → tRet (tTup (tCons (tVar 4) (tCons (tVar 5) (tCons (tVar 2) (tCons (tVar 3) tNil))))) { nx := fun _ H' => Q .non H', rt := Q } [some (.int a), some (.int b), some (.int n'), some (.bl t), some (.int lo), some (.int hi'), y] H' := fun hn => by
    refine ⟨.int lo, rfl, .int hi', rfl, .int n', rfl, .bl t, rfl, (by show 4 ≤ sizeLine; decide), fun p np => ?_⟩
    refine hk2 _ _ (same_upd np) ?_
    rw [if_neg hn]
    exact IsSy.of upd_same
  refine ⟨.int n', rfl, _, 1, rfl, rfl, _, rfl, ite2 (fun c => ?_) (fun c => ?_)⟩
  · have c1 : n' < 1 := of_decide_eq_true c
    refine iteT ?_
    exact hk2 _ _ (Same.refl _) (by rw [if_pos (.inl c1)]; rfl)
  · have c1 : ¬ n' < 1 := fun e => c (decide_eq_true e)
    refine ⟨.int lo, rfl, .int hi', rfl, rfl, _, rfl, ite2 (fun d => ?_) (fun d => ?_)⟩
    · have d1 : lo = hi' := V.int.inj (of_decide_eq_true d)
      exact hk2 _ _ (Same.refl _) (by rw [if_pos (.inr d1)]; rfl)
    · have d1 : ¬ lo = hi' := fun e => d (decide_eq_true (by rw [e]))
      exact fin (fun z => z.elim c1 d1)
end
end Rep
namespace Rep
open PySem L2
def spKeptL (K : PySem.W.Frag) : Sp := fun vs H Q _ => ∃ (a : Addr) (xs : List V) (ss : List Sy), vs = [.ref a] ∧ SqL K H a xs ∧ SL H xs ss ∧ ss.length ≤ 100000 ∧
  ∀ H' o ys, Same H H' → H o = none → H' o = some (.lst ys) → SL H' ys (keptL (ss.map q4)) → Q (.ref o) H'
abbrev nKeptL : List Str := ["sayings", "forms", "one", "other", "many", "turned", "form"]
theorem scKeptL : FnScope nKeptL ["sayings"] (defScope sKept_forms) := ⟨rfl, rfl, rfl, by decide +kernel, rfl, by decide +kernel, by decide +kernel⟩
abbrev OL (H : Hp) (vs : List V) (os : List (Option Sy)) : Prop := LL (fun H v o => oS H o v) H vs os
theorem OL.ts {H H' : Hp} (h : TS H H') {vs : List V} {os : List (Option Sy)} (k : OL H vs os) : OL H' vs os := k.imp fun _ _ z => z.ts h
def kO (s : Sy) : Option Sy := keptF s.lo s.hi s.n s.t
theorem keptL_map (ss : List Sy) : keptL (ss.map q4) = (ss.map kO).filterMap id := by
  unfold keptL
  rw [List.filterMap_map, List.filterMap_map]
  rfl
section
variable {P : Program} {w : World} {K : PySem.W.Frag} {mg : Str → Option Value} {base : Heap}
theorem ok_keptL {f fK : Addr} {fd fdK : FuncData} {k : Nat} (F : Fun K "kept_forms" "kept_forms" sKept_forms f fd) (GK : FnOk P w K mg base CX0 k fK fdK ["one", "other", "many", "turned"] spKept) (kK : PySem.W.keepIn K (.ref fK) = true) (bK : Binds K fdK ["one", "other", "many", "turned"] []) (mK_ : mg "kept_form" = some (.ref fK)) : FnOk P w K mg base CX0 (k + 1) f fd ["sayings"] (spKeptL K) := by
  refine F.ok scKeptL (fun vs H Q E h => ?_) (fun cdv A outer s H vs Q E hr h => ?_)
  · obtain ⟨a, xs, ss, rfl, _⟩ := h; rfl
  obtain ⟨a, xs, ss, rfl, hX, sl, hl, q⟩ := h
  refine ⟨_, (C8.pss_cut (ps_setLc (i := 1) (own := [("one", 2), ("other", 3), ("many", 4), ("turned", 5)]) (g := (gTup K 4 (gCons (gName 2) (gCons (gName 3) (gCons (gName 4) (gCons (gName 5) gNil)))))) (tt := tYes) rfl scKeptL.nd rfl rfl (sw_true rfl rfl rfl (by decide +kernel)) (pi_list (pv 0)) (blkOk_by (N := nKeptL) (sc := defScope sKept_forms) (by decide +kernel)) (fun _ _ _ _ _ => (pg_tup rfl (pgs_cons (pg_name (i := 2) scKeptL.nd rfl (.inl rfl)) (pgs_cons (pg_name (i := 3) scKeptL.nd rfl (.inl rfl)) (pgs_cons (pg_name (i := 4) scKeptL.nd rfl (.inl rfl)) (pgs_cons (pg_name (i := 5) scKeptL.nd rfl (.inl rfl)) pgs_nil)))))) (fun _ _ _ _ _ => pts_nil) (fun _ _ _ _ _ => (pe_call GK hr (by rfl) mK_ kK bK .nil pass0 (pa_cons (pv 2) (pa_cons (pv 3) (pa_cons (pv 4) (pa_cons (pv 5) pa_nil)))))))
    (pss_one (ps_ret (pe_lc (own := [("form", 6)]) (g := (gName 6)) (tt := _) rfl scKeptL.nd (pi_list (pv 1)) (blkOk_by (N := nKeptL) (sc := defScope sKept_forms) (by decide +kernel)) (fun _ _ _ _ _ => (pg_name (i := 6) scKeptL.nd rfl (.inl rfl))) (fun _ _ _ _ _ => (pts_one (pt_cmpR op_notN (pv 6) pe_non (nomark _)))) (fun _ _ _ _ _ => (pv 6)))))), ?_⟩
  refine ⟨fun σ' H' => ∃ (D : Addr) (ys : List V), σ' = [some (.ref a), some (.ref D), none, none, none, none, none] ∧ Same H H' ∧ H D = none ∧ H' D = some (.lst ys) ∧ OL H' ys (ss.map kO), ?_, ?_⟩
  · refine ⟨.ref a, rfl, a, rfl, ⟨_, hX⟩, fun D nD => ?_⟩
    refine lc_list (xs := xs) (fun i H5 => Same H H5 ∧ ∃ ys, H5 D = some (.lst ys) ∧ OL H5 ys ((ss.take i).map kO)) ⟨same_upd nD, [], upd_same, .nil⟩ (fun i H5 _ hP => hP.1.seq hX) (fun i v H5 hv hP => ?_) (fun H5 hP => ?_)
    · obtain ⟨sm, ys, eD, ol⟩ := hP
      obtain ⟨u, hu, t, rfl, ht⟩ := sl.get hv
      have hi : i < ss.length := (List.getElem?_eq_some_iff.mp hu).1
      refine ⟨t, [.int u.lo, .int u.hi, .int u.n, .bl u.t], rfl, .inl (.inl (sm _ _ ht)), rfl, _, _, rfl, _, _, rfl, _, _, rfl, _, _, rfl, rfl, rfl, ?_⟩
      refine tYes_ok ?_
      refine iteT ?_
      refine ⟨.int u.lo, rfl, .int u.hi, rfl, .int u.n, rfl, .bl u.t, rfl, u.lo, u.hi, u.n, u.t, rfl, fun H6 v6 s6 o6 => ?_⟩
      refine ⟨ys, s6 _ _ eD, ?_, same_over (sm.trans s6) nD, ys ++ [v6], upd_same, ?_⟩
      · rw [ol.len, List.length_map, List.length_take]
        exact Nat.lt_of_le_of_lt (show _ ≤ 100000 by omega) (by decide)
      · rw [List.take_add_one, hu, Option.toList_some, List.map_append]
        exact OL.ts (TS.lst (s6 _ _ eD)) ((OL.ts (TS.of s6) ol).snoc (α := Option Sy) (a := kO u) o6)
    · obtain ⟨sm, ys, eD, ol⟩ := hP
      rw [sl.len, List.take_length] at ol
      exact ⟨D, ys, rfl, sm, nD, eD, ol⟩
  rintro σ' H1 ⟨D, ys, rfl, s1, nD, eD, ol⟩
  refine ⟨.ref D, rfl, D, rfl, ⟨_, .inl (.inl eD)⟩, fun D2 nD2 => ?_⟩
  refine lc_list (xs := ys) (fun i H5 => Same H1 H5 ∧ ∃ zs, H5 D2 = some (.lst zs) ∧ SL H5 zs (((ss.map kO).take i).filterMap id)) ⟨same_upd nD2, [], upd_same, .nil⟩ (fun i H5 _ hP => .inl (.inl (hP.1 _ _ eD))) (fun i v H5 hv hP => ?_) (fun H5 hP => ?_)
  · obtain ⟨sm, zs, eD2, sl2⟩ := hP
    obtain ⟨o, ho, hov⟩ := ol.get hv
    have hi : i < (ss.map kO).length := (List.getElem?_eq_some_iff.mp ho).1
    have et : (ss.map kO).take (i + 1) = (ss.map kO).take i ++ [o] := by rw [List.take_add_one, ho]; rfl
    refine ⟨rfl, ?_⟩
    cases o with
    | none =>
      have ev : v = .non := hov
      subst ev
      refine ⟨.non, rfl, rfl, _, rfl, ?_⟩
      refine iteF ?_
      refine ⟨sm, zs, eD2, ?_⟩
      rw [et, List.filterMap_append]
      show SL H5 zs (((ss.map kO).take i).filterMap id ++ [])
      rw [List.append_nil]
      exact sl2
    | some u =>
      have hov : IsSy H1 v u := hov
      have nn : ¬ v = .non := fun z => by
        obtain ⟨t, e, _⟩ := hov
        rw [e] at z; cases z
      refine ⟨v, rfl, rfl, _, rfl, ?_⟩
      rw [decide_eq_false nn]
      refine iteT ?_
      refine ⟨v, rfl, zs, eD2, ?_, same_over sm nD2, zs ++ [v], upd_same, ?_⟩
      · rw [sl2.len]
        have h1 := List.length_filterMap_le id ((ss.map kO).take i)
        rw [List.length_take, List.length_map] at h1
        exact Nat.lt_of_le_of_lt (show _ ≤ 100000 by omega) (by decide)
      · rw [et, List.filterMap_append]
        exact SL.ts (TS.lst eD2) (sl2.snoc (a := u) (hov.ts (TS.of sm)))
  · obtain ⟨sm, zs, eD2, sl2⟩ := hP
    rw [ol.len, List.take_length, ← keptL_map] at sl2
    exact q H5 D2 zs (s1.trans sm) (Same.free s1 nD2) eD2 sl2
end
/-! common_beat, joined -/
theorem gcdI_step {a b : Int} (ha : 0 ≤ a) (hb : 0 < b) : gcdI b (a % b) = gcdI a b := by
  unfold gcdI
  have e : (a % b).toNat = a.toNat % b.toNat := by
    obtain ⟨n, rfl⟩ := Int.eq_ofNat_of_zero_le ha
    obtain ⟨m, rfl⟩ := Int.eq_ofNat_of_zero_le (Int.le_of_lt hb)
    rw [← Int.natCast_emod]
    rfl
  rw [e, Nat.gcd_comm a.toNat b.toNat, Nat.gcd_rec b.toNat a.toNat, Nat.gcd_comm]
theorem gcdI_zero {a : Int} (ha : 0 ≤ a) : gcdI a 0 = a := by
  unfold gcdI
  rw [show (0 : Int).toNat = 0 from rfl, Nat.gcd_zero_right]
  omega
def spBeat : Sp := fun vs H Q _ => ∃ a b : Int, vs = [.int a, .int b] ∧ 0 ≤ a ∧ 0 ≤ b ∧ Q (.int (gcdI a b)) H
abbrev nBeat : List Str := ["one", "other"]
theorem scBeat : FnScope nBeat ["one", "other"] (defScope sCommon_beat) := ⟨rfl, rfl, rfl, by decide +kernel, rfl, by decide +kernel, by decide +kernel⟩
section
variable {P : Program} {w : World} {K : PySem.W.Frag} {mg : Str → Option Value} {base : Heap}
theorem ok_beat {f : Addr} {fd : FuncData} {k : Nat} (F : Fun K "common_beat" "common_beat" sCommon_beat f fd) : FnOk P w K mg base CX0 (k + 1) f fd ["one", "other"] spBeat := by
  refine F.ok scBeat (fun vs H Q E h => ?_) (fun cdv A outer s H vs Q E hr h => ?_)
  · obtain ⟨a, b, rfl, _⟩ := h; rfl
  obtain ⟨a, b, rfl, ha, hb, q⟩ := h
  refine ⟨_, (pss_cons (ps_while PassesOwn.never (pt_cmpR op_gt (pv 1) pe_int (nomark _))
      (pss_one (ps_par (i := 0) (j := 1) (by rfl) scBeat.nd rfl rfl (by decide) rfl rfl (pa_cons (pv 1) (pa_cons (pe_op op_mod (pv 0) (pv 1)) pa_nil)) (by rfl))))
    (pss_one (ps_ret (pv 0)))), ?_⟩
  refine ⟨fun m σ H' => ∃ x y : Int, σ = [some (.int x), some (.int y)] ∧ H' = H ∧ 0 ≤ x ∧ 0 ≤ y ∧ gcdI x y = gcdI a b ∧ m = y.toNat, ⟨_, a, b, rfl, rfl, ha, hb, rfl, rfl⟩, ?_⟩
  rintro m σ H' ⟨x, y, rfl, rfl, hx, hy, hgc, rfl⟩
  refine ⟨.int y, rfl, _, 0, rfl, rfl, _, rfl, ite2 (fun c => ?_) (fun c => ?_)⟩
  · have c1 : (0 : Int) < y := of_decide_eq_true c
    have m0 : 0 ≤ x % y := Int.emod_nonneg _ (by omega)
    have m1 : x % y < y := Int.emod_lt_of_pos _ c1
    refine ⟨fun σ' H2 => σ' = [some (.int y), some (.int (x % y))] ∧ H2 = H', fun σ' H2 hN => ?_, ?_⟩
    · obtain ⟨rfl, rfl⟩ := hN
      exact ⟨(x % y).toNat, by omega, y, x % y, rfl, rfl, by omega, m0, by rw [gcdI_step hx c1, hgc], rfl⟩
    · exact ⟨.int y, rfl, .int x, rfl, .int y, rfl, _, _, rfl, rfl, c1, _, _, rfl, rfl, rfl⟩
  · have c1 : ¬ (0 : Int) < y := fun e => c (decide_eq_true e)
    have e0 : y = 0 := by omega
    subst e0
    refine ⟨.int x, rfl, ?_⟩
    rw [← hgc, gcdI_zero hx] at q
    exact q
end
def spJoined : Sp := fun vs H Q _ => ∃ (x y : V) (s o : Sy), vs = [x, y] ∧ IsSy H x s ∧ IsSy H y o ∧ 0 < lead s ∧ 0 < lead o ∧ ∀ H' v, Same H H' → IsSy H' v (joinF s o) → Q v H'
abbrev nJoined : List Str := ["saying", "other", "lead", "low", "end"]
theorem scJoined : FnScope nJoined ["saying", "other"] (defScope sJoined) := ⟨rfl, rfl, rfl, by decide +kernel, rfl, by decide +kernel, by decide +kernel⟩
section
variable {P : Program} {w : World} {K : PySem.W.Frag} {mg : Str → Option Value} {base : Heap}
theorem ok_joined {f fB : Addr} {fd fdB : FuncData} {k : Nat} (F : Fun K "joined" "joined" sJoined f fd) (GB : FnOk P w K mg base CX0 k fB fdB ["one", "other"] spBeat) (kB : PySem.W.keepIn K (.ref fB) = true) (bB : Binds K fdB ["one", "other"] []) (mB : mg "common_beat" = some (.ref fB)) (mm : mg "min" = none) (mM : mg "max" = none) : FnOk P w K mg base CX0 (k + 1) f fd ["saying", "other"] spJoined := by
  refine F.ok scJoined (fun vs H Q E h => ?_) (fun cdv A outer s H vs Q E hr h => ?_)
  · obtain ⟨x, y, s, o, rfl, _⟩ := h; rfl
  obtain ⟨x, y, u, o, rfl, ⟨tx, rfl, hx⟩, ⟨ty, rfl, hy⟩, hls, hlo, q⟩ := h
  refine ⟨_, (pss_cons (ps_set (i := 2) scJoined.nd rfl (.inl rfl) (pe_call GB hr (by rfl) mB kB bB .nil pass0 (pa_cons (pe_op op_sub (pe_ix ix_tup (pv 0) pe_int (fun _ _ => rfl)) (pe_ix ix_tup (pv 0) pe_int (fun _ _ => rfl))) (pa_cons (pe_op op_sub (pe_ix ix_tup (pv 1) pe_int (fun _ _ => rfl)) (pe_ix ix_tup (pv 1) pe_int (fun _ _ => rfl))) pa_nil))))
    (pss_cons (ps_set (i := 3) scJoined.nd rfl (.inl rfl) (pe_callB (call_min2 rfl) (by rfl) mm (by decide +kernel) (pa_cons (pe_ix ix_tup (pv 0) pe_int (fun _ _ => rfl)) (pa_cons (pe_ix ix_tup (pv 1) pe_int (fun _ _ => rfl)) pa_nil))))
    (pss_cons (ps_set (i := 4) scJoined.nd rfl (.inl rfl) (pe_callB (call_max2 rfl) (by rfl) mM (by decide +kernel) (pa_cons (pe_op op_add (pe_ix ix_tup (pv 0) pe_int (fun _ _ => rfl)) (pe_ix ix_tup (pv 0) pe_int (fun _ _ => rfl))) (pa_cons (pe_op op_add (pe_ix ix_tup (pv 1) pe_int (fun _ _ => rfl)) (pe_ix ix_tup (pv 1) pe_int (fun _ _ => rfl))) pa_nil))))
    (pss_one (ps_ret (pe_tup (pa_cons (pv 3) (pa_cons (pe_op op_add (pv 3) (pv 2)) (pa_cons (pe_op op_sub (pe_op op_sub (pv 4) (pv 3)) (pv 2)) (pa_cons pe_bl pa_nil)))))))))), ?_⟩
  have e1 : (if o.lo < u.lo then o.lo else u.lo) = min u.lo o.lo := by split <;> omega
  have e2 : (if o.hi + o.n > u.hi + u.n then o.hi + o.n else u.hi + u.n) = max (u.hi + u.n) (o.hi + o.n) := by split <;> omega
  refine ⟨.ref tx, rfl, tx, _, 1, .int u.hi, rfl, rfl, .inl (.inl hx), rfl, .ref tx, rfl, tx, _, 0, .int u.lo, rfl, rfl, .inl (.inl hx), rfl, _, _, rfl, rfl, .ref ty, rfl, ty, _, 1, .int o.hi, rfl, rfl, .inl (.inl hy), rfl, .ref ty, rfl, ty, _, 0, .int o.lo, rfl, rfl, .inl (.inl hy), rfl, _, _, rfl, rfl, ?_⟩
  refine ⟨lead u, lead o, rfl, by omega, by omega, ?_⟩
  refine ⟨.ref tx, rfl, tx, _, 0, .int u.lo, rfl, rfl, .inl (.inl hx), rfl, .ref ty, rfl, ty, _, 0, .int o.lo, rfl, rfl, .inl (.inl hy), rfl, u.lo, o.lo, rfl, ?_⟩
  show gName 3 (.int (if o.lo < u.lo then o.lo else u.lo)) _ _ _
  rw [e1]
  refine ⟨.ref tx, rfl, tx, _, 1, .int u.hi, rfl, rfl, .inl (.inl hx), rfl, .ref tx, rfl, tx, _, 2, .int u.n, rfl, rfl, .inl (.inl hx), rfl, _, _, rfl, rfl, .ref ty, rfl, ty, _, 1, .int o.hi, rfl, rfl, .inl (.inl hy), rfl, .ref ty, rfl, ty, _, 2, .int o.n, rfl, rfl, .inl (.inl hy), rfl, _, _, rfl, rfl, u.hi + u.n, o.hi + o.n, rfl, ?_⟩
  show gName 4 (.int (if o.hi + o.n > u.hi + u.n then o.hi + o.n else u.hi + u.n)) _ _ _
  rw [e2]
  refine ⟨.int (min u.lo o.lo), rfl, .int (min u.lo o.lo), rfl, .int (gcdI (lead u) (lead o)), rfl, _, _, rfl, rfl, .int (max (u.hi + u.n) (o.hi + o.n)), rfl, .int (min u.lo o.lo), rfl, _, _, rfl, rfl, .int (gcdI (lead u) (lead o)), rfl, _, _, rfl, rfl, (by show 4 ≤ sizeLine; decide), fun p np => ?_⟩
  exact q _ _ (same_upd np) (IsSy.of upd_same)
end
/-! partner -/
def oI : Option Nat → V
  | none => .non
  | some k => .int (k : Int)
def spPartner (K : PySem.W.Frag) : Sp := fun vs H Q _ => ∃ (a : Addr) (xs : List V) (ss : List Sy) (x : V) (s : Sy), vs = [.ref a, x] ∧ SqL K H a xs ∧ SL H xs ss ∧ IsSy H x s ∧ ∀ H', Same H H' → Q (oI (partnerF ss s)) H'
abbrev nPartner : List Str := ["kept", "saying", "low", "high", "many", "turned", "lead", "k", "its_low", "its_high", "its_many", "its_turned", "its_lead", "shared"]
theorem scPartner : FnScope nPartner ["kept", "saying"] (defScope sPartner) := ⟨rfl, rfl, rfl, by decide +kernel, rfl, by decide +kernel, by decide +kernel⟩
theorem find_at {α : Type} {p : α → Bool} {l : List α} {i : Nat} (h : ∀ j < i, ∀ a, l[j]? = some a → p a = false) {a : α} (ha : l[i]? = some a) (hp : p a = true) : l.findIdx? p = some i := by
  obtain ⟨hi, e⟩ := List.getElem?_eq_some_iff.mp ha
  refine List.findIdx?_eq_some_iff_getElem.mpr ⟨hi, by rw [e]; exact hp, fun j hj => ?_⟩
  have := h j hj _ (List.getElem?_eq_getElem (Nat.lt_trans hj hi))
  rw [this]; decide
theorem find_none {α : Type} {p : α → Bool} {l : List α} (h : ∀ j < l.length, ∀ a, l[j]? = some a → p a = false) : l.findIdx? p = none := by
  refine List.findIdx?_eq_none_iff.mpr fun a ha => ?_
  obtain ⟨j, hj⟩ := List.mem_iff_getElem?.mp ha
  exact h j (List.getElem?_eq_some_iff.mp hj).1 a hj
section
variable {P : Program} {w : World} {K : PySem.W.Frag} {mg : Str → Option Value} {base : Heap}
theorem ok_partner {f : Addr} {fd : FuncData} {k : Nat} (F : Fun K "partner" "partner" sPartner f fd) (mm : mg "min" = none) (mM : mg "max" = none) (me : mg "enumerate" = none) : FnOk P w K mg base CX0 (k + 1) f fd ["kept", "saying"] (spPartner K) := by
  refine F.ok scPartner (fun vs H Q E h => ?_) (fun cdv A outer s H vs Q E hr h => ?_)
  · obtain ⟨a, xs, ss, x, s, rfl, _⟩ := h; rfl
  obtain ⟨a, xs, ss, x, u, rfl, hX, sl, ⟨tx, rfl, hx⟩, q⟩ := h
  refine ⟨_, (pss_cons (ps_asg (pv 1) (pg_tup rfl (pgs_cons (pg_name (i := 2) scPartner.nd rfl (.inl rfl)) (pgs_cons (pg_name (i := 3) scPartner.nd rfl (.inl rfl)) (pgs_cons (pg_name (i := 4) scPartner.nd rfl (.inl rfl)) (pgs_cons (pg_name (i := 5) scPartner.nd rfl (.inl rfl)) pgs_nil))))))
    (pss_cons (ps_if (pt_val (pv 5)) (pss_one (ps_ret pe_non)) pss_nil)
    (pss_cons (ps_set (i := 6) scPartner.nd rfl (.inl rfl) (pe_op op_sub (pv 3) (pv 2)))
    (pss_cons (ps_for PassesOwn.never rfl (pi_enum (by rfl) me (pa_cons (pv 0) pa_nil)) (pg_tup rfl (pgs_cons (pg_name (i := 7) scPartner.nd rfl (.inl rfl)) (pgs_cons (pg_tup rfl (pgs_cons (pg_name (i := 8) scPartner.nd rfl (.inl rfl)) (pgs_cons (pg_name (i := 9) scPartner.nd rfl (.inl rfl)) (pgs_cons (pg_name (i := 10) scPartner.nd rfl (.inl rfl)) (pgs_cons (pg_name (i := 11) scPartner.nd rfl (.inl rfl)) pgs_nil))))) pgs_nil)))
      (pss_cons (ps_set (i := 12) scPartner.nd rfl (.inl rfl) (pe_op op_sub (pv 9) (pv 8)))
    (pss_cons (ps_if (PW.pt (pw_or (pt_val (pv 11)) (pw_or (pt_cmpR op_lt (pv 4) (pv 12) (nomark _)) (pw_or1 (pt_cmpR op_lt (pv 10) (pv 6) (nomark _)))))) (pss_one ps_continue) pss_nil)
    (pss_cons (ps_set (i := 13) scPartner.nd rfl (.inl rfl) (pe_op op_sub (pe_callB (call_min2 rfl) (by rfl) mm (by decide +kernel) (pa_cons (pe_op op_add (pv 3) (pv 4)) (pa_cons (pe_op op_add (pv 9) (pv 10)) pa_nil))) (pe_callB (call_max2 rfl) (by rfl) mM (by decide +kernel) (pa_cons (pv 2) (pa_cons (pv 8) pa_nil)))))
    (pss_one (ps_if (pt_cmpR op_ge (pv 13) (pe_op op_add (pv 6) (pv 12)) (nomark _)) (pss_one (ps_ret (pv 7))) pss_nil))))))
    (pss_one (ps_ret pe_non)))))), ?_⟩
  refine ⟨.ref tx, rfl, tx, [.int u.lo, .int u.hi, .int u.n, .bl u.t], rfl, .inl (.inl hx), rfl, _, _, rfl, _, _, rfl, _, _, rfl, _, _, rfl, rfl, ?_⟩
  refine ⟨.bl u.t, rfl, u.t, rfl, ite2 (fun c => ?_) (fun c => ?_)⟩
  · have e : partnerF ss u = none := if_pos c
    rw [e] at q
    exact q H (Same.refl H)
  · have e : partnerF ss u = ss.findIdx? (fits u) := if_neg c
    rw [e] at q
    refine ⟨.int u.hi, rfl, .int u.lo, rfl, _, _, rfl, rfl, ?_⟩
    refine ⟨.ref a, rfl, a, xs, rfl, hX, ?_⟩
    refine for_it (walk_enum (K := K) (a := a) (xs := xs)) (fun i σ H3 => ∃ y6 y7 y8 y9 y10 y11 y12, σ = [some (.ref a), some (.ref tx), some (.int u.lo), some (.int u.hi), some (.int u.n), some (.bl u.t), some (.int (u.hi - u.lo)), y6, y7, y8, y9, y10, y11, y12] ∧ Same H H3 ∧ ∀ j < i, ∀ o, ss[j]? = some o → fits u o = false)
      ⟨none, none, none, none, none, none, none, rfl, Same.refl H, fun j hj => absurd hj (Nat.not_lt_zero _)⟩ (fun i σ H3 _ hP => ?_) (fun i v σ H3 H4 hi hP hy => ?_) (fun σ H3 hP => ?_)
    · obtain ⟨_, _, _, _, _, _, _, _, sm, _⟩ := hP
      exact sm.seq hX
    · obtain ⟨y6, y7, y8, y9, y10, y11, y12, rfl, sm, no⟩ := hP
      obtain ⟨T, v1, v2, rfl, nT, rfl, g1, g2⟩ := hy
      cases g1
      obtain ⟨o, ho, to, rfl, hto⟩ := sl.get g2
      have sT := same_upd (o := .tup [.int ((i : Nat) : Int), .ref to]) nT
      have hto4 := sT _ _ (sm _ _ hto)
      refine ⟨T, [.int ((i : Nat) : Int), .ref to], rfl, .inl (.inl upd_same), rfl, _, _, rfl, _, _, rfl, ?_⟩
      refine ⟨to, [.int o.lo, .int o.hi, .int o.n, .bl o.t], rfl, .inl (.inl hto4), rfl, _, _, rfl, _, _, rfl, _, _, rfl, _, _, rfl, rfl, rfl, ?_⟩
      refine ⟨.int o.hi, rfl, .int o.lo, rfl, _, _, rfl, rfl, ?_⟩
      have sm4 := sm.trans sT
      have goOn : fits u o = false → ∀ j < i + 1, ∀ o', ss[j]? = some o' → fits u o' = false := fun hf j hj o' ho' => by
        by_cases ej : j = i
        · subst ej; rw [ho] at ho'; cases ho'; exact hf
        · exact no j (by omega) o' ho'
      have e1 : (if o.hi + o.n < u.hi + u.n then o.hi + o.n else u.hi + u.n) - (if o.lo > u.lo then o.lo else u.lo) = shared u o := by
        unfold shared; split <;> split <;> omega
      refine ⟨.bl o.t, rfl, o.t, rfl, ?_⟩
      cases ct : o.t with
      | true =>
        refine iteT ?_
        refine iteT ?_
        exact ⟨_, _, _, _, _, _, _, rfl, sm4, goOn (by unfold fits; rw [ct]; rfl)⟩
      | false =>
        refine iteF ?_
        refine ⟨.int u.n, rfl, .int (o.hi - o.lo), rfl, _, _, rfl, rfl, _, rfl, ite2 (fun d => ?_) (fun d => ?_)⟩
        · have d1 : u.n < o.hi - o.lo := of_decide_eq_true d
          refine iteT ?_
          refine ⟨_, _, _, _, _, _, _, rfl, sm4, goOn ?_⟩
          unfold fits
          rw [decide_eq_false (by unfold shared lead; omega), Bool.and_false]
        · refine ⟨.int o.n, rfl, .int (u.hi - u.lo), rfl, _, _, rfl, rfl, _, rfl, ite2 (fun d2 => ?_) (fun d2 => ?_)⟩
          · have d1 : o.n < u.hi - u.lo := of_decide_eq_true d2
            refine ⟨_, _, _, _, _, _, _, rfl, sm4, goOn ?_⟩
            unfold fits
            rw [decide_eq_false (by unfold shared lead; omega), Bool.and_false]
          · refine ⟨.int u.hi, rfl, .int u.n, rfl, _, _, rfl, rfl, .int o.hi, rfl, .int o.n, rfl, _, _, rfl, rfl, u.hi + u.n, o.hi + o.n, rfl, .int u.lo, rfl, .int o.lo, rfl, u.lo, o.lo, rfl, _, _, rfl, rfl, ?_⟩
            show gName 13 (.int ((if o.hi + o.n < u.hi + u.n then o.hi + o.n else u.hi + u.n) - (if o.lo > u.lo then o.lo else u.lo))) _ _ _
            rw [e1]
            refine ⟨.int (shared u o), rfl, .int (u.hi - u.lo), rfl, .int (o.hi - o.lo), rfl, _, _, rfl, rfl, _, _, rfl, rfl, _, rfl, ite2 (fun d => ?_) (fun d => ?_)⟩
            · have d1 : u.hi - u.lo + (o.hi - o.lo) ≤ shared u o := of_decide_eq_true d
              have hf : fits u o = true := by
                unfold fits lead
                rw [ct]
                exact decide_eq_true d1
              rw [find_at no ho hf] at q
              exact ⟨_, rfl, q _ sm4⟩
            · have d1 : ¬ u.hi - u.lo + (o.hi - o.lo) ≤ shared u o := fun e => d (decide_eq_true e)
              refine ⟨_, _, _, _, _, _, _, rfl, sm4, goOn ?_⟩
              unfold fits lead
              rw [ct]
              exact decide_eq_false d1
    · obtain ⟨y6, y7, y8, y9, y10, y11, y12, rfl, sm, no⟩ := hP
      rw [sl.len] at no
      rw [find_none no] at q
      exact q H3 sm
end
end Rep
namespace Rep
open PySem L2
def spTaken (K : PySem.W.Frag) : Sp := fun vs H Q _ => ∃ (a b : Addr) (xs ys : List V) (ks fs : List Sy) (e : Int), vs = [.ref a, .ref b] ∧ SqL K H a xs ∧ SL H xs ks ∧ SqL K H b ys ∧ SL H ys fs ∧ (∀ s ∈ ks, Ok e s) ∧ (∀ s ∈ fs, Ok e s) ∧ ks.length + fs.length ≤ 100000 ∧
  ∀ H' o zs, Same H H' → H o = none → H' o = some (.lst zs) → SL H' zs (takenF (2 * fs.length + ks.length) ks fs.reverse) → Q (.ref o) H'
abbrev nTaken : List Str := ["kept", "fresh", "out", "waiting", "saying", "k"]
theorem scTaken : FnScope nTaken ["kept", "fresh"] (defScope sTaken_in) := ⟨rfl, rfl, rfl, by decide +kernel, rfl, by decide +kernel, by decide +kernel⟩
theorem seq_nat {n j : Nat} (h : j < n) : seqIndex? (j : Int) n = some j := by
  have : ixN n (j : Int) = some j := by
    unfold ixN
    rw [if_pos (by omega), if_pos (by omega)]
    rfl
  exact (ixN_seq this).1
theorem Ok.lead_pos {e : Int} {s : Sy} (h : Ok e s) : 0 < lead s := by have := h.lt; unfold lead; omega
section
variable {P : Program} {w : World} {K : PySem.W.Frag} {mg : Str → Option Value} {base : Heap}
theorem ok_taken {f fP fJ : Addr} {fd fdP fdJ : FuncData} {k : Nat} (F : Fun K "taken_in" "taken_in" sTaken_in f fd) (GP : FnOk P w K mg base CX0 k fP fdP ["kept", "saying"] (spPartner K)) (kP : PySem.W.keepIn K (.ref fP) = true) (bP : Binds K fdP ["kept", "saying"] []) (mP_ : mg "partner" = some (.ref fP))
    (GJ : FnOk P w K mg base CX0 k fJ fdJ ["saying", "other"] spJoined) (kJ : PySem.W.keepIn K (.ref fJ) = true) (bJ : Binds K fdJ ["saying", "other"] []) (mJ_ : mg "joined" = some (.ref fJ)) (mL : mg "list" = none) : FnOk P w K mg base CX0 (k + 1) f fd ["kept", "fresh"] (spTaken K) := by
  refine F.ok scTaken (fun vs H Q E h => ?_) (fun cdv A outer s H vs Q E hr h => ?_)
  · obtain ⟨a, b, xs, ys, ks, fs, e, rfl, _⟩ := h; rfl
  obtain ⟨a, b, xs, ys, ks, fs, e, rfl, hX, slX, hY, slY, okK, okF, hlen, q⟩ := h
  refine ⟨_, (pss_cons (ps_set (i := 2) scTaken.nd rfl (.inl rfl) (pe_callTy call_list_of (by rfl) mL PyProof.Rows.boot_list (pa_cons (pv 0) pa_nil)))
    (pss_cons (ps_set (i := 3) scTaken.nd rfl (.inl rfl) (pe_callTy call_list_of (by rfl) mL PyProof.Rows.boot_list (pa_cons (pv 1) pa_nil)))
    (pss_cons (ps_while PassesOwn.never (pt_truth (pv 3) (by intro _; rfl))
      (pss_cons (ps_set (i := 4) scTaken.nd rfl (.inl rfl) (pe_bm0 PySem.F.plainAttrs_list PySem.F.slot_list_pop PySem.F.type_list_pop mt_pop (pv 3)))
    (pss_cons (ps_set (i := 5) scTaken.nd rfl (.inl rfl) (pe_call GP hr (by rfl) mP_ kP bP .nil pass0 (pa_cons (pv 2) (pa_cons (pv 4) pa_nil))))
    (pss_one (ps_if (pt_cmpR op_isN (pv 5) pe_non (nomark _)) (pss_one (ps_expr (pe_bm PySem.F.plainAttrs_list PySem.F.slot_list_append PySem.F.type_list_append mt_append (pv 2) (pa_cons (pv 4) pa_nil)))) (pss_one (ps_expr (pe_bm PySem.F.plainAttrs_list PySem.F.slot_list_append PySem.F.type_list_append mt_append (pv 3) (pa_cons (pe_call GJ hr (by rfl) mJ_ kJ bJ .nil pass0 (pa_cons (pe_bm PySem.F.plainAttrs_list PySem.F.slot_list_pop PySem.F.type_list_pop mt_popAt (pv 2) (pa_cons (pv 5) pa_nil)) (pa_cons (pv 4) pa_nil))) pa_nil)))))))))
    (pss_one (ps_ret (pv 2)))))), ?_⟩
  refine ⟨.ref a, rfl, a, xs, rfl, .inl hX, fun o no => ?_⟩
  have s1 := same_upd (o := .lst xs) no
  refine ⟨.ref b, rfl, b, ys, rfl, .inl (s1.seq hY), fun wA nw => ?_⟩
  have s2 := same_upd (o := .lst ys) nw
  have eo2 := s2 _ _ (upd_same (H := H) (a := o) (o := .lst xs))
  have now : wA ≠ o := fun z => by rw [z, upd_same] at nw; cases nw
  have nwH : H wA = none := Same.free s1 nw
  have F0 := 2 * fs.length + ks.length
  refine ⟨fun m σ H3 => ∃ (out w : List Sy) (ov wv : List V) (y4 y5 : Option V), σ = [some (.ref a), some (.ref b), some (.ref o), some (.ref wA), y4, y5] ∧ Same H H3 ∧ H3 o = some (.lst ov) ∧ SL H3 ov out ∧ H3 wA = some (.lst wv) ∧ SL H3 wv w.reverse ∧ takenF (2 * fs.length + ks.length) ks fs.reverse = takenF m out w ∧ 2 * w.length + out.length ≤ m ∧ (∀ s ∈ out, Ok e s) ∧ (∀ s ∈ w, Ok e s) ∧ out.length + w.length ≤ 100000,
    ⟨2 * fs.length + ks.length, ks, fs.reverse, xs, ys, none, none, rfl, s1.trans s2, eo2, SL.ts (TS.of (s1.trans s2)) slX, upd_same, by rw [List.reverse_reverse]; exact SL.ts (TS.of (s1.trans s2)) slY, rfl, by rw [List.length_reverse]; omega, okK, fun s hs => okF s (List.mem_reverse.mp hs), by rw [List.length_reverse]; exact hlen⟩, ?_⟩
  rintro m σ H3 ⟨out, w, ov, wv, y4, y5, rfl, sm, eo, slo, ew, slw, et, hm, oko, okw, hl⟩
  refine ⟨.ref wA, rfl, _, .inl ⟨wv, .inl (.inl ew), rfl⟩, ?_⟩
  cases w with
  | nil =>
    have ewv : wv = [] := by have := slw.len; simpa using this
    subst ewv
    refine iteF ?_
    refine ⟨.ref o, rfl, q H3 o ov sm no eo ?_⟩
    rw [et]
    cases m with
    | zero => exact slo
    | succ m => exact slo
  | cons u w =>
    rw [List.reverse_cons] at slw
    have hwl := slw.len
    rw [List.length_append, List.length_singleton, List.length_reverse] at hwl
    have hne : wv ≠ [] := fun z => by rw [z] at hwl; simp at hwl
    have hwe : wv.isEmpty = false := by cases wv with | nil => exact absurd rfl hne | cons _ _ => rfl
    rw [hwe]
    refine iteT ?_
    obtain ⟨m, rfl⟩ : ∃ m', m = m' + 1 := ⟨m - 1, by rw [List.length_cons] at hm; omega⟩
    rw [List.length_cons] at hm hl
    have hlast : wv[wv.length - 1]? = some wv[wv.length - 1] := List.getElem?_eq_getElem (by omega)
    obtain ⟨u', hu', hv⟩ := slw.get hlast
    have eu : u' = u := by
      rw [hwl, Nat.add_sub_cancel, List.getElem?_append_right (by rw [List.length_reverse]; exact Nat.le_refl _), List.length_reverse, Nat.sub_self] at hu'
      exact (Option.some.inj hu').symm
    subst eu
    have slw' : SL H3 wv.dropLast w.reverse := by
      have := slw.init
      rw [List.dropLast_concat] at this
      exact this
    refine ⟨fun σ' H' => ∃ (out w : List Sy) (ov wv : List V) (y4 y5 : Option V), σ' = [some (.ref a), some (.ref b), some (.ref o), some (.ref wA), y4, y5] ∧ Same H H' ∧ H' o = some (.lst ov) ∧ SL H' ov out ∧ H' wA = some (.lst wv) ∧ SL H' wv w.reverse ∧ takenF (2 * fs.length + ks.length) ks fs.reverse = takenF m out w ∧ 2 * w.length + out.length ≤ m ∧ (∀ s ∈ out, Ok e s) ∧ (∀ s ∈ w, Ok e s) ∧ out.length + w.length ≤ 100000, fun σ' H' hN => ⟨m, Nat.lt_succ_self m, hN⟩, ?_⟩
    -- saying = waiting.pop()
    refine ⟨.ref wA, rfl, .inl ⟨rfl, _, .inl (.inl ew)⟩, wA, wv, _, rfl, rfl, ew, hlast, ?_⟩
    have t4 : TS H3 (upd H3 wA (.lst wv.dropLast)) := TS.lst ew
    have sm4 : Same H (upd H3 wA (.lst wv.dropLast)) := same_over sm nwH
    have eo4 : upd H3 wA (.lst wv.dropLast) o = some (.lst ov) := by rw [upd_ne now.symm]; exact eo
    have slo4 := SL.ts t4 slo
    have hv4 := hv.ts t4
    have slw4 := SL.ts t4 slw'
    have ew4 : upd H3 wA (.lst wv.dropLast) wA = some (.lst wv.dropLast) := upd_same
    generalize upd H3 wA (.lst wv.dropLast) = H4 at *
    obtain ⟨x, hx⟩ : ∃ x, x = wv[wv.length - 1] := ⟨_, rfl⟩
    rw [← hx] at hv4 ⊢
    -- k = partner(out, saying)
    refine ⟨.ref o, rfl, x, rfl, o, ov, out, x, u', rfl, .inl (.inl eo4), slo4, hv4, fun H5 s5 => ?_⟩
    have eo5 := s5 _ _ eo4
    have ew5 := s5 _ _ ew4
    have slo5 := SL.ts (TS.of s5) slo4
    have slw5 := SL.ts (TS.of s5) slw4
    have hv5 := hv4.ts (TS.of s5)
    have sm5 := sm4.trans s5
    have et' : takenF (m + 1) out (u' :: w) = (match partnerF out u' with | none => takenF m (out ++ [u']) w | some k => match out[k]? with | none => out | some o => takenF m (out.eraseIdx k) (joinF o u' :: w)) := rfl
    rw [et'] at et
    cases hp : partnerF out u' with
    | none =>
      rw [hp] at et
      refine ⟨.non, rfl, rfl, _, rfl, ?_⟩
      refine iteT ?_
      refine ⟨.ref o, rfl, .inl ⟨rfl, _, .inl (.inl eo5)⟩, x, rfl, o, ov, x, rfl, rfl, eo5, ?_, ?_⟩
      · rw [slo5.len]; exact Nat.lt_of_le_of_lt (show out.length ≤ 100000 by omega) (by decide)
      · refine ⟨out ++ [u'], w, ov ++ [x], wv.dropLast, some x, some .non, rfl, same_over sm5 no, upd_same, SL.ts (TS.lst eo5) (slo5.snoc hv5), ?_, SL.ts (TS.lst eo5) slw5, et, ?_, fun s hs => ?_, fun s hs => okw s (List.mem_cons_of_mem _ hs), ?_⟩
        · rw [upd_ne now]; exact ew5
        · rw [List.length_append, List.length_singleton]; omega
        · rcases List.mem_append.mp hs with hs | hs
          · exact oko s hs
          · rw [List.mem_singleton.mp hs]; exact okw u' List.mem_cons_self
        · rw [List.length_append, List.length_singleton]; omega
    | some k' =>
      rw [hp] at et
      obtain ⟨_, oo, hk, _, _⟩ := partner_some hp
      simp only [hk] at et
      have hkl : k' < out.length := (List.getElem?_eq_some_iff.mp hk).1
      obtain ⟨vo, hvo, isvo⟩ := slo5.get' hk
      refine ⟨.int (k' : Int), rfl, rfl, _, rfl, ?_⟩
      refine iteF ?_
      refine ⟨.ref wA, rfl, .inl ⟨rfl, _, .inl (.inl ew5)⟩, .ref o, rfl, .inl ⟨rfl, _, .inl (.inl eo5)⟩, .int (k' : Int), rfl, o, ov, (k' : Int), k', vo, rfl, rfl, eo5, by omega, by omega, ?_, hvo, ?_⟩
      · rw [slo5.len]; exact seq_nat hkl
      have t6 : TS H5 (upd H5 o (.lst (ov.eraseIdx k'))) := TS.lst eo5
      have ew6 : upd H5 o (.lst (ov.eraseIdx k')) wA = some (.lst wv.dropLast) := by rw [upd_ne now]; exact ew5
      refine ⟨x, rfl, vo, x, oo, u', rfl, isvo.ts t6, hv5.ts t6, (oko oo (List.mem_of_getElem? hk)).lead_pos, (okw u' List.mem_cons_self).lead_pos, fun H7 vj s7 hj => ?_⟩
      have ew7 := s7 _ _ ew6
      have eo7 := s7 _ _ (upd_same (H := H5) (a := o) (o := .lst (ov.eraseIdx k')))
      have t7 := t6.trans (TS.of s7)
      refine ⟨wA, wv.dropLast, vj, rfl, rfl, ew7, ?_, ?_⟩
      · rw [slw5.len, List.length_reverse]; exact Nat.lt_of_le_of_lt (show w.length ≤ 100000 by omega) (by decide)
      · obtain ⟨ts, o2, hk2, to, hsh⟩ := partner_some hp
        rw [hk] at hk2
        cases hk2
        have hoo := oko oo (List.mem_of_getElem? hk)
        have huu := okw u' List.mem_cons_self
        have hle : (out.eraseIdx k').length = out.length - 1 := by rw [List.length_eraseIdx, if_pos hkl]
        refine ⟨out.eraseIdx k', joinF oo u' :: w, ov.eraseIdx k', wv.dropLast ++ [vj], some x, some (.int (k' : Int)), rfl, same_over ((same_over sm5 no).trans s7) nwH, ?_, SL.ts (t7.trans (TS.lst ew7)) (slo5.erase k'), upd_same, ?_, et, ?_, fun s hs => oko s ((mem_erase hk s).mpr (.inr hs)), fun s hs => ?_, ?_⟩
        · rw [upd_ne now.symm]; exact eo7
        · rw [List.reverse_cons]
          exact SL.ts (TS.lst ew7) ((SL.ts t7 slw5).snoc hj)
        · rw [List.length_cons, hle]; omega
        · rcases List.mem_cons.mp hs with rfl | hs
          · exact join_ok hoo huu (by rw [shared_comm]; omega)
          · exact okw s (List.mem_cons_of_mem _ hs)
        · rw [List.length_cons, hle]; omega
end
/-! greatest_end -/
theorem maxI_gE (ss : List Sy) (h : ∀ s ∈ ss, 0 ≤ s.hi + s.n) : maxI (ss.map fun s => s.hi + s.n) 0 = gE ss := by
  cases ss with
  | nil => rfl
  | cons s r =>
    show (r.map fun s => s.hi + s.n).foldl max (s.hi + s.n) = r.foldl (fun a s => max a (s.hi + s.n)) (max 0 (s.hi + s.n))
    have h0 := h s List.mem_cons_self
    rw [List.foldl_map, show max 0 (s.hi + s.n) = s.hi + s.n by omega]
def spGend (K : PySem.W.Frag) : Sp := fun vs H Q _ => ∃ (a : Addr) (xs : List V) (ss : List Sy), vs = [.ref a] ∧ SqL K H a xs ∧ SL H xs ss ∧ ss.length ≤ 100000 ∧ (∀ s ∈ ss, 0 ≤ s.hi + s.n) ∧ ∀ H', Same H H' → Q (.int (gE ss)) H'
abbrev nGend : List Str := ["kept", "low", "high", "many", "turned"]
theorem scGend : FnScope nGend ["kept"] (defScope sGreatest_end) := ⟨rfl, rfl, rfl, by decide +kernel, rfl, by decide +kernel, by decide +kernel⟩
section
variable {P : Program} {w : World} {K : PySem.W.Frag} {mg : Str → Option Value} {base : Heap}
theorem ok_gend {f : Addr} {fd : FuncData} {k : Nat} (F : Fun K "greatest_end" "greatest_end" sGreatest_end f fd) (mM : mg "max" = none) : FnOk P w K mg base CX0 (k + 1) f fd ["kept"] (spGend K) := by
  refine F.ok scGend (fun vs H Q E h => ?_) (fun cdv A outer s H vs Q E hr h => ?_)
  · obtain ⟨a, xs, ss, rfl, _⟩ := h; rfl
  obtain ⟨a, xs, ss, rfl, hX, sl, hl, h0, q⟩ := h
  refine ⟨_, (pss_one (ps_ret (pe_callBK (cr_maxD rfl hr.units) (by rfl) mM (by decide +kernel) (pa_cons (pe_lc (own := [("low", 1), ("high", 2), ("many", 3), ("turned", 4)]) (g := (gTup K 4 (gCons (gName 1) (gCons (gName 2) (gCons (gName 3) (gCons (gName 4) gNil)))))) (tt := tYes) rfl scGend.nd (pi_list (pv 0)) (blkOk_by (N := nGend) (sc := defScope sGreatest_end) (by decide +kernel)) (fun _ _ _ _ _ => (pg_tup rfl (pgs_cons (pg_name (i := 1) scGend.nd rfl (.inl rfl)) (pgs_cons (pg_name (i := 2) scGend.nd rfl (.inl rfl)) (pgs_cons (pg_name (i := 3) scGend.nd rfl (.inl rfl)) (pgs_cons (pg_name (i := 4) scGend.nd rfl (.inl rfl)) pgs_nil)))))) (fun _ _ _ _ _ => pts_nil) (fun _ _ _ _ _ => (pe_op op_add (pv 2) (pv 3)))) pa_nil) (pk_cons pe_int pk_nil)))), ?_⟩
  refine ⟨.ref a, rfl, a, rfl, ⟨_, hX⟩, fun D nD => ?_⟩
  refine lc_list (xs := xs) (fun i H5 => Same H H5 ∧ H5 D = some (.lst (((ss.take i).map fun s => s.hi + s.n).map V.int))) ⟨same_upd nD, upd_same⟩ (fun i H5 _ hP => hP.1.seq hX) (fun i v H5 hv hP => ?_) (fun H5 hP => ?_)
  · obtain ⟨sm, eD⟩ := hP
    obtain ⟨u, hu, t, rfl, ht⟩ := sl.get hv
    have hi : i < ss.length := (List.getElem?_eq_some_iff.mp hu).1
    refine ⟨t, [.int u.lo, .int u.hi, .int u.n, .bl u.t], rfl, .inl (.inl (sm _ _ ht)), rfl, _, _, rfl, _, _, rfl, _, _, rfl, _, _, rfl, rfl, rfl, ?_⟩
    refine tYes_ok ?_
    refine iteT ?_
    refine ⟨.int u.hi, rfl, .int u.n, rfl, _, _, rfl, rfl, _, eD, ?_, same_over sm nD, ?_⟩
    · rw [List.length_map, List.length_map, List.length_take]
      exact Nat.lt_of_le_of_lt (show _ ≤ 100000 by omega) (by decide)
    · rw [upd_same, List.take_add_one, hu, List.map_append, List.map_append]
      rfl
  · obtain ⟨sm, eD⟩ := hP
    rw [sl.len, List.take_length] at eD
    refine ⟨D, _, 0, rfl, rfl, .inl (.inl eD), ?_⟩
    rw [maxI_gE ss h0]
    exact q H5 sm
end
end Rep
namespace Rep
open PySem L2
/-- within the numbers of a song -/
def Big (x : Int) : Prop := -(10 ^ 45) < x ∧ x < 10 ^ 45
theorem big_abs {x : Int} (h : Big x) : x.natAbs < 2 ^ 200 := by
  obtain ⟨h1, h2⟩ := h
  have : (10 : Int) ^ 45 < 2 ^ 200 := by decide
  have e : ((2 ^ 200 : Nat) : Int) = 2 ^ 200 := by decide +kernel
  omega
def spCstart : Sp := fun vs H Q _ => ∃ (x : V) (l : Sy) (st n : Int), vs = [x, .int st, .int n] ∧ IsSy H x l ∧ (l.t = false → l.lo < l.hi ∧ l.hi ≤ st ∧ Big (l.hi - l.lo) ∧ Big (st - l.hi + 1)) ∧ Q (.int (cstart l st n)) H
abbrev nCstart : List Str := ["leader", "start", "many", "low", "high", "size", "turned", "lead"]
theorem scCstart : FnScope nCstart ["leader", "start", "many"] (defScope sCarried_start) := ⟨rfl, rfl, rfl, by decide +kernel, rfl, by decide +kernel, by decide +kernel⟩
section
variable {P : Program} {w : World} {K : PySem.W.Frag} {mg : Str → Option Value} {base : Heap}
theorem ok_cstart {f : Addr} {fd : FuncData} {k : Nat} (F : Fun K "carried_start" "carried_start" sCarried_start f fd) : FnOk P w K mg base CX0 (k + 1) f fd ["leader", "start", "many"] spCstart := by
  refine F.ok scCstart (fun vs H Q E h => ?_) (fun cdv A outer s H vs Q E hr h => ?_)
  · obtain ⟨x, l, st, n, rfl, _⟩ := h; rfl
  obtain ⟨x, l, st, n, rfl, ⟨t, rfl, ht⟩, hb, q⟩ := h
  refine ⟨_, (pss_cons (ps_asg (pv 0) (pg_tup rfl (pgs_cons (pg_name (i := 3) scCstart.nd rfl (.inl rfl)) (pgs_cons (pg_name (i := 4) scCstart.nd rfl (.inl rfl)) (pgs_cons (pg_name (i := 5) scCstart.nd rfl (.inl rfl)) (pgs_cons (pg_name (i := 6) scCstart.nd rfl (.inl rfl)) pgs_nil))))))
    (pss_cons (ps_if (pt_val (pv 6)) (pss_one (ps_ret (pe_op op_sub (pe_op op_sub (pe_op op_add (pe_op op_add (pv 3) (pv 4)) (pv 5)) (pv 1)) (pv 2)))) pss_nil)
    (pss_cons (ps_set (i := 7) scCstart.nd rfl (.inl rfl) (pe_op op_sub (pv 4) (pv 3)))
    (pss_one (ps_ret (pe_op op_sub (pv 1) (pe_op op_mulW (pe_op op_add (pe_op op_fdivW (pe_op op_sub (pv 1) (pv 4)) (pv 7)) pe_int) (pv 7)))))))), ?_⟩
  refine ⟨.ref t, rfl, t, [.int l.lo, .int l.hi, .int l.n, .bl l.t], rfl, .inl (.inl ht), rfl, _, _, rfl, _, _, rfl, _, _, rfl, _, _, rfl, rfl, ?_⟩
  refine ⟨.bl l.t, rfl, l.t, rfl, ite2 (fun c => ?_) (fun c => ?_)⟩
  · refine ⟨.int l.lo, rfl, .int l.hi, rfl, _, _, rfl, rfl, .int l.n, rfl, _, _, rfl, rfl, .int st, rfl, _, _, rfl, rfl, .int n, rfl, _, _, rfl, rfl, ?_⟩
    have e : cstart l st n = l.lo + l.hi + l.n - st - n := if_pos c
    rw [e] at q
    exact q
  · have c' : l.t = false := by cases e : l.t with | false => rfl | true => exact absurd e c
    obtain ⟨h1, h2, h3, h4⟩ := hb c'
    have e : cstart l st n = st - ((st - l.hi) / (l.hi - l.lo) + 1) * (l.hi - l.lo) := if_neg c
    rw [e] at q
    have hd : 0 < l.hi - l.lo := by omega
    have q0 : 0 ≤ (st - l.hi) / (l.hi - l.lo) := Int.ediv_nonneg (by omega) (by omega)
    have q1 : (st - l.hi) / (l.hi - l.lo) ≤ st - l.hi := Int.ediv_le_self _ (by omega)
    refine ⟨.int l.hi, rfl, .int l.lo, rfl, _, _, rfl, rfl, ?_⟩
    refine ⟨.int st, rfl, .int st, rfl, .int l.hi, rfl, _, _, rfl, rfl, .int (l.hi - l.lo), rfl, _, _, rfl, rfl, wide_div hd (big_abs h3) (by decide) (by decide), _, 1, rfl, rfl, .int (l.hi - l.lo), rfl, _, _, rfl, rfl, wide_mul (a := 200) (b := 200) (big_abs ⟨by have := h4.1; omega, by have := h4.2; omega⟩) (big_abs h3) (by decide) (by decide) (by decide), _, _, rfl, rfl, ?_⟩
    exact q
end
theorem ne_xor (a b : Bool) : (!decide (V.bl a = V.bl b)) = (a ^^ b) := by cases a <;> cases b <;> rfl
def spCarried : Sp := fun vs H Q _ => ∃ (x y : V) (l s : Sy), vs = [x, y] ∧ IsSy H x l ∧ IsSy H y s ∧ l.lo < l.hi ∧ Big (l.hi - l.lo) ∧ (l.hi ≤ s.lo → Big (s.lo - l.hi + 1)) ∧ (l.hi ≤ s.hi → Big (s.hi - l.hi + 1)) ∧ ∀ H' v, Same H H' → IsSy H' v (ofQ (carryF l s)) → Q v H'
abbrev nCarried : List Str := ["leader", "saying", "one", "other", "many", "turned"]
theorem scCarried : FnScope nCarried ["leader", "saying"] (defScope sCarried) := ⟨rfl, rfl, rfl, by decide +kernel, rfl, by decide +kernel, by decide +kernel⟩
section
variable {P : Program} {w : World} {K : PySem.W.Frag} {mg : Str → Option Value} {base : Heap}
theorem ok_carried {f fK : Addr} {fd fdK : FuncData} {k : Nat} (F : Fun K "carried" "carried" sCarried f fd) (GK : FnOk P w K mg base CX0 k fK fdK ["leader", "start", "many"] spCstart) (kK : PySem.W.keepIn K (.ref fK) = true) (bK : Binds K fdK ["leader", "start", "many"] []) (mK_ : mg "carried_start" = some (.ref fK)) : FnOk P w K mg base CX0 (k + 1) f fd ["leader", "saying"] spCarried := by
  refine F.ok scCarried (fun vs H Q E h => ?_) (fun cdv A outer s H vs Q E hr h => ?_)
  · obtain ⟨x, y, l, s, rfl, _⟩ := h; rfl
  obtain ⟨x, y, l, u, rfl, ⟨tx, rfl, hx⟩, ⟨ty, rfl, hy⟩, hlt, hB, h1, h2, q⟩ := h
  refine ⟨_, (pss_cons (ps_asg (pv 1) (pg_tup rfl (pgs_cons (pg_name (i := 2) scCarried.nd rfl (.inl rfl)) (pgs_cons (pg_name (i := 3) scCarried.nd rfl (.inl rfl)) (pgs_cons (pg_name (i := 4) scCarried.nd rfl (.inl rfl)) (pgs_cons (pg_name (i := 5) scCarried.nd rfl (.inl rfl)) pgs_nil))))))
    (C8.pss_cut (ps_if (pt_cmpR op_ge (pv 2) (pe_ix ix_tup (pv 0) pe_int (fun _ _ => rfl)) (nomark _)) (pss_cons (ps_set (i := 2) scCarried.nd rfl (.inl rfl) (pe_call GK hr (by rfl) mK_ kK bK .nil pass0 (pa_cons (pv 0) (pa_cons (pv 2) (pa_cons (pv 4) pa_nil)))))
    (pss_one (ps_set (i := 5) scCarried.nd rfl (.inl rfl) (pe_cmpR op_ne (pv 5) (pe_ix ix_tup (pv 0) pe_int (fun _ _ => rfl)) (nomark _))))) pss_nil)
    (C8.pss_cut (ps_if (pt_cmpR op_ge (pv 3) (pe_ix ix_tup (pv 0) pe_int (fun _ _ => rfl)) (nomark _)) (pss_cons (ps_set (i := 3) scCarried.nd rfl (.inl rfl) (pe_call GK hr (by rfl) mK_ kK bK .nil pass0 (pa_cons (pv 0) (pa_cons (pv 3) (pa_cons (pv 4) pa_nil)))))
    (pss_one (ps_set (i := 5) scCarried.nd rfl (.inl rfl) (pe_cmpR op_ne (pv 5) (pe_ix ix_tup (pv 0) pe_int (fun _ _ => rfl)) (nomark _))))) pss_nil)
    (pss_one (ps_ret (pe_tup (pa_cons (pv 2) (pa_cons (pv 3) (pa_cons (pv 4) (pa_cons (pv 5) pa_nil)))))))))), ?_⟩
  refine ⟨.ref ty, rfl, ty, [.int u.lo, .int u.hi, .int u.n, .bl u.t], rfl, .inl (.inl hy), rfl, _, _, rfl, _, _, rfl, _, _, rfl, _, _, rfl, rfl, ?_⟩
  refine ⟨fun σ' H' => σ' = [some (.ref tx), some (.ref ty), some (.int (if l.hi ≤ u.lo then cstart l u.lo u.n else u.lo)), some (.int u.hi), some (.int u.n), some (.bl (u.t ^^ (decide (l.hi ≤ u.lo) && l.t)))] ∧ H' = H, ?_, ?_⟩
  · refine ⟨.int u.lo, rfl, .ref tx, rfl, tx, _, 1, .int l.hi, rfl, rfl, .inl (.inl hx), rfl, _, _, rfl, rfl, _, rfl, ite2 (fun c => ?_) (fun c => ?_)⟩
    · have c1 : l.hi ≤ u.lo := of_decide_eq_true c
      refine ⟨.ref tx, rfl, .int u.lo, rfl, .int u.n, rfl, .ref tx, l, u.lo, u.n, rfl, ⟨tx, rfl, hx⟩, fun _ => ⟨hlt, c1, hB, h1 c1⟩, ?_⟩
      refine ⟨.bl u.t, rfl, .ref tx, rfl, tx, _, 3, .bl l.t, rfl, rfl, .inl (.inl hx), rfl, rfl, ?_⟩
      refine ⟨?_, rfl⟩
      rw [if_pos c1, decide_eq_true c1, ne_xor]
      rfl
    · have c1 : ¬ l.hi ≤ u.lo := fun e => c (decide_eq_true e)
      refine ⟨?_, rfl⟩
      rw [if_neg c1, decide_eq_false c1]
      cases u.t <;> rfl
  rintro σ' H' ⟨rfl, rfl⟩
  generalize he1 : (if l.hi ≤ u.lo then cstart l u.lo u.n else u.lo) = o1
  generalize he2 : (u.t ^^ (decide (l.hi ≤ u.lo) && l.t)) = t1
  refine ⟨fun σ' H2 => σ' = [some (.ref tx), some (.ref ty), some (.int o1), some (.int (if l.hi ≤ u.hi then cstart l u.hi u.n else u.hi)), some (.int u.n), some (.bl (t1 ^^ (decide (l.hi ≤ u.hi) && l.t)))] ∧ H2 = H', ?_, ?_⟩
  · refine ⟨.int u.hi, rfl, .ref tx, rfl, tx, _, 1, .int l.hi, rfl, rfl, .inl (.inl hx), rfl, _, _, rfl, rfl, _, rfl, ite2 (fun c => ?_) (fun c => ?_)⟩
    · have c1 : l.hi ≤ u.hi := of_decide_eq_true c
      refine ⟨.ref tx, rfl, .int u.hi, rfl, .int u.n, rfl, .ref tx, l, u.hi, u.n, rfl, ⟨tx, rfl, hx⟩, fun _ => ⟨hlt, c1, hB, h2 c1⟩, ?_⟩
      refine ⟨.bl t1, rfl, .ref tx, rfl, tx, _, 3, .bl l.t, rfl, rfl, .inl (.inl hx), rfl, rfl, ?_⟩
      refine ⟨?_, rfl⟩
      rw [if_pos c1, decide_eq_true c1, ne_xor]
      rfl
    · have c1 : ¬ l.hi ≤ u.hi := fun e => c (decide_eq_true e)
      refine ⟨?_, rfl⟩
      rw [if_neg c1, decide_eq_false c1]
      cases t1 <;> rfl
  rintro σ' H2 ⟨rfl, rfl⟩
  refine ⟨.int o1, rfl, .int _, rfl, .int u.n, rfl, .bl _, rfl, (by show 4 ≤ sizeLine; decide), fun p np => ?_⟩
  refine q _ _ (same_upd np) (IsSy.of ?_)
  rw [upd_same]
  subst he1 he2
  rfl
end
def spShort : Sp := fun vs H Q _ => ∃ (x : V) (l : Sy) (e : Int), vs = [x, .int e] ∧ IsSy H x l ∧ ∀ H' v, Same H H' → IsSy H' v (ofQ (shortF l e)) → Q v H'
abbrev nShort : List Str := ["leader", "end", "low", "high", "many", "turned", "gone"]
theorem scShort : FnScope nShort ["leader", "end"] (defScope sShortened) := ⟨rfl, rfl, rfl, by decide +kernel, rfl, by decide +kernel, by decide +kernel⟩
section
variable {P : Program} {w : World} {K : PySem.W.Frag} {mg : Str → Option Value} {base : Heap}
theorem ok_short {f : Addr} {fd : FuncData} {k : Nat} (F : Fun K "shortened" "shortened" sShortened f fd) : FnOk P w K mg base CX0 (k + 1) f fd ["leader", "end"] spShort := by
  refine F.ok scShort (fun vs H Q E h => ?_) (fun cdv A outer s H vs Q E hr h => ?_)
  · obtain ⟨x, l, e, rfl, _⟩ := h; rfl
  obtain ⟨x, l, e, rfl, ⟨t, rfl, ht⟩, q⟩ := h
  refine ⟨_, (pss_cons (ps_asg (pv 0) (pg_tup rfl (pgs_cons (pg_name (i := 2) scShort.nd rfl (.inl rfl)) (pgs_cons (pg_name (i := 3) scShort.nd rfl (.inl rfl)) (pgs_cons (pg_name (i := 4) scShort.nd rfl (.inl rfl)) (pgs_cons (pg_name (i := 5) scShort.nd rfl (.inl rfl)) pgs_nil))))))
    (pss_cons (ps_set (i := 6) scShort.nd rfl (.inl rfl) (pe_op op_sub (pe_op op_add (pv 3) (pv 4)) (pv 1)))
    (pss_cons (ps_if (pt_val (pv 5)) (pss_one (ps_ret (pe_tup (pa_cons (pe_op op_add (pv 2) (pv 6)) (pa_cons (pv 3) (pa_cons (pe_op op_sub (pv 4) (pv 6)) (pa_cons pe_bl pa_nil))))))) pss_nil)
    (pss_one (ps_ret (pe_tup (pa_cons (pv 2) (pa_cons (pv 3) (pa_cons (pe_op op_sub (pv 4) (pv 6)) (pa_cons pe_bl pa_nil)))))))))), ?_⟩
  refine ⟨.ref t, rfl, t, [.int l.lo, .int l.hi, .int l.n, .bl l.t], rfl, .inl (.inl ht), rfl, _, _, rfl, _, _, rfl, _, _, rfl, _, _, rfl, rfl, ?_⟩
  refine ⟨.int l.hi, rfl, .int l.n, rfl, _, _, rfl, rfl, .int e, rfl, _, _, rfl, rfl, ?_⟩
  refine ⟨.bl l.t, rfl, l.t, rfl, ite2 (fun c => ?_) (fun c => ?_)⟩
  · have es : shortF l e = (l.lo + (l.hi + l.n - e), l.hi, l.n - (l.hi + l.n - e), true) := if_pos c
    refine ⟨.int l.lo, rfl, .int (l.hi + l.n - e), rfl, _, _, rfl, rfl, .int l.hi, rfl, .int l.n, rfl, .int (l.hi + l.n - e), rfl, _, _, rfl, rfl, (by show 4 ≤ sizeLine; decide), fun p np => ?_⟩
    refine q _ _ (same_upd np) (IsSy.of ?_)
    rw [upd_same, es]
    rfl
  · have es : shortF l e = (l.lo, l.hi, l.n - (l.hi + l.n - e), false) := if_neg c
    refine ⟨.int l.lo, rfl, .int l.hi, rfl, .int l.n, rfl, .int (l.hi + l.n - e), rfl, _, _, rfl, rfl, (by show 4 ≤ sizeLine; decide), fun p np => ?_⟩
    refine q _ _ (same_upd np) (IsSy.of ?_)
    rw [upd_same, es]
    rfl
end
def IsCt (H : Hp) (v : V) (c : Ct) : Prop := ∃ t, v = .ref t ∧ H t = some (.tup [.int c.lo, .int c.be, .int c.by_, .bl c.t])
theorem IsCt.ts {H H' : Hp} (h : TS H H') {v : V} {c : Ct} (k : IsCt H v c) : IsCt H' v c := by
  obtain ⟨t, e, ht⟩ := k
  exact ⟨t, e, h _ _ ht⟩
theorem IsCt.of {H : Hp} {t : Addr} {c : Ct} (h : H t = some (.tup [.int c.lo, .int c.be, .int c.by_, .bl c.t])) : IsCt H (.ref t) c := ⟨t, rfl, h⟩
abbrev CL (H : Hp) (vs : List V) (cs : List Ct) : Prop := LL IsCt H vs cs
theorem CL.ts {H H' : Hp} (h : TS H H') {vs : List V} {cs : List Ct} (k : CL H vs cs) : CL H' vs cs := k.imp fun _ _ z => z.ts h
def spLedcut : Sp := fun vs H Q _ => ∃ (x : V) (l : Sy) (e : Int), vs = [x, .int e] ∧ IsSy H x l ∧ ∀ H' v, Same H H' → IsCt H' v (cutF l e) → Q v H'
abbrev nLedcut : List Str := ["leader", "low", "start", "high", "many", "turned", "by"]
theorem scLedcut : FnScope nLedcut ["leader", "low"] (defScope sLed_cut) := ⟨rfl, rfl, rfl, by decide +kernel, rfl, by decide +kernel, by decide +kernel⟩
section
variable {P : Program} {w : World} {K : PySem.W.Frag} {mg : Str → Option Value} {base : Heap}
theorem ok_ledcut {f : Addr} {fd : FuncData} {k : Nat} (F : Fun K "led_cut" "led_cut" sLed_cut f fd) : FnOk P w K mg base CX0 (k + 1) f fd ["leader", "low"] spLedcut := by
  refine F.ok scLedcut (fun vs H Q E h => ?_) (fun cdv A outer s H vs Q E hr h => ?_)
  · obtain ⟨x, l, e, rfl, _⟩ := h; rfl
  obtain ⟨x, l, e, rfl, ⟨t, rfl, ht⟩, q⟩ := h
  refine ⟨_, (pss_cons (ps_asg (pv 0) (pg_tup rfl (pgs_cons (pg_name (i := 2) scLedcut.nd rfl (.inl rfl)) (pgs_cons (pg_name (i := 3) scLedcut.nd rfl (.inl rfl)) (pgs_cons (pg_name (i := 4) scLedcut.nd rfl (.inl rfl)) (pgs_cons (pg_name (i := 5) scLedcut.nd rfl (.inl rfl)) pgs_nil))))))
    (C8.pss_cut (ps_set (i := 6) scLedcut.nd rfl (.inl rfl) (pe_ifExp (pt_val (pv 5)) (pe_op op_sub (pe_op op_add (pe_op op_add (pv 2) (pv 3)) (pv 4)) pe_int) (pe_op op_sub (pv 3) (pv 2))))
    (pss_one (ps_ret (pe_tup (pa_cons (pv 1) (pa_cons (pe_op op_add (pv 3) (pv 4)) (pa_cons (pv 6) (pa_cons (pv 5) pa_nil))))))))), ?_⟩
  refine ⟨.ref t, rfl, t, [.int l.lo, .int l.hi, .int l.n, .bl l.t], rfl, .inl (.inl ht), rfl, _, _, rfl, _, _, rfl, _, _, rfl, _, _, rfl, rfl, ?_⟩
  refine ⟨fun σ' H' => σ' = [some (.ref t), some (.int e), some (.int l.lo), some (.int l.hi), some (.int l.n), some (.bl l.t), some (.int (cutF l e).by_)] ∧ H' = H, ?_, ?_⟩
  · refine ⟨.bl l.t, rfl, l.t, rfl, ite2 (fun c => ?_) (fun c => ?_)⟩
    · refine ⟨.int l.lo, rfl, .int l.hi, rfl, _, _, rfl, rfl, .int l.n, rfl, _, _, rfl, rfl, _, 1, rfl, rfl, ?_⟩
      have eb : (cutF l e).by_ = l.lo + l.hi + l.n - 1 := if_pos c
      rw [eb]
      exact ⟨rfl, rfl⟩
    · refine ⟨.int l.hi, rfl, .int l.lo, rfl, _, _, rfl, rfl, ?_⟩
      have eb : (cutF l e).by_ = l.hi - l.lo := if_neg c
      rw [eb]
      exact ⟨rfl, rfl⟩
  rintro σ' H' ⟨rfl, rfl⟩
  refine ⟨.int e, rfl, .int l.hi, rfl, .int l.n, rfl, _, _, rfl, rfl, .int _, rfl, .bl l.t, rfl, (by show 4 ≤ sizeLine; decide), fun p np => ?_⟩
  exact q _ _ (same_upd np) (IsCt.of upd_same)
end
end Rep
namespace Rep
open PySem PySem.W PySem.Spec PyProof.Rows L2
theorem call_max3 {X : Cx} (hc : X.calm = true) : CallR X (.builtin "max") (fun xs H Q => ∃ i j k, xs = [.int i, .int j, .int k] ∧ Q (.int (max (max i j) k)) H) := by
  intro pins s σ H xs us Q I r h
  obtain ⟨i, j, k, rfl, q⟩ := h
  cases r with
  | cons r1 rr =>
    cases rr with
    | cons r2 rr =>
      cases rr with
      | cons r3 rr =>
        cases rr
        obtain ⟨t1, rfl⟩ := r1
        obtain ⟨t2, rfl⟩ := r2
        obtain ⟨t3, rfl⟩ := r3
        refine max_three_ints (I.ok.hd hc) fun h' tk kp => ⟨_, H, I.kept kp, ?_, q⟩
        by_cases c1 : j > i
        · rw [if_pos c1]
          by_cases c2 : k > j
          · rw [if_pos c2, show max (max i j) k = k by omega]; exact ⟨_, rfl⟩
          · rw [if_neg c2, show max (max i j) k = j by omega]; exact ⟨_, rfl⟩
        · rw [if_neg c1]
          by_cases c2 : k > i
          · rw [if_pos c2, show max (max i j) k = k by omega]; exact ⟨_, rfl⟩
          · rw [if_neg c2, show max (max i j) k = i by omega]; exact ⟨_, rfl⟩
/-- a def whose code object is known -/
structure FunT (K : PySem.W.Frag) (x qual : Str) (st : Stmt) (f : Addr) (fd : FuncData) (c : Addr) : Prop where
  ex : ∃ (oc : Value) (od : Option Addr) (kV doc pm : Value) (an : Option Addr) (ct : Value) (osl : Array (Option Value)),
    fd = PySem.W.fnOf x qual (defArgs st) (defBody st) (defScope st) .none kV doc pm an (.ref c) ct ∧ K.lookup f = some ⟨oc, od, .func fd, osl⟩ ∧ PySem.W.codeIn K (.ref c) qual = true
theorem FunT.ok {P : Program} {w : World} {K : PySem.W.Frag} {mg : Str → Option Value} {base : Heap} {x qual : Str} {st : Stmt} {f c : Addr} {fd : FuncData} {N ps : List Str} {k : Nat} {sp : Sp} (F : FunT K x qual st f fd c) (S : FnScope N ps (defScope st)) (len : ∀ vs H Q E, sp vs H Q E → vs.length = ps.length)
    (hbody : ∀ (A : Around) (outer : List Env) (s : Shared) (H : Hp) (vs : List V) (Q : VK) (E : XK), Room k (A.deeper (envOfC qual (defScope st) s.heap.objs.size f (.ref c))) → sp vs H Q E →
      ∃ t, PSs (cxOf CX0 P w K mg base N qual (defScope st) f (.ref c) A outer s H E).nox (defBody st) t ∧ t { nx := fun _ H' => Q .non H', rt := Q } (L2.start N vs) H) : FnOk P w K mg base CX0 (k + 1) f fd ps sp := by
  obtain ⟨oc, od, kV, doc, pm, an, ct, osl, rfl, lk, hcd⟩ := F.ex
  refine fn_of lk hcd S len fun A outer s H vs Q E hr hsp => ?_
  obtain ⟨t, h, q⟩ := hbody A outer s H vs Q E hr hsp
  exact ⟨t, h.nox, q⟩
/-! the leader by its key -/
def kkH (H : Hp) (v : V) : Int × Int := match v with
  | .ref t => (match H t with
    | some (.tup [.int _, .int b, .int n, .bl _]) => (b + n, n)
    | _ => (0, 0))
  | _ => (0, 0)
theorem kkH_at {H : Hp} {v : V} {s : Sy} (h : IsSy H v s) : kkH H v = (s.hi + s.n, s.n) := by
  obtain ⟨t, rfl, ht⟩ := h
  show (match H t with
    | some (.tup [.int _, .int b, .int n, .bl _]) => (b + n, n)
    | _ => (0, 0)) = _
  rw [ht]
theorem ite_same {α : Type} {p q : Bool} (h : p = q) {a b : α} : (if p = true then a else b) = if q = true then a else b := by rw [h]
theorem better_key (a b : Sy) : dataLt (.tuple [.int (b.hi + b.n), .int b.n]) (.tuple [.int (a.hi + a.n), .int a.n]) = better a b := by
  rw [dataLt_ii]
  rfl
theorem top_lead {H : Hp} {ys : List V} {ks : List Sy} (sl : SL H ys ks) {y : V} (h : ys[topAt (kkH H) ys]? = some y) : ∃ l, leadF ks = some l ∧ IsSy H y l := by
  cases ks with
  | nil =>
    have : ys = [] := by have := sl.len; simpa using this
    rw [this] at h
    simp at h
  | cons s K =>
    refine ⟨bestF s K, rfl, ?_⟩
    have hlen : ys.length = K.length + 1 := sl.len
    obtain ⟨i1, i2⟩ := argBest_fold better ⟨0, 0, 0, false⟩ s K K.length (Nat.le_refl _)
    rw [List.take_length] at i2
    -- the two ways to compare agree below the length
    have ebt : ∀ k, k ≤ K.length → argBest (fun i j => dataLt (.tuple [.int (kkH H (ys.getD j .non)).1, .int (kkH H (ys.getD j .non)).2]) (.tuple [.int (kkH H (ys.getD i .non)).1, .int (kkH H (ys.getD i .non)).2])) k = argBest (fun i j => better ((s :: K).getD i ⟨0, 0, 0, false⟩) ((s :: K).getD j ⟨0, 0, 0, false⟩)) k := by
      have one : ∀ i, i ≤ K.length → kkH H (ys.getD i .non) = (((s :: K).getD i ⟨0, 0, 0, false⟩).hi + ((s :: K).getD i ⟨0, 0, 0, false⟩).n, ((s :: K).getD i ⟨0, 0, 0, false⟩).n) := fun i hi => by
        have hy : i < ys.length := by omega
        have hk : i < (s :: K).length := by rw [List.length_cons]; omega
        have e1 : ys.getD i .non = ys[i] := by rw [List.getD_eq_getElem?_getD, List.getElem?_eq_getElem hy]; rfl
        have e2 : (s :: K).getD i ⟨0, 0, 0, false⟩ = (s :: K)[i] := by rw [List.getD_eq_getElem?_getD, List.getElem?_eq_getElem hk]; rfl
        rw [e1, e2]
        exact kkH_at (sl.at_ i _ _ (List.getElem?_eq_getElem hy) (List.getElem?_eq_getElem hk))
      intro k
      induction k with
      | zero => intro _; rfl
      | succ k ih =>
        intro hk
        have h1 := ih (by omega)
        have h2 := (argBest_fold better ⟨0, 0, 0, false⟩ s K k (by omega)).1
        show (if _ = true then _ else _) = (if _ = true then _ else _)
        rw [h1]
        have hc : ∀ m, m ≤ K.length → dataLt (.tuple [.int (kkH H (ys.getD m .non)).1, .int (kkH H (ys.getD m .non)).2]) (.tuple [.int (kkH H (ys.getD (k + 1) .non)).1, .int (kkH H (ys.getD (k + 1) .non)).2]) = better ((s :: K).getD (k + 1) ⟨0, 0, 0, false⟩) ((s :: K).getD m ⟨0, 0, 0, false⟩) := fun m hm => by
          rw [one (k + 1) hk, one m hm]
          exact better_key _ _
        exact ite_same (hc _ (by omega))
    unfold topAt at h
    rw [hlen, Nat.add_sub_cancel, ebt _ (Nat.le_refl _)] at h
    generalize argBest (fun i j => better ((s :: K).getD i ⟨0, 0, 0, false⟩) ((s :: K).getD j ⟨0, 0, 0, false⟩)) K.length = m at *
    have hm : m < (s :: K).length := by rw [List.length_cons]; omega
    have e2 : (s :: K)[m]? = some (bestF s K) := by
      rw [List.getElem?_eq_getElem hm]
      rw [List.getD_eq_getElem?_getD, List.getElem?_eq_getElem hm] at i2
      exact congrArg some i2
    exact sl.at_ m y _ h e2
/-! the list without the leader -/
def sD (s : Sy) : PyData := .tuple [.int s.lo, .int s.hi, .int s.n, .bool s.t]
theorem eqv_sD (a b : Sy) : PyData.eqv (sD a) (sD b) = decide (a = b) := by
  have e : PyData.eqv (sD a) (sD b) = ((a.lo == b.lo) && ((a.hi == b.hi) && ((a.n == b.n) && ((a.t == b.t) && true)))) := rfl
  rw [e]
  obtain ⟨a1, a2, a3, a4⟩ := a
  obtain ⟨b1, b2, b3, b4⟩ := b
  by_cases c : (⟨a1, a2, a3, a4⟩ : Sy) = ⟨b1, b2, b3, b4⟩
  · rw [decide_eq_true c]
    cases c
    simp
  · rw [decide_eq_false c]
    cases h : ((a1 == b1) && ((a2 == b2) && ((a3 == b3) && ((a4 == b4) && true)))) with
    | false => rfl
    | true =>
      simp only [Bool.and_eq_true, beq_iff_eq, Bool.and_true] at h
      obtain ⟨rfl, rfl, rfl, rfl⟩ := h
      exact absurd rfl c
theorem place_sD : ∀ {ks : List Sy} {l : Sy}, l ∈ ks → ∃ j, SeqAt.dataPlace (ks.map sD) (sD l) = some j ∧ ks.eraseIdx j = ks.erase l
  | [], l, h => by cases h
  | s :: r, l, h => by
    unfold SeqAt.dataPlace
    by_cases c : s = l
    · subst c
      refine ⟨0, ?_, ?_⟩
      · rw [List.map_cons, List.findIdx?_cons, eqv_sD, decide_eq_true rfl]; rfl
      · rw [List.erase_cons_head]; rfl
    · have hr : l ∈ r := by
        rcases List.mem_cons.mp h with e | e
        · exact absurd e.symm c
        · exact e
      obtain ⟨j, h1, h2⟩ := place_sD hr
      unfold SeqAt.dataPlace at h1
      refine ⟨j + 1, ?_, ?_⟩
      · rw [List.map_cons, List.findIdx?_cons, eqv_sD, decide_eq_false c, h1]; rfl
      · rw [List.erase_cons_tail (by simpa using c), List.eraseIdx_cons_succ, h2]
theorem dp_sD {K : PySem.W.Frag} {H : Hp} {v : V} {s : Sy} (h : IsSy H v s) : Dp K H v (sD s) := by
  obtain ⟨t, rfl, ht⟩ := h
  exact .tup (.inl (.inl ht)) (.cons (.int _) (.cons (.int _) (.cons (.int _) (.cons (.bl _) .nil))))
theorem dpAll_sD {K : PySem.W.Frag} {H : Hp} : ∀ {vs : List V} {ss : List Sy}, SL H vs ss → DpAll K H vs (ss.map sD)
  | [], [], _ => .nil
  | [], _ :: _, h => by have := h.len; simp at this
  | _ :: _, [], h => by have := h.len; simp at this
  | v :: vs, s :: ss, h => .cons (dp_sD (h.at_ 0 v s rfl rfl)) (dpAll_sD ⟨by have := h.len; simpa using this, fun i w u h1 h2 => h.at_ (i + 1) w u h1 h2⟩)
theorem plain_sD : ∀ ss : List Sy, PyData.plainAll (ss.map sD) = true
  | [] => rfl
  | s :: r => by
    show ((sD s).plain && PyData.plainAll (r.map sD)) = true
    rw [plain_sD r]; rfl
theorem Leads.parts {e : Int} {l : Sy} {O : List Sy} (h : Leads e l O) : (∀ s ∈ stillF l O, Ok (endF l O) s) ∧ ∀ s ∈ freshF l O ++ keptL [shortF l (endF l O)], Ok (endF l O) s := by
  obtain ⟨e1, e2⟩ := h.end_
  have en := h.en
  have l0 := h.ok.lo0
  have l1 := h.ok.lt
  have l2 := h.ok.n1
  refine ⟨fun s hs => (h.still s hs).1.mono (by have := gE_ge hs; unfold endF; omega), fun s hs => ?_⟩
  rcases List.mem_append.mp hs with hs | hs
  · exact (h.fresh s hs).1.mono (by have := gE_ge hs; unfold endF; omega)
  · obtain ⟨q, hq, k⟩ := List.mem_filterMap.mp hs
    have eq_ : q = shortF l (endF l O) := List.mem_singleton.mp hq
    subst eq_
    by_cases c : l.t = true
    · have es : shortF l (endF l O) = (l.lo + (l.hi + l.n - endF l O), l.hi, l.n - (l.hi + l.n - endF l O), true) := if_pos c
      rw [es] at k
      have hov := h.ok.ov c
      exact (kept_ok (by show 0 ≤ l.lo + (l.hi + l.n - endF l O); omega) (by show 0 ≤ l.hi; omega) (by show l.lo + (l.hi + l.n - endF l O) + (l.n - (l.hi + l.n - endF l O)) ≤ endF l O; omega) (by show l.hi + (l.n - (l.hi + l.n - endF l O)) ≤ endF l O; omega) k).1
    · have es : shortF l (endF l O) = (l.lo, l.hi, l.n - (l.hi + l.n - endF l O), false) := if_neg c
      rw [es] at k
      exact (kept_ok (by show 0 ≤ l.lo; omega) (by show 0 ≤ l.hi; omega) (by show l.lo + (l.n - (l.hi + l.n - endF l O)) ≤ endF l O; omega) (by show l.hi + (l.n - (l.hi + l.n - endF l O)) ≤ endF l O; omega) k).1
end Rep
namespace Rep
open PySem PySem.W PySem.Spec PyProof.Rows L2
/-- the code objects that parted makes, by their column -/
def parNm : Nat → Nat → Str := fun _ c => if c = 4 then "parted.<locals>.meets" else "parted.<locals>.<lambda>"
def cutNm : Nat → Nat → Str := fun _ _ => "cut_by_leader.<locals>.<lambda>"
/-- both tables: the one at P, and parted's own -/
def tabN (P : Addr) : List NdefX.NTab := [(P, cutNm), (PT2, parNm)]
def TbO (P : Addr) (H : Hp) : Prop := NdefX.TabsN (tabN P) H
theorem TbO.ext {P : Addr} {H H' : Hp} (t : TbO P H) (e : ∀ b o, H b = some o → H' b = some o) : TbO P H' := NdefX.TabsN.ext t e
theorem tabN_only1 {P : Addr} (h : P ≠ PT2) : ∀ p ∈ tabN P, p.1 = P → p.2 = cutNm := fun p hp e => by
  rcases List.mem_cons.mp hp with rfl | hp
  · rfl
  · rw [List.mem_singleton.mp hp] at e; exact absurd e.symm h
theorem tabN_only2 {P : Addr} (h : P ≠ PT2) : ∀ p ∈ tabN P, p.1 = PT2 → p.2 = parNm := fun p hp e => by
  rcases List.mem_cons.mp hp with rfl | hp
  · exact absurd e h
  · rw [List.mem_singleton.mp hp]
/-- nothing but a table stands there -/
def NewX (H : Hp) (r : Addr) : Prop := ∀ o, H r = some o → ∃ ps, o = .tbl ps
theorem NewX.ne {H : Hp} {r a : Addr} {xs : List V} (n : NewX H r) (h : H a = some (.lst xs)) : a ≠ r := fun z => by
  subst z
  obtain ⟨ps, e⟩ := n _ h
  cases e
def spCutby (K : PySem.W.Frag) (P : Addr) : Sp := fun vs H Q _ => ∃ (a : Addr) (xs : List V) (ks : List Sy) (e : Int), vs = [.ref a] ∧ H a = some (.lst xs) ∧ SL H xs ks ∧ TbO P H ∧ (∀ s ∈ ks, Ok e s) ∧ 0 < e ∧ e ≤ 10 ^ 41 ∧ e ≤ gE ks ∧ ks.length ≤ 10000 ∧
  ∀ H' o v1 r zs c K', EX H H' → TbO P H' → H' o = some (.tup [v1, .ref r]) → IsCt H' v1 c → NewX H r → H' r = some (.lst zs) → SL H' zs K' → cutBy ks = some (c, K') → Q (.ref o) H'
abbrev nCutby : List Str := ["kept", "leader", "others", "still", "fresh", "end", "saying"]
theorem scCutby : FnScope nCutby ["kept"] (defScope sCut_by_leader) := ⟨rfl, rfl, rfl, by decide +kernel, rfl, by decide +kernel, by decide +kernel⟩
theorem EX.trans {H H1 H2 : Hp} (a : EX H H1) (b : EX H1 H2) : EX H H2 := LamX.ExtN.trans a b
theorem EX.free {H H' : Hp} (h : EX H H') {l : Addr} (n : H' l = none) : H l = none ∨ ∃ ps, H l = some (.tbl ps) := by
  cases e : H l with
  | none => exact .inl rfl
  | some o =>
    cases o with
    | tbl ps => exact .inr ⟨ps, rfl⟩
    | _ => rw [h l _ e (fun ps z => by cases z)] at n; cases n
section
variable {Pg : Program} {w : World} {K : PySem.W.Frag} {mg : Str → Option Value} {base : Heap}
theorem ok_cutby {f c P fL fC fE fS fD fN : Addr} {fd fdL fdC fdE fdS fdD fdN : FuncData} {k : Nat} (F : FunT K "cut_by_leader" "cut_by_leader" sCut_by_leader f fd c) (TB : LamX.TabB base mg c P) (hP2 : P ≠ PT2)
    (GL : FnOk Pg w K mg base CX0 (k + 2) fL fdL ["sayings"] (spKeptL K)) (kL : PySem.W.keepIn K (.ref fL) = true) (bL : Binds K fdL ["sayings"] []) (mL_ : mg "kept_forms" = some (.ref fL))
    (GC : FnOk Pg w K mg base CX0 (k + 2) fC fdC ["leader", "saying"] spCarried) (kC : PySem.W.keepIn K (.ref fC) = true) (bC : Binds K fdC ["leader", "saying"] []) (mC_ : mg "carried" = some (.ref fC))
    (GE : FnOk Pg w K mg base CX0 (k + 2) fE fdE ["kept"] (spGend K)) (kE : PySem.W.keepIn K (.ref fE) = true) (bE : Binds K fdE ["kept"] []) (mE_ : mg "greatest_end" = some (.ref fE))
    (GS : FnOk Pg w K mg base CX0 (k + 2) fS fdS ["leader", "end"] spShort) (kS : PySem.W.keepIn K (.ref fS) = true) (bS : Binds K fdS ["leader", "end"] []) (mS_ : mg "shortened" = some (.ref fS))
    (GD : FnOk Pg w K mg base CX0 (k + 2) fD fdD ["leader", "low"] spLedcut) (kD : PySem.W.keepIn K (.ref fD) = true) (bD : Binds K fdD ["leader", "low"] []) (mD_ : mg "led_cut" = some (.ref fD))
    (GN : FnOk Pg w K mg base CX0 (k + 2) fN fdN ["kept", "fresh"] (spTaken K)) (kN : PySem.W.keepIn K (.ref fN) = true) (bN : Binds K fdN ["kept", "fresh"] []) (mN_ : mg "taken_in" = some (.ref fN))
    (mM : mg "max" = none) (mL : mg "list" = none) : FnOk Pg w K mg base CX0 (k + 3) f fd ["kept"] (spCutby K P) := by
  refine F.ok scCutby (fun vs H Q E h => ?_) (fun A outer s H vs Q E hr h => ?_)
  · obtain ⟨a, xs, ks, e, rfl, _⟩ := h; rfl
  obtain ⟨a, xs, ks, e, rfl, ha, sl, hT, okK, he0, he1, hge, hlen, q⟩ := h
  have r2 : Room (0 + 2) _ := hr.mono (Nat.le_add_left 2 k)
  have rk : Room (k + 2) _ := hr
  have hu2 : (A.deeper (envOfC "cut_by_leader" (defScope sCut_by_leader) s.heap.objs.size f (.ref c))).units + 200 < cLine := by have := hr.un; omega
  refine ⟨_, (pss_cons (ps_set (i := 1) scCutby.nd rfl (.inr rfl) (pe_maxLam (t := tTup (tCons (tOp (rI0 fun i j => .int (i + j)) (tOp (rIxT K) (tVar 0) (tC (.int 1))) (tOp (rIxT K) (tVar 0) (tC (.int 2)))) (tCons (tOp (rIxT K) (tVar 0) (tC (.int 2))) tNil))) (N := ["saying"]) (k := 0) (T := tabN P) (by rfl) mM (pa_cons (pv 0) pa_nil) TB rfl (List.mem_cons_self) rfl (tabN_only1 hP2) rfl (by decide +kernel) rfl r2 ⟨rfl, rfl, rfl, by decide +kernel, rfl, by decide +kernel, by decide +kernel⟩ (fun _ _ _ _ _ => rfl) (fun A outer s H g cd _ => pe_tup (pa_cons (pe_op op_add (pe_ix ix_tup (pv 0) pe_int (fun _ _ => rfl)) (pe_ix ix_tup (pv 0) pe_int (fun _ _ => rfl))) (pa_cons (pe_ix ix_tup (pv 0) pe_int (fun _ _ => rfl)) pa_nil)))))
    (C8.pss_cut (ps_set (i := 2) scCutby.nd rfl (.inl rfl) (pe_callTy call_list_of (by rfl) mL PyProof.Rows.boot_list (pa_cons (pv 0) pa_nil)))
    (C8.pss_cut (ps_expr (pe_bm PySem.F.plainAttrs_list PySem.F.slot_list_remove PySem.F.type_list_remove (mt_removeD hu2) (pv 2) (pa_cons (pv 1) pa_nil)))
    (C8.pss_cut (ps_setLc (i := 3) (own := [("saying", 6)]) (g := (gName 6)) (tt := tTest (tOp (rI0 fun i j => .bl (decide (i < j))) (tOp (rIxT K) (tVar 6) (tC (.int 1))) (tOp (rIxT K) (tVar 1) (tC (.int 1))))) rfl scCutby.nd rfl rfl (sw_true rfl rfl rfl (by decide +kernel)) (pi_list (pv 2)) (blkOk_by (N := nCutby) (sc := defScope sCut_by_leader) (by decide +kernel)) (fun _ _ _ _ _ => (pg_name (i := 6) scCutby.nd rfl (.inl rfl))) (fun _ _ _ _ _ => (pts_one (pt_cmpR op_lt (pe_ix ix_tup (pv 6) pe_int (fun _ _ => rfl)) (pe_ix ix_tup (pv 1) pe_int (fun _ _ => rfl)) (nomark _)))) (fun _ _ _ _ _ => (pv 6)))
    (C8.pss_cut (ps_set (i := 4) scCutby.nd rfl (.inl rfl) (pe_call GL rk (by rfl) mL_ kL bL .nil pass0 (pa_cons (pe_lc (own := [("saying", 6)]) (g := (gName 6)) (tt := tTest (tOp (rI0 fun i j => .bl (decide (j ≤ i))) (tOp (rIxT K) (tVar 6) (tC (.int 1))) (tOp (rIxT K) (tVar 1) (tC (.int 1))))) rfl scCutby.nd (pi_list (pv 2)) (blkOk_by (N := nCutby) (sc := defScope sCut_by_leader) (by decide +kernel)) (fun _ _ _ _ _ => (pg_name (i := 6) scCutby.nd rfl (.inl rfl))) (fun _ _ _ _ _ => (pts_one (pt_cmpR op_ge (pe_ix ix_tup (pv 6) pe_int (fun _ _ => rfl)) (pe_ix ix_tup (pv 1) pe_int (fun _ _ => rfl)) (nomark _)))) (fun _ _ _ _ _ => (pe_call GC rk (by rfl) mC_ kC bC .nil pass0 (pa_cons (pv 1) (pa_cons (pv 6) pa_nil))))) pa_nil)))
    (C8.pss_cut (ps_set (i := 5) scCutby.nd rfl (.inl rfl) (pe_callB (call_max3 rfl) (by rfl) mM (by decide +kernel) (pa_cons (pe_ix ix_tup (pv 1) pe_int (fun _ _ => rfl)) (pa_cons (pe_call GE rk (by rfl) mE_ kE bE .nil pass0 (pa_cons (pv 3) pa_nil)) (pa_cons (pe_call GE rk (by rfl) mE_ kE bE .nil pass0 (pa_cons (pv 4) pa_nil)) pa_nil)))))
    (pss_cons (ps_expr (pe_bm PySem.F.plainAttrs_list PySem.F.slot_list_extend PySem.F.type_list_extend mt_extend (pv 4) (pa_cons (pe_call GL rk (by rfl) mL_ kL bL .nil pass0 (pa_cons (pe_lst (pa_cons (pe_call GS rk (by rfl) mS_ kS bS .nil pass0 (pa_cons (pv 1) (pa_cons (pv 5) pa_nil))) pa_nil)) pa_nil)) pa_nil)))
    (pss_one (ps_ret (pe_tup (pa_cons (pe_call GD rk (by rfl) mD_ kD bD .nil pass0 (pa_cons (pv 1) (pa_cons (pv 5) pa_nil))) (pa_cons (pe_call GN rk (by rfl) mN_ kN bN .nil pass0 (pa_cons (pv 3) (pa_cons (pv 4) pa_nil))) pa_nil)))))))))))), ?_⟩
  -- leader
  have hne : xs ≠ [] := fun z => by
    have : ks = [] := by have := sl.len; rw [z] at this; exact List.length_eq_zero_iff.mp this.symm
    rw [this] at hge
    have : gE [] = 0 := rfl
    omega
  refine ⟨.ref a, rfl, a, xs, kkH H, rfl, ha, hne, hT, fun y hy H' Q' ht hq => ?_, fun H1 y eN T1 hy => ?_⟩
  · obtain ⟨s', _, t', rfl, ht'⟩ := sl.mem hy
    have hk := kkH_at (s := s') ⟨t', rfl, ht'⟩
    rw [hk] at hq
    have h1 := ht _ _ ht'
    exact ⟨.ref t', rfl, t', _, 1, .int s'.hi, rfl, rfl, .inl (.inl h1), rfl, .ref t', rfl, t', _, 2, .int s'.n, rfl, rfl, .inl (.inl h1), rfl, _, _, rfl, rfl, .ref t', rfl, t', _, 2, .int s'.n, rfl, rfl, .inl (.inl h1), rfl, (by show 2 ≤ sizeLine; decide), fun p np => hq p np⟩
  obtain ⟨l, hl, isl⟩ := top_lead sl hy
  obtain ⟨LD, hmem⟩ := lead_leads okK hge he0 hl
  have isl1 := isl.ts (EX.ts eN)
  have sl1 := SL.ts (EX.ts eN) sl
  have ha1 := EX.lst eN ha
  have hcut : cutBy ks = some (cutF l (endF l (ks.erase l)), nextF l (ks.erase l)) := by unfold cutBy; rw [hl]
  have lO : (ks.erase l).length ≤ 10000 := Nat.le_trans (List.length_erase_le) hlen
  -- others = list(kept)
  refine ⟨fun σ' H' => ∃ oA, σ' = [some (.ref a), some y, some (.ref oA), none, none, none, none] ∧ Same H1 H' ∧ H1 oA = none ∧ H' oA = some (.lst xs), ?_, ?_⟩
  · exact ⟨.ref a, rfl, a, xs, rfl, .inl (.inl (.inl ha1)), fun oA nA => ⟨oA, rfl, same_upd nA, nA, upd_same⟩⟩
  rintro σ' H2 ⟨oA, rfl, s12, nA, eA⟩
  have sl2 := SL.ts (TS.of s12) sl1
  have isl2 := isl1.ts (TS.of s12)
  -- others.remove(leader)
  obtain ⟨j, hj, ej⟩ := place_sD hmem
  refine ⟨fun σ' H' => σ' = [some (.ref a), some y, some (.ref oA), none, none, none, none] ∧ Same H1 H' ∧ ∃ ov, H' oA = some (.lst ov) ∧ SL H' ov (ks.erase l), ?_, ?_⟩
  · refine ⟨.ref oA, rfl, .inl ⟨rfl, _, .inl (.inl eA)⟩, y, rfl, oA, xs, y, ks.map sD, sD l, j, rfl, rfl, eA, dpAll_sD sl2, dp_sD isl2, plain_sD ks, rfl, (by show 1 ≤ 64; decide), hj, ?_⟩
    refine ⟨rfl, same_over s12 nA, _, upd_same, ?_⟩
    rw [← ej]
    exact SL.ts (TS.lst eA) (sl2.erase j)
  rintro σ' H3 ⟨rfl, s13, ov, eA3, slO⟩
  have isl3 := isl1.ts (TS.of s13)
  have eO : ∀ s ∈ ks.erase l, Ok e s := LD.oth
  generalize ks.erase l = O at *
  obtain ⟨tl, rfl, htl⟩ := isl3
  -- still
  refine ⟨fun σ' H' => ∃ sA sv, σ' = [some (.ref a), some (.ref tl), some (.ref oA), some (.ref sA), none, none, none] ∧ Same H3 H' ∧ H' sA = some (.lst sv) ∧ SL H' sv (stillF l O), ?_, ?_⟩
  · refine ⟨.ref oA, rfl, oA, rfl, ⟨_, .inl (.inl eA3)⟩, fun D nD => ?_⟩
    refine lc_list (xs := ov) (fun i H5 => Same H3 H5 ∧ ∃ zs, H5 D = some (.lst zs) ∧ SL H5 zs ((O.take i).filter fun s => decide (s.hi < l.hi))) ⟨same_upd nD, [], upd_same, .nil⟩ (fun i H5 _ hP => .inl (.inl (hP.1 _ _ eA3))) (fun i v H5 hv hP => ?_) (fun H5 hP => ?_)
    · obtain ⟨sm, zs, eD, slz⟩ := hP
      obtain ⟨u, hu, tu, rfl, htu⟩ := slO.get hv
      have et : O.take (i + 1) = O.take i ++ [u] := by rw [List.take_add_one, hu]; rfl
      refine ⟨rfl, ?_⟩
      refine ⟨.ref tu, rfl, tu, _, 1, .int u.hi, rfl, rfl, .inl (.inl (sm _ _ htu)), rfl, .ref tl, rfl, tl, _, 1, .int l.hi, rfl, rfl, .inl (.inl (sm _ _ htl)), rfl, _, _, rfl, rfl, _, rfl, ?_⟩
      refine ite2 (fun d => ?_) (fun d => ?_)
      · have d1 : u.hi < l.hi := of_decide_eq_true d
        have fp : [u].filter (fun s => decide (s.hi < l.hi)) = [u] := by simp [d1]
        refine ⟨.ref tu, rfl, zs, eD, ?_, same_over sm nD, zs ++ [.ref tu], upd_same, ?_⟩
        · rw [slz.len]
          have h1 := List.length_filter_le (fun s : Sy => decide (s.hi < l.hi)) (O.take i)
          rw [List.length_take] at h1
          exact Nat.lt_of_le_of_lt (show _ ≤ 10000 by omega) (by decide)
        · rw [et, List.filter_append, fp]
          exact SL.ts (TS.lst eD) (slz.snoc (a := u) ⟨tu, rfl, sm _ _ htu⟩)
      · have d1 : ¬ u.hi < l.hi := fun z => d (decide_eq_true z)
        have fp : [u].filter (fun s => decide (s.hi < l.hi)) = [] := by
          have d2 : l.hi ≤ u.hi := by omega
          simp [d2]
        refine ⟨sm, zs, eD, ?_⟩
        rw [et, List.filter_append, fp, List.append_nil]
        exact slz
    · obtain ⟨sm, zs, eD, slz⟩ := hP
      rw [slO.len, List.take_length] at slz
      exact ⟨D, zs, rfl, sm, eD, slz⟩
  rintro σ' H4 ⟨sA, sv, rfl, s34, esA, slS⟩
  have htl4 := s34 _ _ htl
  have slO4 := SL.ts (TS.of s34) slO
  have eA4 := s34 _ _ eA3
  have bigL : Big (l.hi - l.lo) := by
    have b1 := LD.ok.lo0; have b2 := LD.ok.lt; have b3 := LD.ok.le; have b4 := LD.ok.n1
    unfold Big; omega
  -- fresh
  refine ⟨fun σ' H' => ∃ fA fv, σ' = [some (.ref a), some (.ref tl), some (.ref oA), some (.ref sA), some (.ref fA), none, none] ∧ Same H4 H' ∧ H4 fA = none ∧ H' fA = some (.lst fv) ∧ SL H' fv (freshF l O), ?_, ?_⟩
  · refine ⟨.ref oA, rfl, oA, rfl, ⟨_, .inl (.inl eA4)⟩, fun D nD => ?_⟩
    refine lc_list (xs := ov) (fun i H5 => Same H4 H5 ∧ ∃ zs, H5 D = some (.lst zs) ∧ SL H5 zs (((O.take i).filter fun s => decide (l.hi ≤ s.hi)).map fun s => ofQ (carryF l s))) ⟨same_upd nD, [], upd_same, .nil⟩ (fun i H5 _ hP => .inl (.inl (hP.1 _ _ eA4))) (fun i v H5 hv hP => ?_) (fun H5 hP => ?_)
    · obtain ⟨sm, zs, eD, slz⟩ := hP
      obtain ⟨u, hu, tu, rfl, htu⟩ := slO4.get hv
      have hO := eO u (List.mem_of_getElem? hu)
      have et : O.take (i + 1) = O.take i ++ [u] := by rw [List.take_add_one, hu]; rfl
      refine ⟨rfl, ?_⟩
      refine ⟨.ref tu, rfl, tu, _, 1, .int u.hi, rfl, rfl, .inl (.inl (sm _ _ htu)), rfl, .ref tl, rfl, tl, _, 1, .int l.hi, rfl, rfl, .inl (.inl (sm _ _ htl4)), rfl, _, _, rfl, rfl, _, rfl, ?_⟩
      refine ite2 (fun d => ?_) (fun d => ?_)
      · have d1 : l.hi ≤ u.hi := of_decide_eq_true d
        have fp : [u].filter (fun s => decide (l.hi ≤ s.hi)) = [u] := by simp [d1]
        have b1 := hO.lo0
        have b2 := hO.lt
        have b3 := hO.le
        have b4 := hO.n1
        have b5 := LD.ok.lo0
        have b6 := LD.ok.lt
        refine ⟨.ref tl, rfl, .ref tu, rfl, .ref tl, .ref tu, l, u, rfl, ⟨tl, rfl, sm _ _ htl4⟩, ⟨tu, rfl, sm _ _ htu⟩, LD.ok.lt, bigL, fun _ => (by unfold Big; omega), fun _ => (by unfold Big; omega), fun H6 v6 s6 is6 => ?_⟩
        refine ⟨zs, s6 _ _ eD, ?_, same_over (sm.trans s6) nD, zs ++ [v6], upd_same, ?_⟩
        · rw [slz.len, List.length_map]
          have h1 := List.length_filter_le (fun s : Sy => decide (l.hi ≤ s.hi)) (O.take i)
          rw [List.length_take] at h1
          exact Nat.lt_of_le_of_lt (show _ ≤ 10000 by omega) (by decide)
        · rw [et, List.filter_append, fp, List.map_append]
          exact SL.ts (TS.lst (s6 _ _ eD)) ((SL.ts (TS.of s6) slz).snoc is6)
      · have d1 : ¬ l.hi ≤ u.hi := fun z => d (decide_eq_true z)
        have fp : [u].filter (fun s => decide (l.hi ≤ s.hi)) = [] := by simp [d1]
        refine ⟨sm, zs, eD, ?_⟩
        rw [et, List.filter_append, fp, List.append_nil]
        exact slz
    · obtain ⟨sm, zs, eD, slz⟩ := hP
      rw [slO4.len, List.take_length] at slz
      refine ⟨D, zs, _, rfl, .inl (.inl eD), slz, ?_, fun H6 fA fv s6 nf ef slf => ?_⟩
      · rw [List.length_map]
        have h1 := List.length_filter_le (fun s : Sy => decide (l.hi ≤ s.hi)) O
        omega
      · refine ⟨fA, fv, rfl, sm.trans s6, Same.free sm nf, ef, ?_⟩
        rw [List.map_map] at slf
        exact slf
  rintro σ' H5 ⟨fA, fv, rfl, s45, nf, ef, slF⟩
  have esA5 := s45 _ _ esA
  have slS5 := SL.ts (TS.of s45) slS
  have htl5 := s45 _ _ htl4
  have lS : (stillF l O).length ≤ 10000 := Nat.le_trans (List.length_filter_le _ _) lO
  have lF : (freshF l O).length ≤ 10000 := by
    unfold freshF keptL
    refine Nat.le_trans (List.length_filterMap_le _ _) ?_
    rw [List.length_map]
    exact Nat.le_trans (List.length_filter_le _ _) lO
  -- end
  refine ⟨fun σ' H' => σ' = [some (.ref a), some (.ref tl), some (.ref oA), some (.ref sA), some (.ref fA), some (.int (endF l O)), none] ∧ Same H5 H', ?_, ?_⟩
  · refine ⟨.ref tl, rfl, tl, _, 1, .int l.hi, rfl, rfl, .inl (.inl htl5), rfl, .ref sA, rfl, sA, sv, stillF l O, rfl, .inl (.inl esA5), slS5, by omega, fun s hs => ?_, fun H6 s6 => ?_⟩
    · have o1 := (LD.still s hs).1
      have o2 := o1.lo0; have o3 := o1.lt; have o4 := o1.n1
      omega
    refine ⟨.ref fA, rfl, fA, fv, freshF l O, rfl, .inl (.inl (s6 _ _ ef)), SL.ts (TS.of s6) slF, by omega, fun s hs => ?_, fun H7 s7 => ?_⟩
    · have o1 := (LD.fresh s hs).1
      have o2 := o1.lo0; have o3 := o1.lt; have o4 := o1.n1
      omega
    exact ⟨l.hi, gE (stillF l O), gE (freshF l O), rfl, rfl, s6.trans s7⟩
  rintro σ' H6 ⟨rfl, s56⟩
  have ef6 := s56 _ _ ef
  have slF6 := SL.ts (TS.of s56) slF
  have esA6 := s56 _ _ esA5
  have slS6 := SL.ts (TS.of s56) slS5
  have htl6 := s56 _ _ htl5
  have nsf : sA ≠ fA := fun z => by rw [← z, esA] at nf; cases nf
  -- fresh.extend(kept_forms([shortened(leader, end)]))
  refine ⟨.ref fA, rfl, .inl ⟨rfl, _, .inl (.inl ef6)⟩, .ref tl, rfl, .int (endF l O), rfl, .ref tl, l, endF l O, rfl, ⟨tl, rfl, htl6⟩, fun H7 v7 s7 is7 => ?_⟩
  refine ⟨(by show 1 ≤ sizeLine; decide), fun d nd => ?_⟩
  have s78 := same_upd (o := .lst [v7]) nd
  refine ⟨d, [v7], [ofQ (shortF l (endF l O))], rfl, .inl (.inl upd_same), .one (is7.ts (TS.of s78)), (by show 1 ≤ 100000; decide), fun H9 g gv s9 ng eg slg => ?_⟩
  have s69 := (s7.trans s78).trans s9
  have ef9 := s69 _ _ ef6
  have slF9 := SL.ts (TS.of s69) slF6
  have slg' : SL H9 gv (keptL [shortF l (endF l O)]) := slg
  have lg : (keptL [shortF l (endF l O)]).length ≤ 1 := List.length_filterMap_le _ _
  refine ⟨fA, g, fv, gv, rfl, rfl, ef9, eg, ?_, ?_⟩
  · rw [slF9.len, slg'.len]
    exact Nat.le_trans (show _ ≤ 10001 by omega) (by decide)
  have t10 : TS H9 (upd H9 fA (.lst (fv ++ gv))) := TS.lst ef9
  have htl10 := t10 _ _ (s69 _ _ htl6)
  have slA10 := SL.ts t10 (slF9.app slg')
  have slS10 := SL.ts t10 (SL.ts (TS.of s69) slS6)
  have esA10 : upd H9 fA (.lst (fv ++ gv)) sA = some (.lst sv) := by rw [upd_ne nsf]; exact s69 _ _ esA6
  have ef10 : upd H9 fA (.lst (fv ++ gv)) fA = some (.lst (fv ++ gv)) := upd_same
  -- all that stood ahead stands
  have s49 : Same H4 H9 := (s45.trans s56).trans s69
  have s3_10 : Same H4 (upd H9 fA (.lst (fv ++ gv))) := same_over s49 nf
  generalize upd H9 fA (.lst (fv ++ gv)) = H10 at *
  have s1_10 : Same H1 H10 := (s13.trans s34).trans s3_10
  obtain ⟨pk1, pk2⟩ := LD.parts
  -- the answer
  refine ⟨.ref tl, rfl, .int (endF l O), rfl, .ref tl, l, endF l O, rfl, ⟨tl, rfl, htl10⟩, fun H11 v11 s11 is11 => ?_⟩
  refine ⟨.ref sA, rfl, .ref fA, rfl, sA, fA, sv, fv ++ gv, stillF l O, freshF l O ++ keptL [shortF l (endF l O)], endF l O, rfl, .inl (.inl (s11 _ _ esA10)), SL.ts (TS.of s11) slS10, .inl (.inl (s11 _ _ ef10)), SL.ts (TS.of s11) slA10, pk1, pk2, by rw [List.length_append]; omega, fun H12 r zs s12' nr er slr => ?_⟩
  refine ⟨(by show 2 ≤ sizeLine; decide), fun o no => ?_⟩
  have s13' := same_upd (o := .tup [v11, .ref r]) no
  have sEnd : Same H1 (upd H12 o (.tup [v11, .ref r])) := ((s1_10.trans s11).trans s12').trans s13'
  refine q _ o v11 r zs _ _ (eN.trans (EX.of sEnd)) (T1.ext sEnd) upd_same (is11.ts ((TS.of s12').trans (TS.of s13'))) ?_ (s13' _ _ er) (SL.ts (TS.of s13') slr) hcut
  -- r is new
  have n1 : H1 r = none := Same.free (s1_10.trans s11) nr
  intro o' ho'
  cases o' with
  | tbl ps => exact ⟨ps, rfl⟩
  | _ => rw [eN r _ ho' (fun ps z => by cases z)] at n1; cases n1
end
end Rep
namespace Rep
open PySem PySem.W PySem.Spec PyProof.Rows L2
def Good (e : Int) (s : Sy) : Prop := 0 ≤ s.lo ∧ 0 ≤ s.hi ∧ 1 ≤ s.n ∧ s.lo + s.n ≤ e ∧ s.hi + s.n ≤ e
def formsF (ss : List Sy) : List Sy := keptL (ss.map q4)
def startF (ss : List Sy) : List Sy := takenF (2 * (formsF ss).length + ([] : List Sy).length) [] (formsF ss).reverse
def allCuts (e : Int) (ss : List Sy) : List Ct := cutsF e.toNat e (startF ss)
theorem forms_ok {e : Int} {ss : List Sy} (h : ∀ s ∈ ss, Good e s) : ∀ s ∈ formsF ss, Ok e s := fun s hs => by
  obtain ⟨q, hq, k⟩ := List.mem_filterMap.mp hs
  obtain ⟨u, hu, rfl⟩ := List.mem_map.mp hq
  obtain ⟨a, b, c, d, f⟩ := h u hu
  exact (kept_ok (e := e) a b d f k).1
theorem forms_len (ss : List Sy) : (formsF ss).length ≤ ss.length := by
  unfold formsF keptL
  refine Nat.le_trans (List.length_filterMap_le _ _) ?_
  rw [List.length_map]
  exact Nat.le_refl _
theorem start_ok {e : Int} {ss : List Sy} (h : ∀ s ∈ ss, Good e s) : (∀ s ∈ startF ss, Ok e s) ∧ EqR (relL (startF ss)) (relQ (ss.map q4)) ∧ (startF ss).length ≤ ss.length := by
  obtain ⟨a, b, c⟩ := taken_ok (e := e) (2 * (formsF ss).length + ([] : List Sy).length) [] (formsF ss).reverse (by rw [List.length_reverse]; exact Nat.le_refl _) (fun s hs => by cases hs) (fun s hs => forms_ok h s (List.mem_reverse.mp hs))
  refine ⟨a, ?_, ?_⟩
  · refine b.trans ((EqR.of_iff fun x y => ?_).trans (keptL_eq _).symm)
    constructor
    · rintro (r | ⟨s, hs, r⟩)
      · exact absurd r relL_nil
      · exact ⟨s, List.mem_reverse.mp hs, r⟩
    · rintro ⟨s, hs, r⟩
      exact .inr ⟨s, List.mem_reverse.mpr hs, r⟩
  · rw [List.length_reverse] at c
    have := forms_len ss
    exact Nat.le_trans c (by simpa using this)
theorem all_stg {e : Int} {ss : List Sy} (h0 : 0 ≤ e) (h : ∀ s ∈ ss, Good e s) : Stg e (startF ss) (allCuts e ss) := cuts_stg _ _ _ (by omega) h0 (start_ok h).1
theorem cuts_len : ∀ (f : Nat) (e : Int) (K : List Sy), (cutsF f e K).length ≤ f
  | 0, _, _ => Nat.le_refl _
  | f + 1, e, K => by
    show (if e ≤ 0 then [] else if gE K < e then (⟨gE K, e, 0, false⟩ : Ct) :: cutsF f (gE K) K else match cutBy K with | none => [] | some (c, K') => c :: cutsF f c.lo K').length ≤ f + 1
    split
    · exact Nat.zero_le _
    split
    · exact Nat.succ_le_succ (cuts_len f _ _)
    split
    · exact Nat.zero_le _
    · exact Nat.succ_le_succ (cuts_len f _ _)
theorem cutBy_next {e : Int} {K K' : List Sy} {c : Ct} (hK : ∀ s ∈ K, Ok e s) (he : e ≤ gE K) (h0 : 0 < e) (h : cutBy K = some (c, K')) : 0 ≤ c.lo ∧ c.lo < e ∧ (∀ s ∈ K', Ok c.lo s) ∧ K'.length ≤ K.length := by
  obtain ⟨l, hl⟩ := lead_some (K := K) (by omega)
  obtain ⟨L, hm⟩ := lead_leads hK he h0 hl
  have ec : cutBy K = some (cutF l (endF l (K.erase l)), nextF l (K.erase l)) := by unfold cutBy; rw [hl]
  rw [ec] at h
  cases h
  obtain ⟨s1, s2, s3⟩ := L.stage
  obtain ⟨e1, e2⟩ := L.end_
  have b0 := L.ok.lo0
  have b1 := L.ok.lt
  refine ⟨by show 0 ≤ endF l (K.erase l); omega, e2, s1, ?_⟩
  rw [List.length_erase_of_mem hm] at s3
  have := List.length_pos_of_mem hm
  omega
theorem EX.over {H H' : Hp} {c : Addr} {o : HO} (h : EX H H') (n : NewX H c) : EX H (upd H' c o) := fun b x e t => by
  have ne : b ≠ c := fun z => by
    subst z
    obtain ⟨ps, e'⟩ := n _ e
    exact t ps e'
  rw [upd_ne ne]
  exact h b x e t
theorem NewX.back {H H' : Hp} {r : Addr} (h : EX H H') (n : NewX H' r) : NewX H r := fun o e => by
  cases o with
  | tbl ps => exact ⟨ps, rfl⟩
  | _ => exact n _ (h _ _ e (fun ps z => by cases z))
theorem NewX.of {H : Hp} {r : Addr} (n : H r = none) : NewX H r := fun o e => by rw [n] at e; cases e
theorem Tabs.over {T : List NdefX.NTab} {H : Hp} {c : Addr} {xs ys : List V} (t : NdefX.TabsN T H) (h : H c = some (.lst xs)) : NdefX.TabsN T (upd H c (.lst ys)) := fun p hp => by
  obtain ⟨ps, h1, h2, h3⟩ := t p hp
  have n1 : p.1 ≠ c := fun z => by rw [z, h] at h1; cases h1
  refine ⟨ps, by rw [upd_ne n1]; exact h1, h2, fun pos cv hc => ?_⟩
  obtain ⟨d, e1, e2⟩ := h3 pos cv hc
  have n2 : d ≠ c := fun z => by rw [z, h] at e2; cases e2
  exact ⟨d, e1, by rw [upd_ne n2]; exact e2⟩
def spCuts (K : PySem.W.Frag) (P : Addr) : Sp := fun vs H Q _ => ∃ (a : Addr) (xs : List V) (ss : List Sy) (e : Int), vs = [.int e, .ref a] ∧ SqL K H a xs ∧ SL H xs ss ∧ TbO P H ∧ (∀ s ∈ ss, Good e s) ∧ 0 ≤ e ∧ e ≤ 10 ^ 41 ∧ ss.length ≤ 10000 ∧ (allCuts e ss).length ≤ 14000000 ∧
  ∀ H' o zs, EX H H' → TbO P H' → NewX H o → H' o = some (.lst zs) → CL H' zs (allCuts e ss).reverse → Q (.ref o) H'
abbrev nCuts : List Str := ["length", "sayings", "kept", "cuts", "end", "last", "cut"]
theorem scCuts : FnScope nCuts ["length", "sayings"] (defScope sCuts_of) := ⟨rfl, rfl, rfl, by decide +kernel, rfl, by decide +kernel, by decide +kernel⟩
section
variable {Pg : Program} {w : World} {K : PySem.W.Frag} {mg : Str → Option Value} {base : Heap}
theorem ok_cuts {f P fL fE fB fN : Addr} {fd fdL fdE fdB fdN : FuncData} {k : Nat} (F : Fun K "cuts_of" "cuts_of" sCuts_of f fd)
    (GL : FnOk Pg w K mg base CX0 (k + 3) fL fdL ["sayings"] (spKeptL K)) (kL : PySem.W.keepIn K (.ref fL) = true) (bL : Binds K fdL ["sayings"] []) (mL_ : mg "kept_forms" = some (.ref fL))
    (GE : FnOk Pg w K mg base CX0 (k + 3) fE fdE ["kept"] (spGend K)) (kE : PySem.W.keepIn K (.ref fE) = true) (bE : Binds K fdE ["kept"] []) (mE_ : mg "greatest_end" = some (.ref fE))
    (GB : FnOk Pg w K mg base CX0 (k + 3) fB fdB ["kept"] (spCutby K P)) (kB : PySem.W.keepIn K (.ref fB) = true) (bB : Binds K fdB ["kept"] []) (mB_ : mg "cut_by_leader" = some (.ref fB))
    (GN : FnOk Pg w K mg base CX0 (k + 3) fN fdN ["kept", "fresh"] (spTaken K)) (kN : PySem.W.keepIn K (.ref fN) = true) (bN : Binds K fdN ["kept", "fresh"] []) (mN_ : mg "taken_in" = some (.ref fN)) : FnOk Pg w K mg base CX0 (k + 4) f fd ["length", "sayings"] (spCuts K P) := by
  refine F.ok scCuts (fun vs H Q E h => ?_) (fun cdv A outer s H vs Q E hr h => ?_)
  · obtain ⟨a, xs, ss, e, rfl, _⟩ := h; rfl
  obtain ⟨a, xs, ss, e, rfl, ha, sl, hT, gd, he0, he1, hlen, hN, q⟩ := h
  refine ⟨_, (pss_cons (ps_set (i := 2) scCuts.nd rfl (.inl rfl) (pe_call GN hr (by rfl) mN_ kN bN .nil pass0 (pa_cons (pe_lst pa_nil) (pa_cons (pe_call GL hr (by rfl) mL_ kL bL .nil pass0 (pa_cons (pv 1) pa_nil)) pa_nil))))
    (pss_cons (ps_set (i := 3) scCuts.nd rfl (.inl rfl) (pe_lst pa_nil))
    (pss_cons (ps_set (i := 4) scCuts.nd rfl (.inl rfl) (pv 0))
    (C8.pss_cut (ps_while PassesOwn.never (pt_cmpR op_gt (pv 4) pe_int (nomark _))
      (pss_cons (ps_set (i := 5) scCuts.nd rfl (.inl rfl) (pe_call GE hr (by rfl) mE_ kE bE .nil pass0 (pa_cons (pv 2) pa_nil)))
    (C8.pss_cut (ps_if (pt_cmpR op_lt (pv 5) (pv 4) (nomark _)) (pss_one (ps_set (i := 6) scCuts.nd rfl (.inl rfl) (pe_tup (pa_cons (pv 5) (pa_cons (pv 4) (pa_cons pe_int (pa_cons pe_bl pa_nil))))))) (pss_one (ps_asg (pe_call GB hr (by rfl) mB_ kB bB .nil pass0 (pa_cons (pv 2) pa_nil)) (pg_tup rfl (pgs_cons (pg_name (i := 6) scCuts.nd rfl (.inl rfl)) (pgs_cons (pg_name (i := 2) scCuts.nd rfl (.inl rfl)) pgs_nil))))))
    (pss_cons (ps_expr (pe_bm PySem.F.plainAttrs_list PySem.F.slot_list_append PySem.F.type_list_append mt_append (pv 3) (pa_cons (pv 6) pa_nil)))
    (pss_one (ps_set (i := 4) scCuts.nd rfl (.inl rfl) (pe_ix ix_tup (pv 6) pe_int (fun _ _ => rfl))))))))
    (pss_cons (ps_expr (pe_bm0 PySem.F.plainAttrs_list PySem.F.slot_list_reverse PySem.F.type_list_reverse mt_reverse (pv 3)))
    (pss_one (ps_ret (pv 3)))))))), ?_⟩
  obtain ⟨ok0, _, len0⟩ := start_ok gd
  have fl := forms_len ss
  -- kept = taken_in([], kept_forms(sayings))
  refine ⟨(by show 0 ≤ sizeLine; decide), fun z nz => ?_⟩
  have s1 := same_upd (o := .lst []) nz
  refine ⟨.ref a, rfl, a, xs, ss, rfl, s1.seq ha, SL.ts (TS.of s1) sl, by omega, fun H2 g gv s2 ng eg slg => ?_⟩
  have eg' : SL H2 gv (formsF ss) := slg
  refine ⟨z, g, [], gv, [], formsF ss, e, rfl, .inl (.inl (s2 _ _ upd_same)), .nil, .inl (.inl eg), eg', fun s hs => (by cases hs), forms_ok gd, by simp only [List.length_nil]; omega, fun H3 kA kv s3 nk ek slk => ?_⟩
  have s03 : Same H H3 := (s1.trans s2).trans s3
  -- cuts = []; end = length
  refine ⟨(by show 0 ≤ sizeLine; decide), fun cA nc => ?_⟩
  refine ⟨.int e, rfl, ?_⟩
  have s4 := same_upd (o := .lst []) nc
  have ek4 := s4 _ _ ek
  have slk4 : SL _ kv (startF ss) := SL.ts (TS.of s4) slk
  have ncH : NewX H cA := NewX.of (Same.free s03 nc)
  have ec4 : upd H3 cA (.lst []) cA = some (.lst []) := upd_same
  have s04 := s03.trans s4
  have nkc : kA ≠ cA := fun z => by rw [z, nc] at ek; cases ek
  generalize upd H3 cA (.lst []) = H4 at *
  refine ⟨fun σ' H' => ∃ cv y2 y4 y5 y6, σ' = [some (.int e), some (.ref a), y2, some (.ref cA), y4, y5, y6] ∧ EX H H' ∧ TbO P H' ∧ H' cA = some (.lst cv) ∧ CL H' cv (allCuts e ss), ?_, ?_⟩
  · refine ⟨fun m σ H5 => ∃ (e' : Int) (K' : List Sy) (kA : Addr) (kv cv : List V) (done : List Ct) (y5 y6 : Option V), σ = [some (.int e), some (.ref a), some (.ref kA), some (.ref cA), some (.int e'), y5, y6] ∧ kA ≠ cA ∧ EX H H5 ∧ TbO P H5 ∧ H5 cA = some (.lst cv) ∧ CL H5 cv done ∧ H5 kA = some (.lst kv) ∧ SL H5 kv K' ∧
      done ++ cutsF m e' K' = allCuts e ss ∧ e' ≤ (m : Int) ∧ 0 ≤ e' ∧ e' ≤ e ∧ (∀ s ∈ K', Ok e' s) ∧ K'.length ≤ ss.length, ⟨e.toNat, e, startF ss, kA, kv, [], [], none, none, rfl, nkc, EX.of s04, hT.ext s04, ec4, .nil, ek4, slk4, rfl, by omega, he0, Int.le_refl _, ok0, len0⟩, ?_⟩
    rintro m σ H5 ⟨e', K', kA, kv, cv, done, y5, y6, rfl, hkc, x5, T5, ec, cl, ek, slk, hd, hm, h0, h1, okK, hl⟩
    refine ⟨.int e', rfl, _, 0, rfl, rfl, _, rfl, ite2 (fun d => ?_) (fun d => ?_)⟩
    · have d1 : 0 < e' := of_decide_eq_true d
      obtain ⟨m, rfl⟩ : ∃ m', m = m' + 1 := ⟨m - 1, by omega⟩
      have hun : cutsF (m + 1) e' K' = (if e' ≤ 0 then [] else if gE K' < e' then (⟨gE K', e', 0, false⟩ : Ct) :: cutsF m (gE K') K' else match cutBy K' with | none => [] | some (c, K') => c :: cutsF m c.lo K') := rfl
      rw [if_neg (by omega)] at hun
      refine ⟨fun σ H5 => ∃ (e' : Int) (K' : List Sy) (kA : Addr) (kv cv : List V) (done : List Ct) (y5 y6 : Option V), σ = [some (.int e), some (.ref a), some (.ref kA), some (.ref cA), some (.int e'), y5, y6] ∧ kA ≠ cA ∧ EX H H5 ∧ TbO P H5 ∧ H5 cA = some (.lst cv) ∧ CL H5 cv done ∧ H5 kA = some (.lst kv) ∧ SL H5 kv K' ∧
        done ++ cutsF m e' K' = allCuts e ss ∧ e' ≤ (m : Int) ∧ 0 ≤ e' ∧ e' ≤ e ∧ (∀ s ∈ K', Ok e' s) ∧ K'.length ≤ ss.length, fun σ' H' hN => ⟨m, Nat.lt_succ_self m, hN⟩, ?_⟩
      -- last = greatest_end(kept)
      refine ⟨.ref kA, rfl, kA, kv, K', rfl, .inl (.inl ek), slk, by omega, fun s hs => ?_, fun H6 s6 => ?_⟩
      · have o1 := okK s hs
        have o2 := o1.lo0; have o3 := o1.lt; have o4 := o1.n1
        omega
      have ec6 := s6 _ _ ec
      have ek6 := s6 _ _ ek
      have cl6 := CL.ts (TS.of s6) cl
      have slk6 := SL.ts (TS.of s6) slk
      have x6 := x5.trans (EX.of s6)
      have T6 := T5.ext s6
      refine ⟨fun σ' H' => ∃ (kA : Addr) (kv : List V) (v : V) (c : Ct) (K1 : List Sy) (y5 : Option V), σ' = [some (.int e), some (.ref a), some (.ref kA), some (.ref cA), some (.int e'), y5, some v] ∧ EX H H' ∧ TbO P H' ∧ H' cA = some (.lst cv) ∧ CL H' cv done ∧ H' kA = some (.lst kv) ∧ kA ≠ cA ∧ SL H' kv K1 ∧ IsCt H' v c ∧ cutsF (m + 1) e' K' = c :: cutsF m c.lo K1 ∧ 0 ≤ c.lo ∧ c.lo < e' ∧ (∀ s ∈ K1, Ok c.lo s) ∧ K1.length ≤ ss.length, ?_, ?_⟩
      · refine ⟨.int (gE K'), rfl, .int e', rfl, _, _, rfl, rfl, _, rfl, ite2 (fun c => ?_) (fun c => ?_)⟩
        · have c1 : gE K' < e' := of_decide_eq_true c
          rw [if_pos c1] at hun
          refine ⟨.int (gE K'), rfl, .int e', rfl, (by show 4 ≤ sizeLine; decide), fun t nt => ?_⟩
          have s7 := same_upd (o := .tup [.int (gE K'), .int e', .int 0, .bl false]) nt
          exact ⟨kA, kv, .ref t, ⟨gE K', e', 0, false⟩, K', _, rfl, x6.trans (EX.of s7), T6.ext s7, s7 _ _ ec6, CL.ts (TS.of s7) cl6, s7 _ _ ek6, hkc, SL.ts (TS.of s7) slk6, IsCt.of upd_same, hun, gE_nonneg K', c1, fun s hs => (okK s hs).mono (gE_ge hs), hl⟩
        · have c1 : ¬ gE K' < e' := fun z => c (decide_eq_true z)
          rw [if_neg c1] at hun
          refine ⟨.ref kA, rfl, kA, kv, K', e', rfl, ek6, slk6, T6, okK, d1, by omega, by omega, by omega, fun H7 o v1 r zs c K1 x7 T7 eo ic nr er slr hcb => ?_⟩
          obtain ⟨b1, b2, b3, b4⟩ := cutBy_next okK (by omega) d1 hcb
          rw [hcb] at hun
          refine ⟨o, [v1, .ref r], rfl, .inl (.inl eo), rfl, _, _, rfl, _, _, rfl, rfl, ?_⟩
          exact ⟨r, zs, v1, c, K1, _, rfl, x6.trans x7, T7, EX.lst x7 ec6, CL.ts (EX.ts x7) cl6, er, (nr.ne ec6).symm, slr, ic, hun, b1, b2, b3, by omega⟩
      rintro σ' H7 ⟨kA, kv, v, c, K1, y5', rfl, x7, T7, ec7, cl7, ek7, nkc, slk7, ict, hc, c0, c1, okc, hl7⟩
      have hle : cv.length < 14000000 := by
        have h2 := congrArg List.length hd
        rw [List.length_append, hc, List.length_cons] at h2
        have h3 := cl7.len
        omega
      -- cuts.append(cut)
      refine ⟨.ref cA, rfl, .inl ⟨rfl, _, .inl (.inl ec7)⟩, v, rfl, cA, cv, v, rfl, rfl, ec7, Nat.lt_trans hle (by decide), ?_⟩
      have t8 : TS H7 (upd H7 cA (.lst (cv ++ [v]))) := TS.lst ec7
      obtain ⟨tc, rfl, htc⟩ := ict.ts t8
      -- end = cut[0]
      refine ⟨.ref tc, rfl, tc, _, 0, .int c.lo, rfl, rfl, .inl (.inl htc), rfl, ?_⟩
      refine ⟨c.lo, K1, kA, kv, cv ++ [.ref tc], done ++ [c], _, _, rfl, nkc, x7.over ncH, Tabs.over T7 ec7, upd_same, CL.ts t8 (LL.snoc cl7 ict), by rw [upd_ne nkc]; exact ek7, SL.ts t8 slk7, ?_, by omega, c0, by omega, okc, hl7⟩
      rw [← hd, hc, List.append_assoc]
      rfl
    · have d1 : ¬ 0 < e' := fun z => d (decide_eq_true z)
      have z0 : e' = 0 := by omega
      subst z0
      have hz : cutsF m 0 K' = [] := by
        cases m with
        | zero => rfl
        | succ m => exact if_pos (Int.le_refl 0)
      rw [hz, List.append_nil] at hd
      rw [hd] at cl
      exact ⟨cv, _, _, _, _, rfl, x5, T5, ec, cl⟩
  rintro σ' H5 ⟨cv, y2, y4, y5, y6, rfl, x5, T5, ec, cl⟩
  refine ⟨.ref cA, rfl, .inl ⟨rfl, _, .inl (.inl ec)⟩, cA, cv, rfl, rfl, ec, ?_⟩
  refine ⟨.ref cA, rfl, ?_⟩
  exact q _ cA cv.reverse (x5.over ncH) (Tabs.over T5 ec) ncH upd_same (CL.ts (TS.lst ec) cl.rev)
end
end Rep
namespace Rep
open PySem L2
/-! where a place stands among rows that rise by their first item -/
structure FL (H : Hp) (xs : List V) (fs : List Int) : Prop where
  len : xs.length = fs.length
  at_ : ∀ (i : Nat) (f : Int), fs[i]? = some f → ∃ t r, xs[i]? = some (.ref t) ∧ H t = some (.tup (.int f :: r))
theorem PL.fl {H : Hp} {xs : List V} {ps : List Pr} (h : PL H xs ps) : FL H xs (ps.map (·.1)) := by
  refine ⟨by rw [h.len, List.length_map], fun i f hf => ?_⟩
  rw [List.getElem?_map] at hf
  obtain ⟨p, hp, rfl⟩ := Option.map_eq_some_iff.mp hf
  have hi : i < xs.length := by
    have := (List.getElem?_eq_some_iff.mp hp).1
    rw [h.len]; exact this
  obtain ⟨t, q, et, ht, hq⟩ := h.get (List.getElem?_eq_getElem hi)
  rw [hp] at hq
  cases hq
  exact ⟨t, _, by rw [List.getElem?_eq_getElem hi, et], ht⟩
theorem FL.same {H H' : Hp} {xs : List V} {fs : List Int} (h : FL H xs fs) (s : Same H H') : FL H' xs fs :=
  ⟨h.len, fun i f hf => by obtain ⟨t, r, h1, h2⟩ := h.at_ i f hf; exact ⟨t, r, h1, s _ _ h2⟩⟩
structure Cut (fs : List Int) (x : Int) (L : Nat) : Prop where
  le : L ≤ fs.length
  lo : ∀ (i : Nat) (f : Int), i < L → fs[i]? = some f → f ≤ x
  hi : ∀ (i : Nat) (f : Int), L ≤ i → fs[i]? = some f → x < f
def spBegun (K : PySem.W.Frag) : Sp := fun vs H Q _ => ∃ (a : Addr) (xs : List V) (fs : List Int) (x : Int), vs = [.ref a, .int x] ∧ SqL K H a xs ∧ FL H xs fs ∧ fs.Pairwise (· ≤ ·) ∧ ∀ L : Nat, Cut fs x L → Q (.int (L : Int)) H
abbrev nBegun : List Str := ["rows", "place", "least", "most", "middle"]
theorem scBegun : FnScope nBegun ["rows", "place"] (defScope sBegun) := ⟨rfl, rfl, rfl, by decide +kernel, rfl, by decide +kernel, by decide +kernel⟩
theorem sorted_get {fs : List Int} (h : fs.Pairwise (· ≤ ·)) {i j : Nat} {f g : Int} (hi : fs[i]? = some f) (hj : fs[j]? = some g) (l : i ≤ j) : f ≤ g := by
  obtain ⟨h1, e1⟩ := List.getElem?_eq_some_iff.mp hi
  obtain ⟨h2, e2⟩ := List.getElem?_eq_some_iff.mp hj
  rcases Nat.lt_or_eq_of_le l with l | l
  · rw [← e1, ← e2]; exact List.pairwise_iff_getElem.mp h i j h1 h2 l
  · subst l; rw [← e1, ← e2]; exact Int.le_refl _
section
variable {P : Program} {w : World} {K : PySem.W.Frag} {mg : Str → Option Value} {base : Heap}
theorem ok_begun {f : Addr} {fd : FuncData} {k : Nat} (F : Fun K "begun" "begun" sBegun f fd) (ml : mg "len" = none) : FnOk P w K mg base CX0 (k + 1) f fd ["rows", "place"] (spBegun K) := by
  refine F.ok scBegun (fun vs H Q E h => ?_) (fun cdv A outer s H vs Q E hr h => ?_)
  · obtain ⟨a, xs, fs, x, rfl, _⟩ := h; rfl
  obtain ⟨a, xs, fs, x, rfl, hX, fl, hsrt, q⟩ := h
  refine ⟨_, (pss_cons (ps_par (i := 2) (j := 3) (by rfl) scBegun.nd rfl rfl (by decide) rfl rfl (pa_cons pe_int (pa_cons (pe_callB call_len_seq (by rfl) ml PySem.boot_len (pa_cons (pv 0) pa_nil)) pa_nil)) (by rfl))
    (pss_cons (ps_while PassesOwn.never (pt_cmpR op_lt (pv 2) (pv 3) (nomark _))
      (pss_cons (ps_set (i := 4) scBegun.nd rfl (.inl rfl) (pe_op op_fdiv (pe_op op_add (pv 2) (pv 3)) pe_int))
    (pss_one (ps_if (pt_cmpR op_le (pe_ix ix_tup (pe_ix ix_list (pv 0) (pv 4) (fun _ _ => rfl)) pe_int (fun _ _ => rfl)) (pv 1) (nomark _)) (pss_one (ps_set (i := 2) scBegun.nd rfl (.inl rfl) (pe_op op_add (pv 4) pe_int))) (pss_one (ps_set (i := 3) scBegun.nd rfl (.inl rfl) (pv 4)))))))
    (pss_one (ps_ret (pv 2))))), ?_⟩
  have lx := fl.len
  refine ⟨.ref a, rfl, a, xs, rfl, .inl hX, _, _, rfl, ?_⟩
  refine ⟨fun m σ H3 => ∃ (l h : Nat) (y : Option V), σ = [some (.ref a), some (.int x), some (.int (l : Int)), some (.int (h : Int)), y] ∧ H3 = H ∧ m = h - l ∧ l ≤ h ∧ h ≤ fs.length ∧ (∀ (i : Nat) (f : Int), i < l → fs[i]? = some f → f ≤ x) ∧ (∀ (i : Nat) (f : Int), h ≤ i → fs[i]? = some f → x < f),
    ⟨fs.length, 0, fs.length, none, ?_, rfl, rfl, Nat.zero_le _, Nat.le_refl _, fun i f hi => absurd hi (Nat.not_lt_zero _), fun i f hi hf => ?_⟩, ?_⟩
  · rw [← lx]; rfl
  · have := (List.getElem?_eq_some_iff.mp hf).1
    omega
  rintro m σ H3 ⟨l, h, y, rfl, rfl, rfl, h1, h2, h3, h4⟩
  refine ⟨.int (l : Int), rfl, .int (h : Int), rfl, _, _, rfl, rfl, _, rfl, ite2 (fun c => ?_) (fun c => ?_)⟩
  · have c1 : (l : Int) < (h : Int) := of_decide_eq_true c
    obtain ⟨md, hmd, hmd1, hmd2⟩ : ∃ md : Nat, ((l : Int) + (h : Int)) / 2 = (md : Int) ∧ l ≤ md ∧ md < h := ⟨(((l : Int) + (h : Int)) / 2).toNat, by omega, by omega, by omega⟩
    refine ⟨fun σ' H' => ∃ (l' h' : Nat) (y : Option V), σ' = [some (.ref a), some (.int x), some (.int (l' : Int)), some (.int (h' : Int)), y] ∧ H' = H3 ∧ h' - l' < h - l ∧ l' ≤ h' ∧ h' ≤ fs.length ∧ (∀ (i : Nat) (f : Int), i < l' → fs[i]? = some f → f ≤ x) ∧ (∀ (i : Nat) (f : Int), h' ≤ i → fs[i]? = some f → x < f), fun σ' H' hN => ?_, ?_⟩
    · obtain ⟨l', h', y', e1, e2, e3, e4, e5, e6, e7⟩ := hN
      exact ⟨h' - l', e3, l', h', y', e1, e2, rfl, e4, e5, e6, e7⟩
    refine ⟨.int (l : Int), rfl, .int (h : Int), rfl, _, _, rfl, rfl, _, 2, rfl, rfl, ⟨by decide, by decide⟩, ?_⟩
    show gName 4 (.int (((l : Int) + (h : Int)) / 2)) _ _ _
    rw [hmd]
    have hmf : md < fs.length := by omega
    obtain ⟨t, r, et, ht⟩ := fl.at_ md _ (List.getElem?_eq_getElem hmf)
    refine ⟨.ref a, rfl, .int (md : Int), rfl, a, xs, _, _, rfl, rfl, hX, atI_nat et, t, _, 0, .int fs[md], rfl, rfl, .inl (.inl ht), atI_nat (j := 0) rfl, .int x, rfl, _, _, rfl, rfl, _, rfl, ite2 (fun c => ?_) (fun c => ?_)⟩
    · have c2 : fs[md] ≤ x := of_decide_eq_true c
      refine ⟨.int (md : Int), rfl, _, 1, rfl, rfl, md + 1, h, some (.int (md : Int)), rfl, rfl, by omega, by omega, h2, fun i f hi hf => ?_, h4⟩
      have := sorted_get hsrt hf (List.getElem?_eq_getElem hmf) (by omega)
      omega
    · have c2 : ¬ fs[md] ≤ x := fun e => c (decide_eq_true e)
      refine ⟨.int (md : Int), rfl, l, md, some (.int (md : Int)), rfl, rfl, by omega, by omega, by omega, h3, fun i f hi hf => ?_⟩
      have := sorted_get hsrt (List.getElem?_eq_getElem hmf) hf (by omega)
      omega
  · have c1 : ¬ (l : Int) < (h : Int) := fun e => c (decide_eq_true e)
    have e : l = h := by omega
    subst e
    exact ⟨.int (l : Int), rfl, q l ⟨h2, h3, h4⟩⟩
end
end Rep
namespace Rep
open PySem L2
theorem stg_find {e : Int} {K : List Sy} {D : List Ct} (h : Stg e K D) : ∀ x, 0 ≤ x → x < e → ∃ mid c rest e' K', D = mid ++ c :: rest ∧ Stg e' K' (c :: rest) ∧ e' ≤ e ∧ c.lo ≤ x ∧ x < e' ∧ (∀ p ∈ mid, x < p.lo) ∧ fOf D x = fOf (c :: rest) x := by
  induction h with
  | nil hK => intro x h0 h1; omega
  | @free e e' K C h0 h1 hK st ih =>
    intro x hx hb
    by_cases c : e' ≤ x
    · exact ⟨[], _, C, e, K, rfl, .free h0 h1 hK st, Int.le_refl _, c, hb, (fun p hp => by cases hp), rfl⟩
    · obtain ⟨mid, c', rest, e2, K2, hD, s2, l2, c2, x2, p2, f2⟩ := ih x hx (by omega)
      refine ⟨⟨e', e, 0, false⟩ :: mid, c', rest, e2, K2, by rw [hD]; rfl, s2, by omega, c2, x2, fun p hp => ?_, ?_⟩
      · rcases List.mem_cons.mp hp with rfl | hp
        · show x < e'; omega
        · exact p2 p hp
      · rw [← f2]
        show (if e' ≤ x then _ else fOf C x) = _
        rw [if_neg c]
  | @led e e' K K' c C h0 h1 hK hK' hlo hbe hby hled heq st ih =>
    intro x hx hb
    by_cases d : e' ≤ x
    · exact ⟨[], c, C, e, K, rfl, .led h0 h1 hK hK' hlo hbe hby hled heq st, Int.le_refl _, by omega, hb, (fun p hp => by cases hp), rfl⟩
    · obtain ⟨mid, c', rest, e2, K2, hD, s2, l2, c2, x2, p2, f2⟩ := ih x hx (by omega)
      refine ⟨c :: mid, c', rest, e2, K2, by rw [hD]; rfl, s2, by omega, c2, x2, fun p hp => ?_, ?_⟩
      · rcases List.mem_cons.mp hp with rfl | hp
        · omega
        · exact p2 p hp
      · rw [← f2]
        show (if c.lo ≤ x then _ else fOf C x) = _
        rw [if_neg (by omega)]
theorem stg_head {e : Int} {K : List Sy} {c : Ct} {rest : List Ct} (h : Stg e K (c :: rest)) (hb : 0 < c.by_) : (∀ x, c.lo ≤ x → x < e → 0 ≤ led c x ∧ led c x < c.lo) ∧ ∃ K', Stg c.lo K' rest := by
  cases h with
  | free _ _ _ _ => exact absurd hb (by show ¬ (0 : Int) < 0; decide)
  | led h0 h1 hK hK' hlo hbe hby hled heq st => subst hlo; exact ⟨hled, _, st⟩
theorem stg_sorted {e : Int} {K : List Sy} {D : List Ct} (h : Stg e K D) : (∀ c ∈ D, 0 ≤ c.lo ∧ c.lo < e) ∧ D.Pairwise (fun a b => b.lo < a.lo) := by
  induction h with
  | nil hK => exact ⟨fun c hc => (by cases hc), .nil⟩
  | @free e e' K C h0 h1 hK st ih =>
    refine ⟨fun c hc => ?_, .cons (fun c hc => ?_) ih.2⟩
    · rcases List.mem_cons.mp hc with rfl | hc
      · exact ⟨h0, h1⟩
      · have := ih.1 c hc; omega
    · exact (ih.1 c hc).2
  | @led e e' K K' c C h0 h1 hK hK' hlo hbe hby hled heq st ih =>
    refine ⟨fun d hd => ?_, .cons (fun d hd => ?_) ih.2⟩
    · rcases List.mem_cons.mp hd with rfl | hd
      · omega
      · have := ih.1 d hd; omega
    · rw [hlo]; exact (ih.1 d hd).2
theorem stg_rise {e : Int} {K : List Sy} {D : List Ct} (h : Stg e K D) : (D.reverse.map (·.lo)).Pairwise (· ≤ ·) := by
  rw [List.map_reverse, List.pairwise_reverse, List.pairwise_map]
  exact (stg_sorted h).2.imp fun h => Int.le_of_lt h
/-- where the search ends -/
theorem cut_at {D mid rest : List Ct} {c : Ct} {x : Int} {L : Nat} (hD : D = mid ++ c :: rest) (hc : c.lo ≤ x) (hm : ∀ p ∈ mid, x < p.lo) (h : Cut (D.reverse.map (·.lo)) x L) : L = rest.length + 1 ∧ D.reverse[rest.length]? = some c := by
  have e1 : D.reverse = rest.reverse ++ c :: mid.reverse := by rw [hD, List.reverse_append, List.reverse_cons, List.append_assoc]; rfl
  have e2 : D.reverse[rest.length]? = some c := by
    rw [e1, List.getElem?_append_right (by rw [List.length_reverse]; exact Nat.le_refl _), List.length_reverse, Nat.sub_self]
    rfl
  refine ⟨?_, e2⟩
  have g1 : (D.reverse.map (·.lo))[rest.length]? = some c.lo := by rw [List.getElem?_map, e2]; rfl
  have l1 : rest.length < L := by
    by_cases z : L ≤ rest.length
    · have := h.hi _ _ z g1; omega
    · omega
  by_cases z : rest.length + 1 < L
  · have hl := h.le
    rw [List.length_map, List.length_reverse] at hl
    have hlD : D.length = mid.length + (rest.length + 1) := by rw [hD, List.length_append, List.length_cons]
    have hi : rest.length + 1 < D.reverse.length := by rw [List.length_reverse]; omega
    have g2 : D.reverse[rest.length + 1]? = mid.reverse[0]? := by
      rw [e1, List.getElem?_append_right (by rw [List.length_reverse]; omega), List.length_reverse, Nat.add_sub_cancel_left]
      rfl
    have g3 := List.getElem?_eq_getElem hi
    rw [g2] at g3
    have hmem : D.reverse[rest.length + 1] ∈ mid := List.mem_reverse.mp (List.mem_of_getElem? g3)
    have g4 : (D.reverse.map (·.lo))[rest.length + 1]? = some (D.reverse[rest.length + 1]).lo := by rw [List.getElem?_map, List.getElem?_eq_getElem hi]; rfl
    have := h.lo _ _ z g4
    have := hm _ hmem
    omega
  · omega
theorem CL.fl {H : Hp} {xs : List V} {cs : List Ct} (h : CL H xs cs) : FL H xs (cs.map (·.lo)) := by
  refine ⟨by rw [h.len, List.length_map], fun i f hf => ?_⟩
  rw [List.getElem?_map] at hf
  obtain ⟨p, hp, rfl⟩ := Option.map_eq_some_iff.mp hf
  obtain ⟨v, hv, t, rfl, ht⟩ := h.get' hp
  exact ⟨t, _, hv, ht⟩
def spLedp : Sp := fun vs H Q _ => ∃ (v : V) (c : Ct) (x : Int), vs = [v, .int x] ∧ IsCt H v c ∧ (c.t = false → 0 < c.by_ ∧ Big c.by_ ∧ c.lo ≤ x ∧ Big (x - c.lo + 1)) ∧ Q (.int (led c x)) H
abbrev nLedp : List Str := ["cut", "place", "low", "behind", "by", "turned"]
theorem scLedp : FnScope nLedp ["cut", "place"] (defScope sLed_place) := ⟨rfl, rfl, rfl, by decide +kernel, rfl, by decide +kernel, by decide +kernel⟩
section
variable {P : Program} {w : World} {K : PySem.W.Frag} {mg : Str → Option Value} {base : Heap}
theorem ok_ledp {f : Addr} {fd : FuncData} {k : Nat} (F : Fun K "led_place" "led_place" sLed_place f fd) : FnOk P w K mg base CX0 (k + 1) f fd ["cut", "place"] spLedp := by
  refine F.ok scLedp (fun vs H Q E h => ?_) (fun cdv A outer s H vs Q E hr h => ?_)
  · obtain ⟨v, c, x, rfl, _⟩ := h; rfl
  obtain ⟨v, c, x, rfl, ⟨t, rfl, ht⟩, hb, q⟩ := h
  refine ⟨_, (pss_cons (ps_asg (pv 0) (pg_tup rfl (pgs_cons (pg_name (i := 2) scLedp.nd rfl (.inl rfl)) (pgs_cons (pg_name (i := 3) scLedp.nd rfl (.inl rfl)) (pgs_cons (pg_name (i := 4) scLedp.nd rfl (.inl rfl)) (pgs_cons (pg_name (i := 5) scLedp.nd rfl (.inl rfl)) pgs_nil))))))
    (pss_cons (ps_if (pt_val (pv 5)) (pss_one (ps_ret (pe_op op_sub (pv 4) (pv 1)))) pss_nil)
    (pss_one (ps_ret (pe_op op_sub (pv 1) (pe_op op_mulW (pe_op op_add (pe_op op_fdivW (pe_op op_sub (pv 1) (pv 2)) (pv 4)) pe_int) (pv 4))))))), ?_⟩
  refine ⟨.ref t, rfl, t, _, rfl, .inl (.inl ht), rfl, _, _, rfl, _, _, rfl, _, _, rfl, _, _, rfl, rfl, ?_⟩
  refine ⟨.bl c.t, rfl, c.t, rfl, ite2 (fun d => ?_) (fun d => ?_)⟩
  · refine ⟨.int c.by_, rfl, .int x, rfl, _, _, rfl, rfl, ?_⟩
    have e : led c x = c.by_ - x := if_pos d
    rw [e] at q
    exact q
  · have d' : c.t = false := by cases e : c.t with | false => rfl | true => exact absurd e d
    obtain ⟨h1, h2, h3, h4⟩ := hb d'
    have e : led c x = x - ((x - c.lo) / c.by_ + 1) * c.by_ := if_neg d
    rw [e] at q
    have q0 : 0 ≤ (x - c.lo) / c.by_ := Int.ediv_nonneg (by omega) (by omega)
    have q1 : (x - c.lo) / c.by_ ≤ x - c.lo := Int.ediv_le_self _ (by omega)
    refine ⟨.int x, rfl, .int x, rfl, .int c.lo, rfl, _, _, rfl, rfl, .int c.by_, rfl, _, _, rfl, rfl, wide_div h1 (big_abs h2) (by decide) (by decide), _, 1, rfl, rfl, .int c.by_, rfl, _, _, rfl, rfl, wide_mul (a := 200) (b := 200) (big_abs ⟨by have := h4.1; omega, by have := h4.2; omega⟩) (big_abs h2) (by decide) (by decide) (by decide), _, _, rfl, rfl, ?_⟩
    exact q
end
def spFirst (K : PySem.W.Frag) : Sp := fun vs H Q _ => ∃ (a : Addr) (xs : List V) (D : List Ct) (e x : Int) (K0 : List Sy), vs = [.ref a, .int x] ∧ SqL K H a xs ∧ CL H xs D.reverse ∧ Stg e K0 D ∧ 0 ≤ x ∧ x < e ∧ e ≤ 10 ^ 41 ∧ Q (.int (fOf D x)) H
abbrev nFirst : List Str := ["cuts", "place", "cut"]
theorem scFirst : FnScope nFirst ["cuts", "place"] (defScope sFirst_of) := ⟨rfl, rfl, rfl, by decide +kernel, rfl, by decide +kernel, by decide +kernel⟩
theorem by_le {c : Ct} {x : Int} (ht : c.t = false) (h0 : 0 < c.by_) (hl : c.lo ≤ x) (h : 0 ≤ led c x) : c.by_ ≤ x := by
  have e : led c x = x - ((x - c.lo) / c.by_ + 1) * c.by_ := if_neg (by rw [ht]; decide)
  rw [e] at h
  have q0 : 0 ≤ (x - c.lo) / c.by_ := Int.ediv_nonneg (by omega) (by omega)
  have : 1 * c.by_ ≤ ((x - c.lo) / c.by_ + 1) * c.by_ := Int.mul_le_mul_of_nonneg_right (by omega) (by omega)
  omega
section
variable {P : Program} {w : World} {K : PySem.W.Frag} {mg : Str → Option Value} {base : Heap}
theorem ok_first {f fB fL : Addr} {fd fdB fdL : FuncData} {k : Nat} (F : Fun K "first_of" "first_of" sFirst_of f fd) (GB : FnOk P w K mg base CX0 (k + 1) fB fdB ["rows", "place"] (spBegun K)) (kB : PySem.W.keepIn K (.ref fB) = true) (bB : Binds K fdB ["rows", "place"] []) (mB_ : mg "begun" = some (.ref fB))
    (GL : FnOk P w K mg base CX0 (k + 1) fL fdL ["cut", "place"] spLedp) (kL : PySem.W.keepIn K (.ref fL) = true) (bL : Binds K fdL ["cut", "place"] []) (mL_ : mg "led_place" = some (.ref fL)) : FnOk P w K mg base CX0 (k + 2) f fd ["cuts", "place"] (spFirst K) := by
  refine F.ok scFirst (fun vs H Q E h => ?_) (fun cdv A outer s H vs Q E hr h => ?_)
  · obtain ⟨a, xs, D, e, x, K0, rfl, _⟩ := h; rfl
  obtain ⟨a, xs, D, e, x, K0, rfl, hX, cl, st, hx0, hx1, he, q⟩ := h
  refine ⟨_, (pss_cons (ps_set (i := 2) scFirst.nd rfl (.inl rfl) (pe_ix ix_list (pv 0) (pe_op op_sub (pe_call GB hr (by rfl) mB_ kB bB .nil pass0 (pa_cons (pv 0) (pa_cons (pv 1) pa_nil))) pe_int) (fun _ _ => rfl)))
    (pss_cons (ps_while PassesOwn.never (pt_cmpR op_gt (pe_ix ix_tup (pv 2) pe_int (fun _ _ => rfl)) pe_int (nomark _))
      (pss_cons (ps_set (i := 1) scFirst.nd rfl (.inl rfl) (pe_call GL hr (by rfl) mL_ kL bL .nil pass0 (pa_cons (pv 2) (pa_cons (pv 1) pa_nil))))
    (pss_one (ps_set (i := 2) scFirst.nd rfl (.inl rfl) (pe_ix ix_list (pv 0) (pe_op op_sub (pe_call GB hr (by rfl) mB_ kB bB .nil pass0 (pa_cons (pv 0) (pa_cons (pv 1) pa_nil))) pe_int) (fun _ _ => rfl))))))
    (pss_one (ps_ret (pv 1))))), ?_⟩
  -- the search, once
  have seek : ∀ (pre suf : List Ct) (e' : Int) (K' : List Sy) (y : Int), D = pre ++ suf → Stg e' K' suf → e' ≤ e → 0 ≤ y → y < e' → (∀ p ∈ pre, y < p.lo) →
      ∃ v pre' c rest e2 K2, D = pre' ++ c :: rest ∧ rest.length < suf.length ∧ Stg e2 K2 (c :: rest) ∧ e2 ≤ e ∧ c.lo ≤ y ∧ y < e2 ∧ (∀ p ∈ pre', y < p.lo) ∧ fOf suf y = fOf (c :: rest) y ∧ IsCt H v c ∧ ∀ L : Nat, Cut (D.reverse.map (·.lo)) y L → atI xs ((L : Int) - 1) = some v := by
    intro pre suf e' K' y hD hs he' hy hb hp
    obtain ⟨mid, c, rest, e2, K2, hS, s2, l2, c2, x2, p2, f2⟩ := stg_find hs y hy hb
    have hD' : D = (pre ++ mid) ++ c :: rest := by rw [hD, hS, List.append_assoc]
    have hm : ∀ p ∈ pre ++ mid, y < p.lo := fun p h => (List.mem_append.mp h).elim (hp p) (p2 p)
    have hat : D.reverse[rest.length]? = some c := by
      rw [hD', List.reverse_append, List.reverse_cons, List.append_assoc, List.getElem?_append_right (by rw [List.length_reverse]; exact Nat.le_refl _), List.length_reverse, Nat.sub_self]
      rfl
    obtain ⟨v, hv, ic⟩ := cl.get' hat
    refine ⟨v, pre ++ mid, c, rest, e2, K2, hD', by rw [hS, List.length_append, List.length_cons]; omega, s2, by omega, c2, x2, hm, f2, ic, fun L hL => ?_⟩
    obtain ⟨e1, _⟩ := cut_at hD' c2 hm hL
    have : ((L : Int) - 1) = (rest.length : Int) := by omega
    rw [this]
    exact atI_nat hv
  have hsr := stg_rise st
  obtain ⟨v, pre, c, rest, e2, K2, hD, _, s2, l2, c2, x2, hp, f2, ic, hat⟩ := seek [] D e K0 x rfl st (Int.le_refl _) hx0 hx1 (fun p hp => by cases hp)
  refine ⟨.ref a, rfl, .ref a, rfl, .int x, rfl, a, xs, _, x, rfl, hX, cl.fl, hsr, fun L hL => ?_⟩
  refine ⟨_, 1, rfl, rfl, a, xs, _, v, rfl, rfl, hX, hat L hL, ?_⟩
  refine ⟨fun m σ H3 => ∃ (y : Int) (v : V) (pre : List Ct) (c : Ct) (rest : List Ct) (e2 : Int) (K2 : List Sy), σ = [some (.ref a), some (.int y), some v] ∧ H3 = H ∧ m = rest.length ∧ D = pre ++ c :: rest ∧ Stg e2 K2 (c :: rest) ∧ e2 ≤ e ∧ 0 ≤ y ∧ c.lo ≤ y ∧ y < e2 ∧ (∀ p ∈ pre, y < p.lo) ∧ IsCt H v c ∧ fOf D x = fOf (c :: rest) y,
    ⟨rest.length, x, v, pre, c, rest, e2, K2, rfl, rfl, rfl, hD, s2, l2, hx0, c2, x2, hp, ic, f2⟩, ?_⟩
  rintro m σ H3 ⟨y, v, pre, c, rest, e2, K2, rfl, rfl, rfl, hD, s2, l2, y0, c2, x2, hp, ⟨t, rfl, ht⟩, hf⟩
  refine ⟨.ref t, rfl, t, _, 2, .int c.by_, rfl, rfl, .inl (.inl ht), rfl, _, 0, rfl, rfl, _, rfl, ite2 (fun d => ?_) (fun d => ?_)⟩
  · have d1 : 0 < c.by_ := of_decide_eq_true d
    obtain ⟨hl, K3, s3⟩ := stg_head s2 d1
    obtain ⟨g0, g1⟩ := hl y c2 x2
    have lo0 := ((stg_sorted s2).1 c List.mem_cons_self).1
    have f3 : fOf (c :: rest) y = fOf rest (led c y) := by
      show (if c.lo ≤ y then (if 0 < c.by_ then _ else y) else _) = _
      rw [if_pos c2, if_pos d1]
    obtain ⟨v', pre', c', rest', e4, K4, hD4, hlt, s4, l4, c4, x4, hp4, f4, ic4, hat4⟩ := seek (pre ++ [c]) rest c.lo K3 (led c y) (by rw [hD, List.append_assoc]; rfl) s3 (by omega) g0 g1 (fun p h => by
      rcases List.mem_append.mp h with h | h
      · have := hp p h; omega
      · rw [List.mem_singleton.mp h]; exact g1)
    refine ⟨fun σ H4 => σ = [some (.ref a), some (.int (led c y)), some v'] ∧ H4 = H3, fun σ' H' hN => ⟨rest'.length, hlt, led c y, v', pre', c', rest', e4, K4, hN.1, hN.2, rfl, hD4, s4, l4, g0, c4, x4, hp4, ic4, by rw [hf, f3, f4]⟩, ?_⟩
    refine ⟨.ref t, rfl, .int y, rfl, .ref t, c, y, rfl, ⟨t, rfl, ht⟩, fun tf => ?_, ?_⟩
    · have := by_le tf d1 c2 g0
      refine ⟨d1, ⟨by omega, by omega⟩, c2, ⟨by omega, by omega⟩⟩
    refine ⟨.ref a, rfl, .ref a, rfl, .int (led c y), rfl, a, xs, _, led c y, rfl, hX, cl.fl, hsr, fun L hL => ?_⟩
    exact ⟨_, 1, rfl, rfl, a, xs, _, v', rfl, rfl, hX, hat4 L hL, rfl, rfl⟩
  · have d1 : ¬ 0 < c.by_ := fun z => d (decide_eq_true z)
    have f3 : fOf (c :: rest) y = y := by
      show (if c.lo ≤ y then (if 0 < c.by_ then _ else y) else _) = _
      rw [if_pos c2, if_neg d1]
    rw [hf, f3] at q
    exact ⟨.int y, rfl, q⟩
end
end Rep
namespace Rep
open PySem L2
theorem ixN_last {n : Nat} : ixN (n + 1) (-1) = some n := by
  unfold ixN
  rw [if_neg (by decide), if_pos (by omega)]
  congr 1
  omega
theorem set_last {α : Type} (ws : List α) (a b : α) : (ws ++ [a]).set ws.length b = ws ++ [b] := by
  rw [List.set_append_right _ _ (Nat.le_refl _), Nat.sub_self]
  rfl
end Rep
namespace Rep
open PySem L2
/-! tidy -/
theorem tStep_len (acc : List Pr) (p : Pr) : (tStep acc p).length ≤ acc.length + 1 := by
  unfold tStep
  split
  · omega
  · cases acc with
    | nil => exact Nat.le_refl _
    | cons q r =>
      show (if q.2 < p.1 then p :: q :: r else if q.2 < p.2 then (q.1, p.2) :: r else q :: r).length ≤ _
      split
      · exact Nat.le_refl _
      · split
        · show r.length + 1 ≤ r.length + 1 + 1; omega
        · show r.length + 1 ≤ r.length + 1 + 1; omega
theorem foldT_len : ∀ (zs : List Pr) (acc : List Pr), (zs.foldl tStep acc).length ≤ acc.length + zs.length
  | [], _ => Nat.le_refl _
  | z :: zs, acc => by
    have a := foldT_len zs (tStep acc z)
    have b := tStep_len acc z
    show (zs.foldl tStep (tStep acc z)).length ≤ _
    rw [List.length_cons]
    omega
def spTidy (K : PySem.W.Frag) : Sp := fun vs H Q _ => ∃ (a : Addr) (xs : List V) (ps : List Pr), vs = [.ref a] ∧ SqL K H a xs ∧ PL H xs ps ∧ ps.length ≤ 14000000 ∧
  ∀ H' o ys R, Same H H' → H o = none → H' o = some (.lst ys) → PL H' ys R → Tdy R → (∀ x, cov R x ↔ cov ps x) → R.length ≤ ps.length → Q (.ref o) H'
theorem scTidy : FnScope ["rows", "out", "low", "behind"] ["rows"] (defScope sTidy) := ⟨rfl, rfl, rfl, by decide +kernel, rfl, by decide +kernel, by decide +kernel⟩
section
variable {P : Program} {w : World} {K : PySem.W.Frag} {mg : Str → Option Value} {base : Heap}
theorem ok_tidy {f : Addr} {fd : FuncData} {k : Nat} (F : Fun K "tidy" "tidy" sTidy f fd) (ms : mg "sorted" = none) : FnOk P w K mg base CX0 (k + 1) f fd ["rows"] (spTidy K) := by
  refine F.ok scTidy (fun vs H Q E h => ?_) (fun cdv A outer s H vs Q E hr h => ?_)
  · obtain ⟨a, ks, _, rfl, _⟩ := h; rfl
  obtain ⟨a, xs, ps, rfl, hS, pl, lp, q⟩ := h
  refine ⟨_, pss_cons (ps_set (i := 1) scTidy.nd rfl (.inl rfl) (pe_lst pa_nil))
    (pss_cons (ps_for PassesOwn.never rfl (pi_list (pe_callB cr_sortedPO (by rfl) ms PyProof.Rows.boot_sorted (pa_cons (pv 0) pa_nil))) (pg_tup rfl (pgs_cons (pg_name (i := 2) scTidy.nd rfl (.inl rfl)) (pgs_cons (pg_name (i := 3) scTidy.nd rfl (.inl rfl)) pgs_nil)))
      (pss_cons (ps_if (pt_cmpR op_ge (pv 2) (pv 3) (nomark _)) (pss_one ps_continue) pss_nil)
      (pss_one (ps_if (PW.pt (pw_or (pt_not (pt_truth (pv 1) (by intro _; rfl))) (pw_or1 (pt_cmpR op_gt (pv 2) (pe_ix ix_tup (pe_ix ix_list (pv 1) (pe_un un_neg pe_int) (fun _ _ => rfl)) pe_int (fun _ _ => rfl)) (nomark _)))))
        (pss_one (ps_expr (pe_bm PySem.F.plainAttrs_list PySem.F.slot_list_append PySem.F.type_list_append mt_append (pv 1) (pa_cons (pe_tup (pa_cons (pv 2) (pa_cons (pv 3) pa_nil))) pa_nil))))
        (pss_one (ps_if (pt_cmpR op_gt (pv 3) (pe_ix ix_tup (pe_ix ix_list (pv 1) (pe_un un_neg pe_int) (fun _ _ => rfl)) pe_int (fun _ _ => rfl)) (nomark _))
          (pss_one (ps_asg (pe_tup (pa_cons (pe_ix ix_tup (pe_ix ix_list (pv 1) (pe_un un_neg pe_int) (fun _ _ => rfl)) pe_int (fun _ _ => rfl)) (pa_cons (pv 3) pa_nil))) (pg_sub (pv 1) (pe_un un_neg pe_int) set_list))) pss_nil))))))
    (pss_one (ps_ret (pv 1)))), ?_⟩
  refine ⟨Nat.zero_le _, fun o no => ?_⟩
  have s1 : Same H (upd H o (.lst [])) := same_upd no
  refine ⟨.ref a, rfl, a, xs, kOf H, rfl, s1.seq hS, fun x hx => ?_, fun ys pz hsr hst npz => ?_⟩
  · obtain ⟨t, e, ht⟩ := pl.all x hx
    exact ⟨t, e, s1 _ _ ht⟩
  obtain ⟨ply, pzs⟩ := pl.perm hst.perm
  have hsrt : (ys.map (kOf H)).Pairwise (fun p q => p.1 ≤ q.1) := by
    rw [List.pairwise_map]
    refine List.Pairwise.imp (fun {x y} h => ?_) hsr
    have := SrtO.lexB_no.mp h
    omega
  have hcov : ∀ x, cov (ys.map (kOf H)) x ↔ cov ps x := fun x => cov_perm pzs
  have hlz : (ys.map (kOf H)).length = ps.length := pzs.length_eq
  generalize ys.map (kOf H) = zs at *
  have s3 := same_upd (o := .lst ys) npz
  have eo1 := s3 _ _ (upd_same (H := H) (a := o) (o := .lst []))
  have nez : pz ≠ o := fun e => by
    rw [e, upd_same] at npz
    cases npz
  obtain ⟨tt1, tt2⟩ := tidyF_tdy hsrt
  refine ⟨pz, rfl, ⟨_, .inl (.inl upd_same)⟩, for_list (xs := ys) (fun i σ H3 => ∃ y2 y3 xs', σ = [some (.ref a), some (.ref o), y2, y3] ∧ Same H H3 ∧ H3 pz = some (.lst ys) ∧ H3 o = some (.lst xs') ∧ PL H3 xs' ((zs.take i).foldl tStep []).reverse)
    ⟨none, none, [], rfl, s1.trans s3, upd_same, eo1, .nil⟩ (fun i σ H3 _ hP => ?_) (fun i v σ H3 hv hP => ?_) (fun σ H3 hP => ?_)⟩
  · obtain ⟨_, _, _, _, _, ez, _⟩ := hP
    exact .inl (.inl ez)
  · obtain ⟨y2, y3, xs', rfl, sm, ez, eo, pl3⟩ := hP
    obtain ⟨t, p, rfl, ht, hp⟩ := ply.get hv
    have hi : i < zs.length := (List.getElem?_eq_some_iff.mp hp).1
    have ef : (zs.take (i + 1)).foldl tStep [] = tStep ((zs.take i).foldl tStep []) p := by
      rw [List.take_add_one, hp, List.foldl_append]; rfl
    have hlen : ((zs.take i).foldl tStep []).length ≤ 14000000 := by
      have := foldT_len (zs.take i) []
      rw [List.length_take] at this
      have e0 : ([] : List Pr).length = 0 := rfl
      omega
    rw [ef]
    generalize (zs.take i).foldl tStep [] = acc at *
    refine ⟨t, [.int p.1, .int p.2], rfl, .inl (.inl (sm _ _ ht)), rfl, _, _, rfl, _, _, rfl, rfl, ?_⟩
    refine ⟨.int p.1, rfl, .int p.2, rfl, _, _, rfl, rfl, _, rfl, ite2 (fun c => ?_) (fun c => ?_)⟩
    · have c' : p.2 ≤ p.1 := of_decide_eq_true c
      have e : tStep acc p = acc := if_pos c'
      rw [e]
      exact ⟨_, _, xs', rfl, sm, ez, eo, pl3⟩
    · have c' : ¬ p.2 ≤ p.1 := fun e => c (decide_eq_true e)
      refine ⟨.ref o, rfl, _, .inl ⟨xs', .inl (.inl eo), rfl⟩, ?_⟩
      cases acc with
      | nil =>
        have ex : xs' = [] := by have := pl3.len; simpa using this
        subst ex
        refine iteT (iteT ?_)
        refine ⟨.ref o, rfl, .inl ⟨rfl, _, .inl (.inl eo)⟩, .int p.1, rfl, .int p.2, rfl, (by show 2 ≤ sizeLine; decide), fun t2 nt => ?_⟩
        have s5 := same_upd (o := .tup [.int p.1, .int p.2]) nt
        have eo5 := s5 _ _ eo
        refine ⟨o, _, _, rfl, rfl, eo5, by decide, _, _, [.ref t2], rfl, same_over (sm.trans s5) no, ?_, upd_same, ?_⟩
        · rw [upd_ne nez]; exact s5 _ _ ez
        · have e : tStep [] p = [p] := if_neg c'
          rw [e]
          exact (PL.nil.snoc (upd_same (H := H3))).ts (TS.lst eo5)
      | cons u r =>
        rw [List.reverse_cons] at pl3
        obtain ⟨ws, tu, rfl, plw, htu⟩ := pl3.cut
        have hwl : (ws ++ [V.ref tu]).length < sizeLine := by
          have h1 := pl3.len
          rw [h1, List.length_append, List.length_reverse, List.length_singleton]
          have h2 : (u :: r).length = r.length + 1 := rfl
          exact Nat.lt_of_le_of_lt (show r.length + 1 ≤ 14000000 by omega) (by decide)
        have rf : (ws ++ [V.ref tu]).isEmpty = false := by simp
        rw [rf]
        refine iteF ?_
        have et : tStep (u :: r) p = if u.2 < p.1 then p :: u :: r else if u.2 < p.2 then (u.1, p.2) :: r else u :: r := if_neg c'
        refine ⟨.int p.1, rfl, .ref o, rfl, 1, rfl, o, _, _, _, rfl, rfl, .inl (.inl eo), atI_last ws (.ref tu), tu, _, 1, .int u.2, rfl, rfl, .inl (.inl htu), rfl, _, _, rfl, rfl, _, rfl, ite2 (fun d => ?_) (fun d => ?_)⟩
        · have d' : u.2 < p.1 := of_decide_eq_true d
          refine ⟨.ref o, rfl, .inl ⟨rfl, _, .inl (.inl eo)⟩, .int p.1, rfl, .int p.2, rfl, (by show 2 ≤ sizeLine; decide), fun t2 nt => ?_⟩
          have s5 := same_upd (o := .tup [.int p.1, .int p.2]) nt
          have eo5 := s5 _ _ eo
          refine ⟨o, _, _, rfl, rfl, eo5, hwl, _, _, (ws ++ [.ref tu]) ++ [.ref t2], rfl, same_over (sm.trans s5) no, ?_, upd_same, ?_⟩
          · rw [upd_ne nez]; exact s5 _ _ ez
          · rw [et, if_pos d', List.reverse_cons, List.reverse_cons]
            exact ((pl3.ts (TS.of s5)).snoc (upd_same (H := H3))).ts (TS.lst eo5)
        · have d' : ¬ u.2 < p.1 := fun e => d (decide_eq_true e)
          refine ⟨.int p.2, rfl, .ref o, rfl, 1, rfl, o, _, _, _, rfl, rfl, .inl (.inl eo), atI_last ws (.ref tu), tu, _, 1, .int u.2, rfl, rfl, .inl (.inl htu), rfl, _, _, rfl, rfl, _, rfl, ite2 (fun g => ?_) (fun g => ?_)⟩
          · have g' : u.2 < p.2 := of_decide_eq_true g
            refine ⟨.ref o, rfl, 1, rfl, o, _, _, _, rfl, rfl, .inl (.inl eo), atI_last ws (.ref tu), tu, _, 0, .int u.1, rfl, rfl, .inl (.inl htu), rfl, .int p.2, rfl, (by show 2 ≤ sizeLine; decide), fun t2 nt => ?_⟩
            have s5 := same_upd (o := .tup [.int u.1, .int p.2]) nt
            have eo5 := s5 _ _ eo
            refine ⟨.ref o, rfl, 1, rfl, o, _, -1, ws.length, rfl, rfl, eo5, ?_, _, _, ws ++ [.ref t2], rfl, same_over (sm.trans s5) no, ?_, ?_, ?_⟩
            · rw [List.length_append]; exact ixN_last
            · rw [upd_ne nez]; exact s5 _ _ ez
            · rw [upd_same, set_last]
            · rw [et, if_neg d', if_pos g', List.reverse_cons]
              exact ((plw.ts (TS.of s5)).snoc (upd_same (H := H3))).ts (TS.lst eo5)
          · have g' : ¬ u.2 < p.2 := fun e => g (decide_eq_true e)
            refine ⟨_, _, ws ++ [.ref tu], rfl, sm, ez, eo, ?_⟩
            rw [et, if_neg d', if_neg g', List.reverse_cons]
            exact pl3
  · obtain ⟨y2, y3, xs', rfl, sm, ez, eo, pl3⟩ := hP
    rw [ply.len, List.take_length] at pl3
    refine ⟨.ref o, rfl, q H3 o xs' (tidyF zs) sm no eo pl3 tt1 (fun x => by rw [tt2, hcov]) ?_⟩
    have := foldT_len zs []
    unfold tidyF
    rw [List.length_reverse]
    have e0 : ([] : List Pr).length = 0 := rfl
    omega
end
end Rep
namespace Rep
open PySem L2
/-! the free cuts are the firsts -/
theorem stg_free {e : Int} {K : List Sy} {D : List Ct} (h : Stg e K D) : ∀ x, (∃ c ∈ D, c.by_ = 0 ∧ c.lo ≤ x ∧ x < c.be) ↔ (0 ≤ x ∧ x < e ∧ fOf D x = x) := by
  induction h with
  | nil hK => exact fun x => ⟨fun ⟨c, hc, _⟩ => (by cases hc), fun h => by omega⟩
  | @free e e' K C h0 h1 hK st ih =>
    intro x
    have hf : fOf (⟨e', e, 0, false⟩ :: C) x = if e' ≤ x then x else fOf C x := by
      show (if e' ≤ x then (if (0 : Int) < 0 then _ else x) else _) = _
      rw [if_neg (show ¬ (0 : Int) < 0 by decide)]
    rw [hf]
    constructor
    · rintro ⟨c, hc, h2, h3, h4⟩
      rcases List.mem_cons.mp hc with rfl | hc
      · have h3' : e' ≤ x := h3
        have h4' : x < e := h4
        rw [if_pos h3']
        exact ⟨by omega, h4', rfl⟩
      · obtain ⟨a, b, g⟩ := (ih x).mp ⟨c, hc, h2, h3, h4⟩
        rw [if_neg (by omega)]
        exact ⟨a, by omega, g⟩
    · rintro ⟨a, b, g⟩
      by_cases d : e' ≤ x
      · exact ⟨_, List.mem_cons_self, rfl, d, b⟩
      · rw [if_neg d] at g
        obtain ⟨c, hc, r⟩ := (ih x).mpr ⟨a, by omega, g⟩
        exact ⟨c, List.mem_cons_of_mem _ hc, r⟩
  | @led e e' K K' c C h0 h1 hK hK' hlo hbe hby hled heq st ih =>
    intro x
    have hf : fOf (c :: C) x = if e' ≤ x then fOf C (led c x) else fOf C x := by
      show (if c.lo ≤ x then (if 0 < c.by_ then _ else x) else _) = _
      rw [hlo, if_pos hby]
    rw [hf]
    constructor
    · rintro ⟨d, hd, h2, h3, h4⟩
      rcases List.mem_cons.mp hd with rfl | hd
      · omega
      · obtain ⟨a, b, g⟩ := (ih x).mp ⟨d, hd, h2, h3, h4⟩
        rw [if_neg (by omega)]
        exact ⟨a, by omega, g⟩
    · rintro ⟨a, b, g⟩
      by_cases d : e' ≤ x
      · rw [if_pos d] at g
        obtain ⟨l0, l1⟩ := hled x d b
        have := ((fOf_ok st).1 _ l0 l1).2.1
        omega
      · rw [if_neg d] at g
        obtain ⟨c', hc, r⟩ := (ih x).mpr ⟨a, by omega, g⟩
        exact ⟨c', List.mem_cons_of_mem _ hc, r⟩
def freeF (D : List Ct) : List Pr := (D.filter fun c => decide (c.by_ = 0)).map fun c => (c.lo, c.be)
theorem free_cov {D : List Ct} {x : Int} : cov (freeF D) x ↔ ∃ c ∈ D, c.by_ = 0 ∧ c.lo ≤ x ∧ x < c.be := by
  constructor
  · rintro ⟨p, hp, h⟩
    obtain ⟨c, hc, rfl⟩ := List.mem_map.mp hp
    obtain ⟨h1, h2⟩ := List.mem_filter.mp hc
    exact ⟨c, h1, of_decide_eq_true h2, h⟩
  · rintro ⟨c, hc, h1, h2⟩
    exact ⟨_, List.mem_map.mpr ⟨c, List.mem_filter.mpr ⟨hc, decide_eq_true h1⟩, rfl⟩, h2⟩
/-! checks -/
theorem ps_never {X : Cx} {st : Stmt} : PS X st (fun _ _ _ => False) := ⟨fun _ _ _ _ _ _ h => h.elim⟩
def spChkl : Sp := fun vs H Q _ => ∃ e : Int, vs = [.int e] ∧ 0 ≤ e ∧ e < 10 ^ 40 ∧ Q .non H
theorem scChkl : FnScope ["length"] ["length"] (defScope sCheck_length) := ⟨rfl, rfl, rfl, by decide +kernel, rfl, by decide +kernel, by decide +kernel⟩
def spChkp : Sp := fun vs H Q _ => ∃ e x : Int, vs = [.int e, .int x] ∧ 0 ≤ x ∧ x < e ∧ Q .non H
theorem scChkp : FnScope ["length", "place"] ["length", "place"] (defScope sCheck_place) := ⟨rfl, rfl, rfl, by decide +kernel, rfl, by decide +kernel, by decide +kernel⟩
def spChks : Sp := fun vs H Q _ => ∃ e x n : Int, vs = [.int e, .int x, .int n] ∧ 1 ≤ n ∧ 0 ≤ x ∧ x + n ≤ e ∧ Q .non H
theorem scChks : FnScope ["length", "at", "many"] ["length", "at", "many"] (defScope sCheck_stretch) := ⟨rfl, rfl, rfl, by decide +kernel, rfl, by decide +kernel, by decide +kernel⟩
def spChkss (K : PySem.W.Frag) : Sp := fun vs H Q _ => ∃ (e : Int) (a : Addr) (xs : List V) (ss : List Sy), vs = [.int e, .ref a] ∧ SqL K H a xs ∧ SL H xs ss ∧ (∀ s ∈ ss, Good e s) ∧ Q .non H
theorem scChkss : FnScope ["length", "sayings", "one", "other", "many", "turned"] ["length", "sayings"] (defScope sCheck_sayings) := ⟨rfl, rfl, rfl, by decide +kernel, rfl, by decide +kernel, by decide +kernel⟩
section
variable {P : Program} {w : World} {K : PySem.W.Frag} {mg : Str → Option Value} {base : Heap}
theorem ok_chkl {f : Addr} {fd : FuncData} {k : Nat} (F : Fun K "check_length" "check_length" sCheck_length f fd) (mT : ∃ u, mg "TOO_LONG" = some u ∧ RelV (.int (10 ^ 40)) u) : FnOk P w K mg base CX0 (k + 1) f fd ["length"] spChkl := by
  refine F.ok scChkl (fun vs H Q E h => ?_) (fun cdv A outer s H vs Q E hr h => ?_)
  · obtain ⟨e, rfl, _⟩ := h; rfl
  obtain ⟨e, rfl, h0, h1, q⟩ := h
  refine ⟨_, (pss_one (ps_if (PW.pt (pw_or (pt_cmpR op_lt (pv 0) pe_int (nomark _)) (pw_or1 (pt_cmpR op_ge (pv 0) (C8.pe_gc (by rfl) mT) (nomark _))))) (pss_one ps_never) pss_nil)), ?_⟩
  refine ⟨.int e, rfl, _, 0, rfl, rfl, _, rfl, ite2 (fun c => absurd (of_decide_eq_true c) (by omega)) (fun c => ?_)⟩
  refine ⟨.int e, rfl, _, _, rfl, rfl, _, rfl, ite2 (fun c => absurd (of_decide_eq_true c) (by omega)) (fun c => ?_)⟩
  exact q
theorem ok_chkp {f : Addr} {fd : FuncData} {k : Nat} (F : Fun K "check_place" "check_place" sCheck_place f fd) : FnOk P w K mg base CX0 (k + 1) f fd ["length", "place"] spChkp := by
  refine F.ok scChkp (fun vs H Q E h => ?_) (fun cdv A outer s H vs Q E hr h => ?_)
  · obtain ⟨e, x, rfl, _⟩ := h; rfl
  obtain ⟨e, x, rfl, h0, h1, q⟩ := h
  refine ⟨_, (pss_one (ps_if (PW.pt (pw_or (pt_cmpR op_lt (pv 1) pe_int (nomark _)) (pw_or1 (pt_cmpR op_ge (pv 1) (pv 0) (nomark _))))) (pss_one ps_never) pss_nil)), ?_⟩
  refine ⟨.int x, rfl, _, 0, rfl, rfl, _, rfl, ite2 (fun c => absurd (of_decide_eq_true c) (by omega)) (fun c => ?_)⟩
  refine ⟨.int x, rfl, .int e, rfl, _, _, rfl, rfl, _, rfl, ite2 (fun c => absurd (of_decide_eq_true c) (by omega)) (fun c => ?_)⟩
  exact q
theorem ok_chks {f : Addr} {fd : FuncData} {k : Nat} (F : Fun K "check_stretch" "check_stretch" sCheck_stretch f fd) : FnOk P w K mg base CX0 (k + 1) f fd ["length", "at", "many"] spChks := by
  refine F.ok scChks (fun vs H Q E h => ?_) (fun cdv A outer s H vs Q E hr h => ?_)
  · obtain ⟨e, x, n, rfl, _⟩ := h; rfl
  obtain ⟨e, x, n, rfl, h0, h1, h2, q⟩ := h
  refine ⟨_, (pss_one (ps_if (PW.pt (pw_or (pt_cmpR op_lt (pv 2) pe_int (nomark _)) (pw_or (pt_cmpR op_lt (pv 1) pe_int (nomark _)) (pw_or1 (pt_cmpR op_gt (pe_op op_add (pv 1) (pv 2)) (pv 0) (nomark _)))))) (pss_one ps_never) pss_nil)), ?_⟩
  refine ⟨.int n, rfl, _, 1, rfl, rfl, _, rfl, ite2 (fun c => absurd (of_decide_eq_true c) (by omega)) (fun c => ?_)⟩
  refine ⟨.int x, rfl, _, 0, rfl, rfl, _, rfl, ite2 (fun c => absurd (of_decide_eq_true c) (by omega)) (fun c => ?_)⟩
  refine ⟨.int x, rfl, .int n, rfl, _, _, rfl, rfl, .int e, rfl, _, _, rfl, rfl, _, rfl, ite2 (fun c => absurd (of_decide_eq_true c) (by omega)) (fun c => ?_)⟩
  exact q
theorem ok_chkss {f fS : Addr} {fd fdS : FuncData} {k : Nat} (F : Fun K "check_sayings" "check_sayings" sCheck_sayings f fd) (GS : FnOk P w K mg base CX0 k fS fdS ["length", "at", "many"] spChks) (kS : PySem.W.keepIn K (.ref fS) = true) (bS : Binds K fdS ["length", "at", "many"] []) (mS_ : mg "check_stretch" = some (.ref fS)) : FnOk P w K mg base CX0 (k + 1) f fd ["length", "sayings"] (spChkss K) := by
  refine F.ok scChkss (fun vs H Q E h => ?_) (fun cdv A outer s H vs Q E hr h => ?_)
  · obtain ⟨e, a, xs, ss, rfl, _⟩ := h; rfl
  obtain ⟨e, a, xs, ss, rfl, hX, sl, gd, q⟩ := h
  refine ⟨_, (pss_one (ps_for PassesOwn.never rfl (pi_list (pv 1)) (pg_tup rfl (pgs_cons (pg_name (i := 2) scChkss.nd rfl (.inl rfl)) (pgs_cons (pg_name (i := 3) scChkss.nd rfl (.inl rfl)) (pgs_cons (pg_name (i := 4) scChkss.nd rfl (.inl rfl)) (pgs_cons (pg_name (i := 5) scChkss.nd rfl (.inl rfl)) pgs_nil)))))
      (pss_cons (ps_expr (pe_call GS hr (by rfl) mS_ kS bS .nil pass0 (pa_cons (pv 0) (pa_cons (pv 2) (pa_cons (pv 4) pa_nil)))))
    (pss_one (ps_expr (pe_call GS hr (by rfl) mS_ kS bS .nil pass0 (pa_cons (pv 0) (pa_cons (pv 3) (pa_cons (pv 4) pa_nil))))))))), ?_⟩
  refine ⟨.ref a, rfl, a, rfl, ⟨_, hX⟩, for_list (xs := xs) (fun i σ H2 => H2 = H ∧ ∃ y2 y3 y4 y5, σ = [some (.int e), some (.ref a), y2, y3, y4, y5]) ⟨rfl, _, _, _, _, rfl⟩ (fun i σ H2 _ h => by rw [h.1]; exact hX) ?_ ?_⟩
  · rintro i y σ H2 hi ⟨rfl, y2, y3, y4, y5, rfl⟩
    obtain ⟨u, hu, t, rfl, ht⟩ := sl.get hi
    obtain ⟨g1, g2, g3, g4, g5⟩ := gd u (List.mem_of_getElem? hu)
    refine ⟨t, _, rfl, .inl (.inl ht), rfl, _, _, rfl, _, _, rfl, _, _, rfl, _, _, rfl, rfl, ?_⟩
    refine ⟨.int e, rfl, .int u.lo, rfl, .int u.n, rfl, e, u.lo, u.n, rfl, g3, g1, g4, ?_⟩
    refine ⟨.int e, rfl, .int u.hi, rfl, .int u.n, rfl, e, u.hi, u.n, rfl, g3, g2, g5, ?_⟩
    exact ⟨rfl, _, _, _, _, rfl⟩
  · rintro σ H2 ⟨rfl, y2, y3, y4, y5, rfl⟩
    exact q
end
end Rep
namespace Rep
open PySem L2
/-! what a Classes looks like -/
def fldsC (e : Int) (c r : Addr) : List (Str × V) := putF "rows" (.ref r) (putF "cuts" (.ref c) (putF "size" (.int e) []))
theorem k1 : ¬ (("size" : Str) = "cuts") := by decide +kernel
theorem k2 : ¬ (("size" : Str) = "rows") := by decide +kernel
theorem k3 : ¬ (("cuts" : Str) = "rows") := by decide +kernel
theorem fldsC_size (e : Int) (c r : Addr) : (fldsC e c r).lookup ("size" : Str) = some (.int e) := by
  unfold fldsC
  rw [lookup_putF, if_neg k2, lookup_putF, if_neg k1, lookup_putF, if_pos rfl]
theorem fldsC_cuts (e : Int) (c r : Addr) : (fldsC e c r).lookup ("cuts" : Str) = some (.ref c) := by
  unfold fldsC
  rw [lookup_putF, if_neg k3, lookup_putF, if_pos rfl]
theorem fldsC_rows (e : Int) (c r : Addr) : (fldsC e c r).lookup ("rows" : Str) = some (.ref r) := by
  unfold fldsC
  rw [lookup_putF, if_pos rfl]
theorem fldsC_no (e : Int) (c r : Addr) {m : Str} (h1 : ¬ m = "size") (h2 : ¬ m = "cuts") (h3 : ¬ m = "rows") : (fldsC e c r).lookup m = none := by
  unfold fldsC
  rw [lookup_putF, if_neg h3, lookup_putF, if_neg h2, lookup_putF, if_neg h1]
  rfl
structure ClsAt (C : Addr) (B : Addr → Prop) (H : Hp) (p : Addr) (e : Int) (ss : List Sy) : Prop where
  ex : ∃ (dx cA rA : Addr) (cv rv : List V) (R : List Pr), (∀ b, B b → b ≠ cA ∧ b ≠ rA) ∧ H p = some (.ins C dx (fldsC e cA rA)) ∧ H cA = some (.lst cv) ∧ CL H cv (allCuts e ss).reverse ∧ H rA = some (.lst rv) ∧ PL H rv R ∧ Tdy R ∧ R.length ≤ 14000000 ∧ ∀ x, cov R x ↔ (0 ≤ x ∧ x < e ∧ fOf (allCuts e ss) x = x)
/-- the heap changed nowhere but in tables -/
theorem ClsAt.ext {C : Addr} {B : Addr → Prop} {H H' : Hp} {p : Addr} {e : Int} {ss : List Sy} (h : ClsAt C B H p e ss) (x : EX H H') : ClsAt C B H' p e ss := by
  obtain ⟨dx, cA, rA, cv, rv, R, h0, h1, h2, h3, h4, h5, h6, h7, h8⟩ := h.ex
  exact ⟨dx, cA, rA, cv, rv, R, h0, x _ _ h1 (fun ps z => by cases z), EX.lst x h2, CL.ts (EX.ts x) h3, EX.lst x h4, PL.ts (EX.ts x) h5, h6, h7, h8⟩
theorem TS.at_ {H : Hp} {p : Addr} {o u : HO} (h : H p = some o) (n : ∀ xs, o ≠ .tup xs) : TS H (upd H p u) := fun t xs e => by
  have ne : t ≠ p := fun z => by subst z; rw [h] at e; exact n xs (Option.some.inj e)
  rw [upd_ne ne]
  exact e
theorem Tabs.at_ {T : List NdefX.NTab} {H : Hp} {c : Addr} {o u : HO} (t : NdefX.TabsN T H) (h : H c = some o) (n1 : ∀ ps, o ≠ .tbl ps) (n2 : ∀ f, o ≠ .ext f) : NdefX.TabsN T (upd H c u) := fun p hp => by
  obtain ⟨ps, h1, h2, h3⟩ := t p hp
  have m1 : p.1 ≠ c := fun z => by rw [z, h] at h1; exact n1 ps (Option.some.inj h1)
  refine ⟨ps, by rw [upd_ne m1]; exact h1, h2, fun pos cv hc => ?_⟩
  obtain ⟨d, e1, e2⟩ := h3 pos cv hc
  have m2 : d ≠ c := fun z => by rw [z, h] at e2; exact n2 _ (Option.some.inj e2)
  exact ⟨d, e1, by rw [upd_ne m2]; exact e2⟩
/-- a list that is none of its own may change -/
theorem ClsAt.over {C : Addr} {B : Addr → Prop} {H : Hp} {p b : Addr} {e : Int} {ss : List Sy} {xs ys : List V} (h : ClsAt C B H p e ss) (hb : B b) (hl : H b = some (.lst xs)) : ClsAt C B (upd H b (.lst ys)) p e ss := by
  obtain ⟨dx, cA, rA, cv, rv, R, h0, h1, h2, h3, h4, h5, h6, h7, h8⟩ := h.ex
  have n1 : p ≠ b := fun z => by rw [z, hl] at h1; cases h1
  have ts : TS H (upd H b (.lst ys)) := TS.at_ hl (fun xs z => by cases z)
  exact ⟨dx, cA, rA, cv, rv, R, h0, by rw [upd_ne n1]; exact h1, by rw [upd_ne (h0 b hb).1.symm]; exact h2, CL.ts ts h3, by rw [upd_ne (h0 b hb).2.symm]; exact h4, PL.ts ts h5, h6, h7, h8⟩
structure TxC (Pg : Program) (w : World) (K : PySem.W.Frag) (mg : Str → Option Value) (base : Heap) (P C : Addr) : Prop where
  cl : Cls K C
  nS : NoAttr K C "size"
  nC : NoAttr K C "cuts"
  nR : NoAttr K C "rows"
/-- but for one object -/
def EXp (p : Addr) (H H' : Hp) : Prop := ∀ b o, H b = some o → b ≠ p → (∀ ps, o ≠ .tbl ps) → H' b = some o
def spInit (K : PySem.W.Frag) (P C : Addr) : Sp := fun vs H Q _ => ∃ (p dx a : Addr) (xs : List V) (ss : List Sy) (e : Int), vs = [.ref p, .int e, .ref a] ∧ H p = some (.ins C dx []) ∧ SqL K H a xs ∧ H a = some (.lst xs) ∧ SL H xs ss ∧ TbO P H ∧ (∀ s ∈ ss, Good e s) ∧ 0 ≤ e ∧ e < 10 ^ 40 ∧ ss.length ≤ 10000 ∧ (allCuts e ss).length ≤ 14000000 ∧
  ∀ H', EXp p H H' → TbO P H' → ClsAt C (fun b => ∃ ys, H b = some (.lst ys)) H' p e ss → Q .non H'
abbrev nInit : List Str := ["self", "length", "sayings", "cut"]
theorem scInit : FnScope nInit ["self", "length", "sayings"] (defScope sInit) := ⟨rfl, rfl, rfl, by decide +kernel, rfl, by decide +kernel, by decide +kernel⟩
section
variable {Pg : Program} {w : World} {K : PySem.W.Frag} {mg : Str → Option Value} {base : Heap}
theorem ok_init {f P C fL fS fC fT : Addr} {fd fdL fdS fdC fdT : FuncData} {k : Nat} (F : Fun K "__init__" "Classes.__init__" sInit f fd) (T : TxC Pg w K mg base P C)
    (GL : FnOk Pg w K mg base CX0 (k + 4) fL fdL ["length"] spChkl) (kL : PySem.W.keepIn K (.ref fL) = true) (bL : Binds K fdL ["length"] []) (mL_ : mg "check_length" = some (.ref fL))
    (GS : FnOk Pg w K mg base CX0 (k + 4) fS fdS ["length", "sayings"] (spChkss K)) (kS : PySem.W.keepIn K (.ref fS) = true) (bS : Binds K fdS ["length", "sayings"] []) (mS_ : mg "check_sayings" = some (.ref fS))
    (GC : FnOk Pg w K mg base CX0 (k + 4) fC fdC ["length", "sayings"] (spCuts K P)) (kC : PySem.W.keepIn K (.ref fC) = true) (bC : Binds K fdC ["length", "sayings"] []) (mC_ : mg "cuts_of" = some (.ref fC))
    (GT : FnOk Pg w K mg base CX0 (k + 4) fT fdT ["rows"] (spTidy K)) (kT : PySem.W.keepIn K (.ref fT) = true) (bT : Binds K fdT ["rows"] []) (mT_ : mg "tidy" = some (.ref fT)) : FnOk Pg w K mg base CX0 (k + 5) f fd ["self", "length", "sayings"] (spInit K P C) := by
  refine F.ok scInit (fun vs H Q E h => ?_) (fun cdv A outer s H vs Q E hr h => ?_)
  · obtain ⟨p, dx, a, xs, ss, e, rfl, _⟩ := h; rfl
  obtain ⟨p, dx, a, xs, ss, e, rfl, hp, hS, ha, sl, hT, gd, he0, he1, hlen, hN, q⟩ := h
  refine ⟨_, (pss_cons (ps_expr (pe_call GL hr (by rfl) mL_ kL bL .nil pass0 (pa_cons (pv 1) pa_nil)))
    (pss_cons (ps_expr (pe_call GS hr (by rfl) mS_ kS bS .nil pass0 (pa_cons (pv 1) (pa_cons (pv 2) pa_nil))))
    (pss_cons (ps_fld (pv 0) (pv 1) rfl)
    (pss_cons (ps_fld (pv 0) (pe_call GC hr (by rfl) mC_ kC bC .nil pass0 (pa_cons (pv 1) (pa_cons (pv 2) pa_nil))) rfl)
    (pss_one (ps_fld (pv 0) (pe_call GT hr (by rfl) mT_ kT bT .nil pass0 (pa_cons (pe_lc (own := [("cut", 3)]) (g := (gName 3)) (tt := tTest (tOp rEq (tOp (rIxT K) (tVar 3) (tC (.int 2))) (tC (.int 0)))) (te := tTup (tCons (tOp (rIxT K) (tVar 3) (tC (.int 0))) (tCons (tOp (rIxT K) (tVar 3) (tC (.int 1))) tNil))) rfl scInit.nd (pi_list (pe_fld (pv 0) rfl)) (blkOk_by (N := nInit) (sc := defScope sInit) (by decide +kernel)) (fun _ _ _ _ _ => (pg_name (i := 3) scInit.nd rfl (.inl rfl))) (fun _ _ _ _ _ => (pts_one (pt_cmpR op_eq (pe_ix ix_tup (pv 3) pe_int (fun _ _ => rfl)) pe_int (nomark _)))) (fun _ _ _ _ _ => (pe_tup (pa_cons (pe_ix ix_tup (pv 3) pe_int (fun _ _ => rfl)) (pa_cons (pe_ix ix_tup (pv 3) pe_int (fun _ _ => rfl)) pa_nil))))) pa_nil)) rfl)))))), ?_⟩
  have nap : a ≠ p := fun z => by rw [z, hp] at ha; cases ha
  -- the checks
  refine ⟨.int e, rfl, e, rfl, he0, he1, ?_⟩
  refine ⟨.int e, rfl, .ref a, rfl, e, a, xs, ss, rfl, hS, sl, gd, ?_⟩
  -- self.size = length
  refine ⟨.int e, rfl, .ref p, rfl, p, C, dx, _, rfl, hp, T.cl, T.nS, (by show 0 < 1000; decide), ?_⟩
  have t1 : TS H (upd H p (.ins C dx (putF "size" (.int e) []))) := TS.at_ hp (fun xs z => by cases z)
  have T1 : TbO P (upd H p (.ins C dx (putF "size" (.int e) []))) := Tabs.at_ hT hp (fun ps z => by cases z) (fun f z => by cases z)
  have e1 : EXp p H (upd H p (.ins C dx (putF "size" (.int e) []))) := fun b o hb n _ => by rw [upd_ne n]; exact hb
  have ha1 : upd H p (.ins C dx (putF "size" (.int e) [])) a = some (.lst xs) := by rw [upd_ne nap]; exact ha
  have hp1 : upd H p (.ins C dx (putF "size" (.int e) [])) p = some (.ins C dx (putF "size" (.int e) [])) := upd_same
  generalize upd H p (.ins C dx (putF "size" (.int e) [])) = H1 at *
  -- self.cuts = cuts_of(length, sayings)
  refine ⟨.int e, rfl, .ref a, rfl, a, xs, ss, e, rfl, .inl (.inl ha1), SL.ts t1 sl, T1, gd, he0, by omega, hlen, hN, fun H2 cA cv x2 T2 nc ec cl => ?_⟩
  have hp2 := x2 _ _ hp1 (fun ps z => by cases z)
  have ncp : cA ≠ p := fun z => by rw [z, hp2] at ec; cases ec
  refine ⟨.ref p, rfl, p, C, dx, _, rfl, hp2, T.cl, T.nC, (by show 1 < 1000; decide), ?_⟩
  have t3 : TS H2 (upd H2 p (.ins C dx (putF "cuts" (.ref cA) (putF "size" (.int e) [])))) := TS.at_ hp2 (fun xs z => by cases z)
  have T3 : TbO P (upd H2 p (.ins C dx (putF "cuts" (.ref cA) (putF "size" (.int e) [])))) := Tabs.at_ T2 hp2 (fun ps z => by cases z) (fun f z => by cases z)
  have e3 : EXp p H (upd H2 p (.ins C dx (putF "cuts" (.ref cA) (putF "size" (.int e) [])))) := fun b o hb n nt => by rw [upd_ne n]; exact x2 _ _ (e1 b o hb n nt) nt
  have ec3 : upd H2 p (.ins C dx (putF "cuts" (.ref cA) (putF "size" (.int e) []))) cA = some (.lst cv) := by rw [upd_ne ncp]; exact ec
  have hp3 : upd H2 p (.ins C dx (putF "cuts" (.ref cA) (putF "size" (.int e) []))) p = some (.ins C dx (putF "cuts" (.ref cA) (putF "size" (.int e) []))) := upd_same
  have cl3 := CL.ts t3 cl
  generalize upd H2 p (.ins C dx (putF "cuts" (.ref cA) (putF "size" (.int e) []))) = H3 at *
  have lk : (putF "cuts" (.ref cA) (putF "size" (.int e) [])).lookup ("cuts" : Str) = some (.ref cA) := by rw [lookup_putF, if_pos rfl]
  -- the comprehension
  refine ⟨.ref p, rfl, p, C, dx, _, .ref cA, rfl, hp3, T.cl, T.nC, lk, cA, rfl, ⟨_, .inl (.inl ec3)⟩, fun D nD => ?_⟩
  have hlc : cv.length ≤ 14000000 := by rw [cl3.len, List.length_reverse]; exact hN
  refine lc_list (xs := cv) (fun i H5 => Same H3 H5 ∧ ∃ zs, H5 D = some (.lst zs) ∧ zs.length ≤ i ∧ PL H5 zs (freeF ((allCuts e ss).reverse.take i))) ⟨same_upd nD, [], upd_same, Nat.le_refl _, .nil⟩ (fun i H5 _ hP => .inl (.inl (hP.1 _ _ ec3))) (fun i v H5 hv hP => ?_) (fun H5 hP => ?_)
  · obtain ⟨sm, zs, eD, hz, pl⟩ := hP
    have hi : i < cv.length := (List.getElem?_eq_some_iff.mp hv).1
    obtain ⟨c, hc, tc, rfl, htc⟩ := cl3.get hv
    have htc5 := sm _ _ htc
    have et : (allCuts e ss).reverse.take (i + 1) = (allCuts e ss).reverse.take i ++ [c] := by rw [List.take_add_one, hc]; rfl
    refine ⟨rfl, ?_⟩
    refine ⟨.ref tc, rfl, tc, _, 2, .int c.by_, rfl, rfl, .inl (.inl htc5), rfl, rfl, _, rfl, ?_⟩
    refine ite2 (fun d => ?_) (fun d => ?_)
    · have d1 : c.by_ = 0 := V.int.inj (of_decide_eq_true d)
      refine ⟨.ref tc, rfl, tc, _, 0, .int c.lo, rfl, rfl, .inl (.inl htc5), rfl, .ref tc, rfl, tc, _, 1, .int c.be, rfl, rfl, .inl (.inl htc5), rfl, (by show 2 ≤ sizeLine; decide), fun t nt => ?_⟩
      have s6 := same_upd (o := .tup [.int c.lo, .int c.be]) nt
      refine ⟨zs, s6 _ _ eD, Nat.lt_of_le_of_lt (show zs.length ≤ 14000000 by omega) (by decide), same_over (sm.trans s6) nD, zs ++ [.ref t], upd_same, by rw [List.length_append, List.length_singleton]; omega, ?_⟩
      have fe : freeF ((allCuts e ss).reverse.take i ++ [c]) = freeF ((allCuts e ss).reverse.take i) ++ [(c.lo, c.be)] := by
        unfold freeF
        rw [List.filter_append, List.map_append]
        simp [d1]
      rw [et, fe]
      exact PL.ts (TS.lst (s6 _ _ eD)) ((PL.ts (TS.of s6) pl).snoc upd_same)
    · have d1 : ¬ c.by_ = 0 := fun z => d (decide_eq_true (by rw [z]))
      have fe : freeF ((allCuts e ss).reverse.take i ++ [c]) = freeF ((allCuts e ss).reverse.take i) := by
        unfold freeF
        rw [List.filter_append, List.map_append]
        simp [d1]
      refine ⟨sm, zs, eD, by omega, ?_⟩
      rw [et, fe]
      exact pl
  · obtain ⟨sm, zs, eD, hz, pl⟩ := hP
    rw [cl3.len, List.take_length] at pl
    have hzl : zs.length ≤ 14000000 := Nat.le_trans hz hlc
    refine ⟨D, zs, _, rfl, .inl (.inl eD), pl, by rw [← pl.len]; omega, fun H7 rA rv R s7 nr er plr td cvR lR => ?_⟩
    have s37 := sm.trans s7
    have hp7 := s37 _ _ hp3
    have nrp : rA ≠ p := fun z => by rw [z, hp7] at er; cases er
    refine ⟨.ref p, rfl, p, C, dx, _, rfl, hp7, T.cl, T.nR, (by show 2 < 1000; decide), ?_⟩
    refine q _ (fun b o hb n nt => by rw [upd_ne n]; exact s37 _ _ (e3 b o hb n nt)) (Tabs.at_ (T3.ext s37) hp7 (fun ps z => by cases z) (fun f z => by cases z)) ⟨dx, cA, rA, cv, rv, R, fun b ⟨ys, hb⟩ => ?_, upd_same, by rw [upd_ne ncp]; exact s37 _ _ ec3, CL.ts ((TS.of s37).trans (TS.at_ hp7 (fun xs z => by cases z))) cl3, by rw [upd_ne nrp]; exact er, PL.ts (TS.at_ hp7 (fun xs z => by cases z)) plr, td, by rw [← pl.len] at lR; omega, fun x => ?_⟩
    · have nbp : b ≠ p := fun z => by rw [z, hp] at hb; cases hb
      have hb1 := e1 b _ hb nbp (fun ps z => by cases z)
      refine ⟨fun z => ?_, fun z => ?_⟩
      · obtain ⟨ps, z'⟩ := nc _ (z ▸ hb1)
        cases z'
      · have hb5 := sm _ _ (e3 b _ hb nbp (fun ps z => by cases z))
        rw [z, nr] at hb5
        cases hb5
    rw [cvR, free_cov]
    rw [← stg_free (all_stg he0 gd) x]
    constructor
    · rintro ⟨c, hc, r⟩; exact ⟨c, List.mem_reverse.mp hc, r⟩
    · rintro ⟨c, hc, r⟩; exact ⟨c, List.mem_reverse.mpr hc, r⟩
end
def spMFirst (C : Addr) : Sp := fun vs H Q _ => ∃ (p : Addr) (B : Addr → Prop) (e x : Int) (ss : List Sy), vs = [.ref p, .int x] ∧ ClsAt C B H p e ss ∧ (∀ s ∈ ss, Good e s) ∧ 0 ≤ x ∧ x < e ∧ e < 10 ^ 40 ∧ Q (.int (fOf (allCuts e ss) x)) H
theorem scMf : FnScope ["self", "place"] ["self", "place"] (defScope sMFirst) := ⟨rfl, rfl, rfl, by decide +kernel, rfl, by decide +kernel, by decide +kernel⟩
section
variable {Pg : Program} {w : World} {K : PySem.W.Frag} {mg : Str → Option Value} {base : Heap}
theorem ok_mfirst {f P C fP fF : Addr} {fd fdP fdF : FuncData} {k : Nat} (F : Fun K "first" "Classes.first" sMFirst f fd) (T : TxC Pg w K mg base P C)
    (GP : FnOk Pg w K mg base CX0 k fP fdP ["length", "place"] spChkp) (kP : PySem.W.keepIn K (.ref fP) = true) (bP : Binds K fdP ["length", "place"] []) (mP_ : mg "check_place" = some (.ref fP))
    (GF : FnOk Pg w K mg base CX0 k fF fdF ["cuts", "place"] (spFirst K)) (kF : PySem.W.keepIn K (.ref fF) = true) (bF : Binds K fdF ["cuts", "place"] []) (mF_ : mg "first_of" = some (.ref fF)) : FnOk Pg w K mg base CX0 (k + 1) f fd ["self", "place"] (spMFirst C) := by
  refine F.ok scMf (fun vs H Q E h => ?_) (fun cdv A outer s H vs Q E hr h => ?_)
  · obtain ⟨p, B, e, x, ss, rfl, _⟩ := h; rfl
  obtain ⟨p, B, e, x, ss, rfl, ca, gd, hx0, hx1, he, q⟩ := h
  obtain ⟨dx, cA, rA, cv, rv, R, h0, h1, h2, h3, h4, h5, h6, h7, h8⟩ := ca.ex
  refine ⟨_, (pss_cons (ps_expr (pe_call GP hr (by rfl) mP_ kP bP .nil pass0 (pa_cons (pe_fld (pv 0) rfl) (pa_cons (pv 1) pa_nil))))
    (pss_one (ps_ret (pe_call GF hr (by rfl) mF_ kF bF .nil pass0 (pa_cons (pe_fld (pv 0) rfl) (pa_cons (pv 1) pa_nil)))))), ?_⟩
  refine ⟨.ref p, rfl, p, C, dx, _, .int e, rfl, h1, T.cl, T.nS, fldsC_size _ _ _, .int x, rfl, e, x, rfl, hx0, hx1, ?_⟩
  exact ⟨.ref p, rfl, p, C, dx, _, .ref cA, rfl, h1, T.cl, T.nC, fldsC_cuts _ _ _, .int x, rfl, cA, cv, allCuts e ss, e, x, _, rfl, .inl (.inl h2), h3, all_stg (by omega) gd, hx0, hx1, by omega, q⟩
end
end Rep
namespace Rep
open PySem L2
/-- Classes, made -/
theorem make_cls {K : PySem.W.Frag} {P C a : Addr} {H : Hp} {xs : List V} {ss : List Sy} {e : Int} {Q : Hp → Prop} {E : XK} (ea : H a = some (.lst xs)) (sl : SL H xs ss) (T : TbO P H) (gd : ∀ s ∈ ss, Good e s) (h0 : 0 ≤ e) (h1 : e < 10 ^ 40) (hl : ss.length ≤ 10000) (hc : (allCuts e ss).length ≤ 14000000)
    {p dx : Addr} (np : H p = none) (ndx : H dx = none) (ne : dx ≠ p) (q : ∀ H', EX H H' → TbO P H' → NewX H p → ClsAt C (fun b => ∃ ys, H b = some (.lst ys)) H' p e ss → Q H') :
    spInit K P C [.ref p, .int e, .ref a] (upd (upd H dx (.own p)) p (.ins C dx [])) (fun v H' => v = .non ∧ Q H') E := by
  have np' : upd H dx (.own p) p = none := by rw [upd_ne ne.symm]; exact np
  have s5 : Same H (upd (upd H dx (.own p)) p (.ins C dx [])) := (same_upd ndx).trans (same_upd np')
  refine ⟨p, dx, a, xs, ss, e, rfl, upd_same, .inl (.inl (s5 _ _ ea)), s5 _ _ ea, SL.ts (TS.of s5) sl, T.ext s5, gd, h0, h1, hl, hc, fun H6 x6 T6 ca6 => ⟨rfl, q H6 (fun b o hb nt => ?_) T6 (fun o z => ?_) ?_⟩⟩
  · exact x6 b o (s5 _ _ hb) (fun z => by rw [z, np] at hb; cases hb) nt
  · rw [np] at z; cases z
  · obtain ⟨dx', cA, rA, cv, rv, R, g0, g⟩ := ca6.ex
    exact ⟨dx', cA, rA, cv, rv, R, fun b ⟨ys, hb⟩ => g0 b ⟨ys, s5 _ _ hb⟩, g⟩
end Rep
namespace Rep
open PySem L2
/-! the draws -/
def mixA (s : Int) : Int := (s * 48271 + 11) % 2147483647
def mixB (s : Int) : Int := (mixA s * mixA s + 40692 * mixA s + s) % 2147483399
def mixF (s : Int) : Int := (mixB s * mixB s + 69621 * mixB s + mixA s) % 2147483563
theorem mixA_lt (s : Int) : -(2 ^ 64) < mixA s ∧ mixA s < 2 ^ 64 := by
  unfold mixA; omega
theorem mixB_lt (s : Int) : -(2 ^ 64) < mixB s ∧ mixB s < 2 ^ 64 := by
  unfold mixB; generalize mixA s * mixA s + 40692 * mixA s + s = z; omega
def spMix : Sp := fun vs H Q _ => ∃ s : Int, vs = [.int s] ∧ Q (.int (mixF s)) H
theorem scMix : FnScope ["_law_seed", "_law_one", "_law_two"] ["_law_seed"] (defScope sMix) := ⟨rfl, rfl, rfl, by decide +kernel, rfl, by decide +kernel, by decide +kernel⟩
section
variable {P : Program} {w : World} {K : PySem.W.Frag} {mg : Str → Option Value} {base : Heap}
theorem ok_mix {f : Addr} {fd : FuncData} {k : Nat} (F : Fun K "_law_mix" "_law_mix" sMix f fd) : FnOk P w K mg base CX0 (k + 1) f fd ["_law_seed"] spMix := by
  refine F.ok scMix (fun vs H Q E h => ?_) (fun cdv A outer s H vs Q E hr h => ?_)
  · obtain ⟨s, rfl, _⟩ := h; rfl
  obtain ⟨z, rfl, q⟩ := h
  refine ⟨_, pss_cons (ps_set (i := 1) scMix.nd rfl (.inl rfl) (pe_op op_mod (pe_op op_add (pe_op op_mul (pv 0) pe_int) pe_int) pe_int))
    (pss_cons (ps_set (i := 2) scMix.nd rfl (.inl rfl) (pe_op op_mod (pe_op op_add (pe_op op_add (pe_op op_mul (pv 1) (pv 1)) (pe_op op_mul pe_int (pv 1))) (pv 0)) pe_int))
    (pss_one (ps_ret (pe_op op_mod (pe_op op_add (pe_op op_add (pe_op op_mul (pv 2) (pv 2)) (pe_op op_mul pe_int (pv 2))) (pv 1)) pe_int)))), ?_⟩
  refine ⟨.int z, rfl, z, 48271, rfl, rfl, .inr ⟨by decide, by decide⟩, _, 11, rfl, rfl, _, 2147483647, rfl, rfl, (by show (0 : Int) < 2147483647; decide), ?_⟩
  refine ⟨.int (mixA z), rfl, .int (mixA z), rfl, _, _, rfl, rfl, .inl (mixA_lt z), .int (mixA z), rfl, 40692, mixA z, rfl, rfl, .inl ⟨by decide, by decide⟩, _, _, rfl, rfl, .int z, rfl, _, _, rfl, rfl, _, 2147483399, rfl, rfl, (by show (0 : Int) < 2147483399; decide), ?_⟩
  refine ⟨.int (mixB z), rfl, .int (mixB z), rfl, _, _, rfl, rfl, .inl (mixB_lt z), .int (mixB z), rfl, 69621, mixB z, rfl, rfl, .inl ⟨by decide, by decide⟩, _, _, rfl, rfl, .int (mixA z), rfl, _, _, rfl, rfl, _, 2147483563, rfl, rfl, (by show (0 : Int) < 2147483563; decide), ?_⟩
  exact q
end
/-! a raw number -/
def cellF (ns : List Int) (k : Int) : Int := if 0 < ns.length then ns.getD (k % (ns.length : Int)).toNat 0 + 9973 * (k / (ns.length : Int)) else 7 * k + 3
def foundF (c k : Int) : Nat → Int
  | 0 => 0
  | i + 1 => foundF c k i * 2147483563 + mixF (c + 1009 * k + 7919 * (i : Int))
def rawF (ns : List Int) (k : Int) : Int := if k < (ns.length : Int) ∧ 10 ^ 18 ≤ cellF ns k then cellF ns k - 10 ^ 18 else foundF (cellF ns k) k 40
def spRaw (K : PySem.W.Frag) : Sp := fun vs H Q _ => ∃ (a : Addr) (ns : List Int) (k : Int), vs = [.ref a, .int k] ∧ SqL K H a (ns.map V.int) ∧ ns.length ≤ 63 ∧ Q (.int (rawF ns k)) H
theorem scRaw : FnScope ["_law_script", "_law_k", "_law_cell", "_law_found", "_law_turn"] ["_law_script", "_law_k"] (defScope sRaw) := ⟨rfl, rfl, rfl, by decide +kernel, rfl, by decide +kernel, by decide +kernel⟩
theorem at_mod {ns : List Int} {k : Int} (h : 0 < ns.length) : atI (ns.map V.int) (k % ((ns.map V.int).length : Int)) = some (.int (ns.getD (k % (ns.length : Int)).toNat 0)) := by
  rw [List.length_map]
  have h0 : 0 ≤ k % (ns.length : Int) := Int.emod_nonneg _ (by omega)
  have h1 : k % (ns.length : Int) < (ns.length : Int) := Int.emod_lt_of_pos _ (by omega)
  have e : k % (ns.length : Int) = (((k % (ns.length : Int)).toNat : Nat) : Int) := by omega
  have hj : (k % (ns.length : Int)).toNat < ns.length := by omega
  have q : atI (ns.map V.int) (((k % (ns.length : Int)).toNat : Nat) : Int) = some (.int (ns.getD (k % (ns.length : Int)).toNat 0)) := by
    refine atI_nat ?_
    rw [List.getElem?_map, List.getElem?_eq_getElem hj, List.getD_eq_getElem?_getD, List.getElem?_eq_getElem hj]
    rfl
  rw [← e] at q
  exact q
section
variable {P : Program} {w : World} {K : PySem.W.Frag} {mg : Str → Option Value} {base : Heap}
theorem ok_raw {f fM : Addr} {fd fdM : FuncData} {k : Nat} (F : Fun K "_law_raw" "_law_raw" sRaw f fd) (FM : Fun K "_law_mix" "_law_mix" sMix fM fdM) (bM : Binds K fdM ["_law_seed"] []) (gM : mg "_law_mix" = some (.ref fM)) (ml : mg "len" = none) (mr : mg "range" = none) : FnOk P w K mg base CX0 (k + 2) f fd ["_law_script", "_law_k"] (spRaw K) := by
  have GM : FnOk P w K mg base CX0 (k + 1) fM fdM ["_law_seed"] spMix := ok_mix FM
  refine F.ok scRaw (fun vs H Q E h => ?_) (fun cdv A outer s H vs Q E hr h => ?_)
  · obtain ⟨a, ns, z, rfl, _⟩ := h; rfl
  obtain ⟨a, ns, z, rfl, hS, h63, q⟩ := h
  have hl : ((ns.map V.int).length : Int) = (ns.length : Int) := by rw [List.length_map]
  refine ⟨_, pss_cons (ps_set (i := 2) scRaw.nd rfl (.inl rfl) (pe_op op_add (pe_op op_mul pe_int (pv 1)) pe_int))
    (C8.pss_cut (ps_if (pt_cmpR op_gt (pe_callB call_len_seq (by rfl) ml PySem.boot_len (pa_cons (pv 0) pa_nil)) pe_int (nomark _))
      (pss_one (ps_set (i := 2) scRaw.nd rfl (.inl rfl) (pe_op op_add (pe_ix ix_list (pv 0) (pe_op op_mod (pv 1) (pe_callB call_len_seq (by rfl) ml PySem.boot_len (pa_cons (pv 0) pa_nil))) (fun _ _ => rfl))
        (pe_op op_mul pe_int (pe_op op_fdiv (pv 1) (pe_callB call_len_seq (by rfl) ml PySem.boot_len (pa_cons (pv 0) pa_nil))))))) pss_nil)
    (C8.pss_cut (ps_if (PW.pt (pw_and (pt_cmpR op_lt (pv 1) (pe_callB call_len_seq (by rfl) ml PySem.boot_len (pa_cons (pv 0) pa_nil)) (nomark _)) (pw_and1 (pt_cmpR op_ge (pv 2) (pe_op op_pow pe_int pe_int) (nomark _)))))
      (pss_one (ps_ret (pe_op op_sub (pv 2) (pe_op op_pow pe_int pe_int)))) pss_nil)
    (pss_cons (ps_set (i := 3) scRaw.nd rfl (.inl rfl) pe_int)
    (pss_cons (ps_for PassesOwn.never rfl (pi_range1 rfl mr (pa_cons pe_int pa_nil)) (pg_name (i := 4) scRaw.nd rfl (.inl rfl))
      (pss_one (ps_set (i := 3) scRaw.nd rfl (.inl rfl) (pe_op op_add (pe_op op_mul (pv 3) pe_int) (pe_call GM hr (by rfl) gM FM.kp bM .nil pass0 (pa_cons (pe_op op_add (pe_op op_add (pv 2) (pe_op op_mul pe_int (pv 1))) (pe_op op_mul pe_int (pv 4))) pa_nil))))))
    (pss_one (ps_ret (pv 3))))))), ?_⟩
  refine ⟨.int z, rfl, 7, z, rfl, rfl, .inl ⟨by decide, by decide⟩, _, 3, rfl, rfl, ?_⟩
  refine ⟨fun σ' H' => σ' = [some (.ref a), some (.int z), some (.int (cellF ns z)), none, none] ∧ H' = H, ?_, fun σ' H' hm => ?_⟩
  · refine ⟨.ref a, rfl, a, ns.map V.int, rfl, .inl hS, _, 0, rfl, rfl, _, rfl, ite2 (fun c => ?_) (fun c => ?_)⟩
    · have c' : (0 : Int) < ((ns.map V.int).length : Int) := of_decide_eq_true c
      rw [hl] at c'
      have c2 : 0 < ns.length := by omega
      refine ⟨.ref a, rfl, .int z, rfl, .ref a, rfl, a, ns.map V.int, rfl, .inl hS, _, _, rfl, rfl, (by show (0 : Int) < ((ns.map V.int).length : Int); omega), a, _, _, _, rfl, rfl, hS, at_mod c2, .int z, rfl, .ref a, rfl, a, ns.map V.int, rfl, .inl hS, _, _, rfl, rfl, ⟨by omega, by omega⟩, 9973, _, rfl, rfl, .inl ⟨by decide, by decide⟩, _, _, rfl, rfl, ?_, rfl⟩
      unfold cellF
      rw [if_pos c2, hl]
      rfl
    · have c' : ¬ (0 : Int) < ((ns.map V.int).length : Int) := fun e => c (decide_eq_true e)
      rw [hl] at c'
      refine ⟨?_, rfl⟩
      unfold cellF
      rw [if_neg (by omega)]
      rfl
  · obtain ⟨rfl, rfl⟩ := hm
    have p18 : CPow 10 18 := ⟨by decide, by decide, by decide⟩
    refine ⟨fun σ' H2 => σ' = [some (.ref a), some (.int z), some (.int (cellF ns z)), none, none] ∧ H2 = H' ∧ ¬ (z < (ns.length : Int) ∧ 10 ^ 18 ≤ cellF ns z), ?_, fun σ' H2 hm => ?_⟩
    · refine ⟨.int z, rfl, .ref a, rfl, a, ns.map V.int, rfl, .inl hS, _, _, rfl, rfl, _, rfl, ite2 (fun c => ?_) (fun c => ?_)⟩
      · have c1 : z < ((ns.map V.int).length : Int) := of_decide_eq_true c
        rw [hl] at c1
        refine ⟨.int (cellF ns z), rfl, 10, 18, rfl, rfl, p18, _, _, rfl, rfl, _, rfl, ite2 (fun c => ?_) (fun c => ?_)⟩
        · have c2 : (10 : Int) ^ 18 ≤ cellF ns z := of_decide_eq_true c
          refine ⟨.int (cellF ns z), rfl, 10, 18, rfl, rfl, p18, _, _, rfl, rfl, ?_⟩
          unfold rawF at q
          rw [if_pos ⟨c1, c2⟩] at q
          exact q
        · exact ⟨rfl, rfl, fun e => c (decide_eq_true e.2)⟩
      · refine iteF ⟨rfl, rfl, fun e => c (decide_eq_true ?_)⟩
        rw [hl]
        exact e.1
    · obtain ⟨rfl, rfl, hn⟩ := hm
      have er : foundF (cellF ns z) z 40 = rawF ns z := by
        unfold rawF; rw [if_neg hn]
      refine ⟨40, rfl, by decide, by decide, for_range (n := 40) (fun i σ H => ∃ y, σ = [some (.ref a), some (.int z), some (.int (cellF ns z)), some (.int (foundF (cellF ns z) z i)), y] ∧ H = H2) ⟨none, rfl, rfl⟩ (fun i σ H3 hi hP => ?_) (fun σ H3 hP => ?_)⟩
      · obtain ⟨y, rfl, rfl⟩ := hP
        refine ⟨.int (foundF (cellF ns z) z i), rfl, _, 2147483563, rfl, rfl, .inr ⟨by decide, by decide⟩, .int (cellF ns z), rfl, .int z, rfl, 1009, z, rfl, rfl, .inl ⟨by decide, by decide⟩, _, _, rfl, rfl, .int (0 + (i : Int)), rfl, 7919, _, rfl, rfl, .inl ⟨by decide, by decide⟩, _, _, rfl, rfl, _, rfl, _, _, rfl, rfl, ?_⟩
        refine ⟨some (.int (0 + (i : Int))), ?_, rfl⟩
        show [some (V.ref a), some (.int z), some (.int (cellF ns z)), some (.int (foundF (cellF ns z) z i * 2147483563 + mixF (cellF ns z + 1009 * z + 7919 * (0 + (i : Int))))), some (.int (0 + (i : Int)))] = _
        rw [Int.zero_add]
        rfl
      · obtain ⟨y, rfl, rfl⟩ := hP
        exact ⟨_, rfl, by rw [er]; exact q⟩
end
end Rep
namespace Rep
open PySem L2
/-! digits of a raw number -/
def digF : Int → List Int → List Int
  | _, [] => []
  | r, z :: zs => (r % z) :: digF (r / z) zs
def restF (r : Int) (zs : List Int) : Int := zs.foldl (· / ·) r
theorem digF_snoc : ∀ (r : Int) (a : List Int) (z : Int), digF r (a ++ [z]) = digF r a ++ [restF r a % z]
  | r, [], z => rfl
  | r, y :: a, z => by
    show (r % y) :: digF (r / y) (a ++ [z]) = (r % y) :: (digF (r / y) a ++ [restF (r / y) a % z])
    rw [digF_snoc (r / y) a z]
theorem restF_snoc (r : Int) (a : List Int) (z : Int) : restF r (a ++ [z]) = restF r a / z := by
  unfold restF; rw [List.foldl_append]; rfl
theorem digF_len : ∀ (r : Int) (zs : List Int), (digF r zs).length = zs.length
  | _, [] => rfl
  | r, z :: zs => by
    show (digF (r / z) zs).length + 1 = zs.length + 1
    rw [digF_len]
def spDig (K : PySem.W.Frag) : Sp := fun vs H Q _ => ∃ (a b : Addr) (ns zs : List Int) (k : Int), vs = [.ref a, .int k, .ref b] ∧ SqL K H a (ns.map V.int) ∧ ns.length ≤ 63 ∧ SqL K H b (zs.map V.int) ∧ zs.length ≤ 1000 ∧ (∀ z ∈ zs, 0 < z ∧ z.natAbs.log2 < 9000) ∧
  ∀ H' p, Same H H' → H p = none → H' p = some (.lst ((digF (rawF ns k) zs).map V.int)) → Q (.ref p) H'
theorem scDig : FnScope ["_law_script", "_law_k", "_law_sizes", "_law_rest", "_law_found", "_law_size"] ["_law_script", "_law_k", "_law_sizes"] (defScope sDig) := ⟨rfl, rfl, rfl, by decide +kernel, rfl, by decide +kernel, by decide +kernel⟩
section
variable {P : Program} {w : World} {K : PySem.W.Frag} {mg : Str → Option Value} {base : Heap}
theorem ok_dig {f fR : Addr} {fd fdR : FuncData} {k : Nat} (F : Fun K "_law_digits" "_law_digits" sDig f fd) (GR : FnOk P w K mg base CX0 k fR fdR ["_law_script", "_law_k"] (spRaw K)) (kR : PySem.W.keepIn K (.ref fR) = true) (bR : Binds K fdR ["_law_script", "_law_k"] []) (gR : mg "_law_raw" = some (.ref fR)) : FnOk P w K mg base CX0 (k + 1) f fd ["_law_script", "_law_k", "_law_sizes"] (spDig K) := by
  refine F.ok scDig (fun vs H Q E h => ?_) (fun cdv A outer s H vs Q E hr h => ?_)
  · obtain ⟨a, b, ns, zs, z, rfl, _⟩ := h; rfl
  obtain ⟨a, b, ns, zs, z, rfl, hS, h63, hZ, hz1, hz2, q⟩ := h
  refine ⟨_, pss_cons (ps_set (i := 3) scDig.nd rfl (.inl rfl) (pe_call GR hr (by rfl) gR kR bR .nil pass0 (pa_cons (pv 0) (pa_cons (pv 1) pa_nil))))
    (pss_cons (ps_set (i := 4) scDig.nd rfl (.inl rfl) (pe_lst pa_nil))
    (pss_cons (ps_for PassesOwn.never rfl (pi_list (pv 2)) (pg_name (i := 5) scDig.nd rfl (.inl rfl))
      (pss_cons (ps_expr (pe_bm PySem.F.plainAttrs_list PySem.F.slot_list_append PySem.F.type_list_append mt_append (pv 4) (pa_cons (pe_op op_mod (pv 3) (pv 5)) pa_nil)))
      (pss_one (ps_set (i := 3) scDig.nd rfl (.inl rfl) (pe_op op_fdivW (pv 3) (pv 5))))))
    (pss_one (ps_ret (pv 4))))), ?_⟩
  refine ⟨.ref a, rfl, .int z, rfl, a, ns, z, rfl, hS, h63, Nat.zero_le _, fun o no => ?_⟩
  have s1 : Same H (upd H o (.lst [])) := same_upd no
  refine ⟨.ref b, rfl, b, rfl, ⟨_, s1.seq hZ⟩, for_list (xs := zs.map V.int) (fun i σ H3 => ∃ y, σ = [some (.ref a), some (.int z), some (.ref b), some (.int (restF (rawF ns z) (zs.take i))), some (.ref o), y] ∧ Same H H3 ∧ H3 o = some (.lst ((digF (rawF ns z) (zs.take i)).map V.int))) ⟨none, rfl, s1, upd_same⟩ (fun i σ H3 _ hP => ?_) (fun i x σ H3 hx hP => ?_) (fun σ H3 hP => ?_)⟩
  · obtain ⟨y, _, sm, _⟩ := hP
    exact sm.seq hZ
  · obtain ⟨y, rfl, sm, eo⟩ := hP
    rw [List.getElem?_map] at hx
    obtain ⟨v, hv, rfl⟩ := Option.map_eq_some_iff.mp hx
    have hv2 := hz2 v (List.mem_of_getElem? hv)
    have hi : i < zs.length := (List.getElem?_eq_some_iff.mp hv).1
    have et : zs.take (i + 1) = zs.take i ++ [v] := by rw [List.take_add_one, hv]; rfl
    refine ⟨.ref o, rfl, .inl ⟨rfl, _, .inl (.inl eo)⟩, .int _, rfl, .int v, rfl, _, _, rfl, rfl, hv2.1, o, _, _, rfl, rfl, eo, ?_, ?_⟩
    · rw [List.length_map, digF_len, List.length_take]
      exact small1000 (by omega)
    · refine ⟨.int _, rfl, .int v, rfl, _, _, rfl, rfl, hv2, some (.int v), ?_, same_over sm no, ?_⟩
      · rw [et, restF_snoc]; rfl
      · rw [upd_same, et, digF_snoc, List.map_append]; rfl
  · obtain ⟨y, rfl, sm, eo⟩ := hP
    rw [List.length_map, List.take_length] at eo
    exact ⟨.ref o, rfl, q H3 o sm no eo⟩
end
end Rep
namespace Rep
open PySem L2
/-! the law's drawn sayings -/
theorem at4 {a b c d r : Int} : ∃ v, atI [V.int a, V.int b, V.int c, V.int d] (r % 4) = some (.int v) ∧ (v = a ∨ v = b ∨ v = c ∨ v = d) := by
  have h : r % 4 = 0 ∨ r % 4 = 1 ∨ r % 4 = 2 ∨ r % 4 = 3 := by omega
  rcases h with h | h | h | h <;> rw [h]
  · exact ⟨a, rfl, .inl rfl⟩
  · exact ⟨b, rfl, .inr (.inl rfl)⟩
  · exact ⟨c, rfl, .inr (.inr (.inl rfl))⟩
  · exact ⟨d, rfl, .inr (.inr (.inr rfl))⟩
theorem at3 {a b c r : Int} : ∃ v, atI [V.int a, V.int b, V.int c] (r % 3) = some (.int v) ∧ (v = a ∨ v = b ∨ v = c) := by
  have h : r % 3 = 0 ∨ r % 3 = 1 ∨ r % 3 = 2 := by omega
  rcases h with h | h | h <;> rw [h]
  · exact ⟨a, rfl, .inl rfl⟩
  · exact ⟨b, rfl, .inr (.inl rfl)⟩
  · exact ⟨c, rfl, .inr (.inr rfl)⟩
def spSay (K : PySem.W.Frag) : Sp := fun vs H Q _ => ∃ (a : Addr) (ns : List Int) (k L : Int), vs = [.ref a, .int k, .int L] ∧ SqL K H a (ns.map V.int) ∧ ns.length ≤ 63 ∧ 1 ≤ L ∧ L ≤ 10 ^ 41 ∧ ∀ H' v s, Same H H' → IsSy H' v s → Good L s → Q v H'
abbrev nSay : List Str := ["_law_script", "_law_k", "_law_length", "_law_way", "_law_one", "_law_other", "_law_many", "_law_turned", "_law_lead"]
theorem scSay : FnScope nSay ["_law_script", "_law_k", "_law_length"] (defScope s_law_saying) := ⟨rfl, rfl, rfl, by decide +kernel, rfl, by decide +kernel, by decide +kernel⟩
theorem p40 : CPow 10 40 := ⟨by decide, by decide, by decide⟩
section
variable {P : Program} {w : World} {K : PySem.W.Frag} {mg : Str → Option Value} {base : Heap}
theorem ok_say {f fD : Addr} {fd fdD : FuncData} {k : Nat} (F : Fun K "_law_saying" "_law_saying" s_law_saying f fd) (GD : FnOk P w K mg base CX0 k fD fdD ["_law_script", "_law_k", "_law_sizes"] (spDig K)) (kD : PySem.W.keepIn K (.ref fD) = true) (bD : Binds K fdD ["_law_script", "_law_k", "_law_sizes"] []) (mD_ : mg "_law_digits" = some (.ref fD)) (mm : mg "min" = none) (mM : mg "max" = none) : FnOk P w K mg base CX0 (k + 1) f fd ["_law_script", "_law_k", "_law_length"] (spSay K) := by
  refine F.ok scSay (fun vs H Q E h => ?_) (fun cdv A outer s H vs Q E hr h => ?_)
  · obtain ⟨a, ns, z, L, rfl, _⟩ := h; rfl
  obtain ⟨a, ns, z, L, rfl, hS, h63, hL1, hL2, q⟩ := h
  refine ⟨_, (pss_cons (ps_asg (pe_call GD hr (by rfl) mD_ kD bD .nil pass0 (pa_cons (pv 0) (pa_cons (pv 1) (pa_cons (pe_lst (pa_cons pe_int (pa_cons (pe_op op_pow pe_int pe_int) (pa_cons (pe_op op_pow pe_int pe_int) (pa_cons (pe_op op_pow pe_int pe_int) (pa_cons pe_int (pa_cons (pe_op op_pow pe_int pe_int) pa_nil))))))) pa_nil)))) (pg_lst rfl (pgs_cons (pg_name (i := 3) scSay.nd rfl (.inl rfl)) (pgs_cons (pg_name (i := 4) scSay.nd rfl (.inl rfl)) (pgs_cons (pg_name (i := 5) scSay.nd rfl (.inl rfl)) (pgs_cons (pg_name (i := 6) scSay.nd rfl (.inl rfl)) (pgs_cons (pg_name (i := 7) scSay.nd rfl (.inl rfl)) (pgs_cons (pg_name (i := 8) scSay.nd rfl (.inl rfl)) pgs_nil))))))))
    (C8.pss_cut (ps_set (i := 6) scSay.nd rfl (.inl rfl) (pe_op op_add pe_int (pe_op op_mod (pv 6) (pe_ix ix_list (pe_lst (pa_cons (pv 2) (pa_cons (pe_callB (call_max2 rfl) (by rfl) mM (by decide +kernel) (pa_cons pe_int (pa_cons (pe_op op_fdivW (pv 2) pe_int) pa_nil))) (pa_cons (pe_callB (call_max2 rfl) (by rfl) mM (by decide +kernel) (pa_cons pe_int (pa_cons (pe_op op_fdivW (pv 2) pe_int) pa_nil))) (pa_cons (pv 2) pa_nil))))) (pe_op op_mod (pv 3) pe_int) (fun _ _ => rfl)))))
    (pss_cons (ps_set (i := 4) scSay.nd rfl (.inl rfl) (pe_op op_mod (pv 4) (pe_op op_add (pe_op op_sub (pv 2) (pv 6)) pe_int)))
    (pss_cons (ps_set (i := 5) scSay.nd rfl (.inl rfl) (pe_op op_mod (pv 5) (pe_op op_add (pe_op op_sub (pv 2) (pv 6)) pe_int)))
    (C8.pss_cut (ps_if (PW.pt (pw_or (pt_cmpR op_eq (pv 3) pe_int (nomark _)) (pw_or1 (pt_cmpR op_eq (pv 3) pe_int (nomark _))))) (pss_one (ps_set (i := 5) scSay.nd rfl (.inl rfl) (pe_callB (call_min2 rfl) (by rfl) mm (by decide +kernel) (pa_cons (pe_op op_sub (pv 2) (pv 6)) (pa_cons (pe_op op_add (pv 4) (pe_op op_mod (pv 8) (pe_callB (call_max2 rfl) (by rfl) mM (by decide +kernel) (pa_cons pe_int (pa_cons (pv 6) pa_nil))))) pa_nil))))) pss_nil)
    (C8.pss_cut (ps_if (pt_cmpR op_eq (pv 3) pe_int (nomark _)) (pss_one (ps_set (i := 5) scSay.nd rfl (.inl rfl) (pv 4))) pss_nil)
    (C8.pss_cut (ps_if (pt_cmpR op_eq (pv 3) pe_int (nomark _)) (pss_cons (ps_set (i := 4) scSay.nd rfl (.inl rfl) pe_int)
    (pss_one (ps_set (i := 5) scSay.nd rfl (.inl rfl) (pe_op op_sub (pv 2) (pv 6))))) pss_nil)
    (pss_one (ps_ret (pe_tup (pa_cons (pv 4) (pa_cons (pv 5) (pa_cons (pv 6) (pa_cons (pe_or (pe_cmpR op_eq (pv 7) pe_int (nomark _)) (pe_one (pe_cmpR op_eq (pv 3) pe_int (nomark _)))) pa_nil)))))))))))))), ?_⟩
  -- the digits
  refine ⟨.ref a, rfl, .int z, rfl, 10, 40, rfl, rfl, p40, 10, 40, rfl, rfl, p40, 10, 40, rfl, rfl, p40, 10, 40, rfl, rfl, p40, (by show 6 ≤ sizeLine; decide), fun l1 nl1 => ?_⟩
  have s1 := same_upd (o := .lst [.int 8, .int (10 ^ (40 : Int).toNat), .int (10 ^ (40 : Int).toNat), .int (10 ^ (40 : Int).toNat), .int 3, .int (10 ^ (40 : Int).toNat)]) nl1
  refine ⟨a, l1, ns, [8, 10 ^ (40 : Int).toNat, 10 ^ (40 : Int).toNat, 10 ^ (40 : Int).toNat, 3, 10 ^ (40 : Int).toNat], z, rfl, s1.seq hS, h63, .inl (.inl upd_same), by decide, fun y hy => ?_, fun H2 q2 s2 _ eq2 => ?_⟩
  · have : y = 8 ∨ y = 10 ^ (40 : Int).toNat ∨ y = 3 := by
      simp only [List.mem_cons, List.mem_nil_iff, or_false] at hy
      rcases hy with h | h | h | h | h | h
      · exact .inl h
      · exact .inr (.inl h)
      · exact .inr (.inl h)
      · exact .inr (.inl h)
      · exact .inr (.inr h)
      · exact .inr (.inl h)
    rcases this with rfl | rfl | rfl
    · exact ⟨by decide, by decide⟩
    · exact ⟨by decide +kernel, by decide +kernel⟩
    · exact ⟨by decide, by decide⟩
  generalize hT : (10 : Int) ^ (40 : Int).toNat = T at eq2
  have hT0 : 0 < T := by rw [← hT]; decide +kernel
  generalize rawF ns z = ra at eq2
  refine ⟨q2, [.int (ra % 8), .int (ra / 8 % T), .int (ra / 8 / T % T), .int (ra / 8 / T / T % T), .int (ra / 8 / T / T / T % 3), .int (ra / 8 / T / T / T / 3 % T)], rfl, .inl (.inl eq2), rfl, _, _, rfl, _, _, rfl, _, _, rfl, _, _, rfl, _, _, rfl, _, _, rfl, rfl, ?_⟩
  have sH2 : Same H H2 := s1.trans s2
  generalize ra % 8 = way
  generalize ra / 8 % T = one
  generalize ra / 8 / T % T = oth
  generalize ra / 8 / T / T % T = man
  generalize ra / 8 / T / T / T % 3 = tur
  generalize ra / 8 / T / T / T / 3 % T = lea
  -- many
  refine ⟨fun σ' H' => ∃ m : Int, σ' = [some (.ref a), some (.int z), some (.int L), some (.int way), some (.int one), some (.int oth), some (.int m), some (.int tur), some (.int lea)] ∧ Same H H' ∧ 1 ≤ m ∧ m ≤ L, ?_, ?_⟩
  · have d2 : CDivW L 2 := wide_div (b := 3) (by decide) (by decide) (by decide) (by decide)
    have d5 : CDivW L 5 := wide_div (b := 3) (by decide) (by decide) (by decide) (by decide)
    refine ⟨.int man, rfl, .int L, rfl, .int L, rfl, _, 2, rfl, rfl, d2, 1, L / 2, rfl, .int L, rfl, _, 5, rfl, rfl, d5, 1, L / 5, rfl, .int L, rfl, (by show 4 ≤ sizeLine; decide), fun l2 nl2 => ?_⟩
    have b2 : 1 ≤ (if L / 2 > 1 then L / 2 else 1) ∧ (if L / 2 > 1 then L / 2 else 1) ≤ L := by split <;> omega
    have b5 : 1 ≤ (if L / 5 > 1 then L / 5 else 1) ∧ (if L / 5 > 1 then L / 5 else 1) ≤ L := by split <;> omega
    generalize (if L / 2 > 1 then L / 2 else 1) = M2 at b2
    generalize (if L / 5 > 1 then L / 5 else 1) = M5 at b5
    obtain ⟨v, hv, hv2⟩ := at4 (a := L) (b := M2) (c := M5) (d := L) (r := way)
    have v1 : 1 ≤ v ∧ v ≤ L := by omega
    refine ⟨.int way, rfl, _, 4, rfl, rfl, (by show (0 : Int) < 4; decide), l2, _, _, .int v, rfl, rfl, .inl (.inl upd_same), hv, _, _, rfl, rfl, (by show 0 < v; omega), 1, _, rfl, rfl, 1 + man % v, rfl, sH2.trans (same_upd nl2), ?_, ?_⟩
    · have := Int.emod_nonneg man (show v ≠ 0 by omega); omega
    · have := Int.emod_lt_of_pos man (show 0 < v by omega); omega
  rintro σ' H3 ⟨m, rfl, s3, m1, m2⟩
  refine ⟨.int one, rfl, .int L, rfl, .int m, rfl, _, _, rfl, rfl, _, 1, rfl, rfl, _, _, rfl, rfl, (by show 0 < L - m + 1; omega), ?_⟩
  refine ⟨.int oth, rfl, .int L, rfl, .int m, rfl, _, _, rfl, rfl, _, 1, rfl, rfl, _, _, rfl, rfl, (by show 0 < L - m + 1; omega), ?_⟩
  have o1 : 0 ≤ one % (L - m + 1) ∧ one % (L - m + 1) + m ≤ L := by
    have := Int.emod_nonneg one (show L - m + 1 ≠ 0 by omega)
    have := Int.emod_lt_of_pos one (show 0 < L - m + 1 by omega)
    omega
  have o2 : 0 ≤ oth % (L - m + 1) ∧ oth % (L - m + 1) + m ≤ L := by
    have := Int.emod_nonneg oth (show L - m + 1 ≠ 0 by omega)
    have := Int.emod_lt_of_pos oth (show 0 < L - m + 1 by omega)
    omega
  show C8.tCut _ _ _ [some (.ref a), some (.int z), some (.int L), some (.int way), some (.int (one % (L - m + 1))), some (.int (oth % (L - m + 1))), some (.int m), some (.int tur), some (.int lea)] H3
  generalize one % (L - m + 1) = p at *
  generalize oth % (L - m + 1) = r at *
  -- way 1, 5
  refine ⟨fun σ' H' => ∃ r : Int, σ' = [some (.ref a), some (.int z), some (.int L), some (.int way), some (.int p), some (.int r), some (.int m), some (.int tur), some (.int lea)] ∧ H' = H3 ∧ 0 ≤ r ∧ r + m ≤ L, ?_, ?_⟩
  · have mx : 0 < (if m > 1 then m else 1) := by split <;> omega
    refine ⟨.int way, rfl, rfl, _, rfl, ite2 (fun c => iteT ?_) (fun c => ?_)⟩
    · refine ⟨.int L, rfl, .int m, rfl, _, _, rfl, rfl, .int p, rfl, .int lea, rfl, .int m, rfl, 1, m, rfl, _, _, rfl, rfl, mx, _, _, rfl, rfl, _, _, rfl, ?_⟩
      generalize (if m > 1 then m else 1) = M at mx
      have := Int.emod_nonneg lea (show M ≠ 0 by omega)
      generalize lea % M = q0 at *
      exact ⟨_, rfl, rfl, by split <;> omega, by split <;> omega⟩
    refine ⟨.int way, rfl, rfl, _, rfl, ite2 (fun c => ?_) (fun c => ?_)⟩
    · refine ⟨.int L, rfl, .int m, rfl, _, _, rfl, rfl, .int p, rfl, .int lea, rfl, .int m, rfl, 1, m, rfl, _, _, rfl, rfl, mx, _, _, rfl, rfl, _, _, rfl, ?_⟩
      generalize (if m > 1 then m else 1) = M at mx
      have := Int.emod_nonneg lea (show M ≠ 0 by omega)
      generalize lea % M = q0 at *
      exact ⟨_, rfl, rfl, by split <;> omega, by split <;> omega⟩
    exact ⟨r, rfl, rfl, o2.1, o2.2⟩
  rintro σ' H' ⟨r, rfl, rfl, r1, r2⟩
  -- way 6
  refine ⟨fun σ' H'' => ∃ r : Int, σ' = [some (.ref a), some (.int z), some (.int L), some (.int way), some (.int p), some (.int r), some (.int m), some (.int tur), some (.int lea)] ∧ H'' = H' ∧ 0 ≤ r ∧ r + m ≤ L, ?_, ?_⟩
  · refine ⟨.int way, rfl, rfl, _, rfl, ite2 (fun c => ?_) (fun c => ?_)⟩
    · exact ⟨.int p, rfl, p, rfl, rfl, o1.1, o1.2⟩
    · exact ⟨r, rfl, rfl, r1, r2⟩
  rintro σ' H'' ⟨r, rfl, rfl, r1, r2⟩
  -- way 7
  refine ⟨fun σ' H1 => ∃ p r : Int, σ' = [some (.ref a), some (.int z), some (.int L), some (.int way), some (.int p), some (.int r), some (.int m), some (.int tur), some (.int lea)] ∧ H1 = H'' ∧ 0 ≤ p ∧ p + m ≤ L ∧ 0 ≤ r ∧ r + m ≤ L, ?_, ?_⟩
  · refine ⟨.int way, rfl, rfl, _, rfl, ite2 (fun c => ?_) (fun c => ?_)⟩
    · exact ⟨.int L, rfl, .int m, rfl, _, _, rfl, rfl, 0, L - m, rfl, rfl, by omega, by omega, by omega, by omega⟩
    · exact ⟨p, r, rfl, rfl, o1.1, o1.2, r1, r2⟩
  rintro σ' H1 ⟨p, r, rfl, rfl, p1, p2, r1, r2⟩
  refine ⟨.int p, rfl, .int r, rfl, .int m, rfl, ?_⟩
  have fin : ∀ b : Bool, ([V.int p, .int r, .int m, .bl b] : List V).length ≤ sizeLine ∧ ∀ t, H1 t = none → Q (.ref t) (upd H1 t (.tup [V.int p, .int r, .int m, .bl b])) := fun b => by
    refine ⟨by show 4 ≤ sizeLine; decide, fun t nt => ?_⟩
    exact q _ _ ⟨p, r, m, b⟩ (s3.trans (same_upd nt)) (IsSy.of upd_same) ⟨p1, r1, m1, p2, r2⟩
  refine ⟨.int tur, rfl, rfl, _, rfl, ite2 (fun c => fin true) (fun c => ?_)⟩
  exact ⟨.int way, rfl, rfl, fin _⟩
end
end Rep
namespace Rep
open PySem L2
/-! the law's own comparison: of equal data it is True -/
def tyN : PyData → String
  | .none => "NoneType"
  | .bool _ => "bool"
  | .int _ => "int"
  | .str _ => "str"
  | .list _ => "list"
  | .tuple _ => "tuple"
  | .dict _ => "dict"
theorem DT.ty {K : PySem.W.Frag} {H : Hp} {n : Nat} {v : V} {d : PyData} (h : DT H n v d) : TyX K H v (.type (tyN d)) := by
  cases h with
  | non => exact .base .non
  | bl b => exact .base (.bl b)
  | int i => exact .base (.int i)
  | str x => exact .base (.str x)
  | lst e _ _ _ => exact .base (.lst e)
  | tup e _ _ _ => exact .base (.tup e)
theorem kit_any {H : Hp} {n : Nat} {v : V} {d : PyData} (h : DT H n v d) : (∃ b, kitB (tyN d) "bool" = some b) ∧ (∃ b, kitB (tyN d) "int" = some b) ∧ (∃ b, kitB (tyN d) "list" = some b) ∧ (∃ b, kitB (tyN d) "tuple" = some b) ∧ (∃ b, kitB (tyN d) "str" = some b) := by
  cases h with
  | non => exact ⟨⟨false, by decide +kernel⟩, ⟨false, by decide +kernel⟩, ⟨false, by decide +kernel⟩, ⟨false, by decide +kernel⟩, ⟨false, by decide +kernel⟩⟩
  | bl b => exact ⟨⟨true, show kitB "bool" "bool" = some true by decide +kernel⟩, ⟨true, show kitB "bool" "int" = some true by decide +kernel⟩, ⟨false, show kitB "bool" "list" = some false by decide +kernel⟩, ⟨false, show kitB "bool" "tuple" = some false by decide +kernel⟩, ⟨false, show kitB "bool" "str" = some false by decide +kernel⟩⟩
  | int i => exact ⟨⟨false, show kitB "int" "bool" = some false by decide +kernel⟩, ⟨true, show kitB "int" "int" = some true by decide +kernel⟩, ⟨false, show kitB "int" "list" = some false by decide +kernel⟩, ⟨false, show kitB "int" "tuple" = some false by decide +kernel⟩, ⟨false, show kitB "int" "str" = some false by decide +kernel⟩⟩
  | str x => exact ⟨⟨false, show kitB "str" "bool" = some false by decide +kernel⟩, ⟨false, show kitB "str" "int" = some false by decide +kernel⟩, ⟨false, show kitB "str" "list" = some false by decide +kernel⟩, ⟨false, show kitB "str" "tuple" = some false by decide +kernel⟩, ⟨true, show kitB "str" "str" = some true by decide +kernel⟩⟩
  | lst _ _ _ _ => exact ⟨⟨false, show kitB "list" "bool" = some false by decide +kernel⟩, ⟨false, show kitB "list" "int" = some false by decide +kernel⟩, ⟨true, show kitB "list" "list" = some true by decide +kernel⟩, ⟨false, show kitB "list" "tuple" = some false by decide +kernel⟩, ⟨false, show kitB "list" "str" = some false by decide +kernel⟩⟩
  | tup _ _ _ _ => exact ⟨⟨false, show kitB "tuple" "bool" = some false by decide +kernel⟩, ⟨false, show kitB "tuple" "int" = some false by decide +kernel⟩, ⟨false, show kitB "tuple" "list" = some false by decide +kernel⟩, ⟨true, show kitB "tuple" "tuple" = some true by decide +kernel⟩, ⟨false, show kitB "tuple" "str" = some false by decide +kernel⟩⟩
structure Two (H : Hp) (m : Nat) (xs ys : List V) : Prop where
  few : xs.length ≤ 14000000
  len : xs.length = ys.length
  at_ : ∀ (i : Nat) (u v : V), xs[i]? = some u → ys[i]? = some v → ∃ d, DT H m u d ∧ DT H m v d
theorem two_of {H : Hp} {m : Nat} {xs ys : List V} {ds : List PyData} (l0 : xs.length ≤ 14000000) (l1 : xs.length = ds.length) (l2 : ys.length = ds.length) (h1 : ∀ (i : Nat) (x : V) (d : PyData), xs[i]? = some x → ds[i]? = some d → DT H m x d) (h2 : ∀ (i : Nat) (x : V) (d : PyData), ys[i]? = some x → ds[i]? = some d → DT H m x d) : Two H m xs ys := by
  refine ⟨l0, l1.trans l2.symm, fun i u v hu hv => ?_⟩
  have hi : i < ds.length := by
    have := (List.getElem?_eq_some_iff.mp hu).1
    omega
  exact ⟨ds[i], h1 i u _ hu (List.getElem?_eq_getElem hi), h2 i v _ hv (List.getElem?_eq_getElem hi)⟩
theorem DT.kinds {H : Hp} {n : Nat} {x y : V} {d : PyData} (hx : DT H n x d) (hy : DT H n y d) :
    (kitB (tyN d) "list" = some false ∧ kitB (tyN d) "tuple" = some false ∧ x = y ∧ scal x y = true) ∨
    (∃ m a b xs ys, n = m + 1 ∧ kitB (tyN d) "list" = some true ∧ x = .ref a ∧ y = .ref b ∧ H a = some (.lst xs) ∧ H b = some (.lst ys) ∧ Two H m xs ys) ∨
    (∃ m a b xs ys, n = m + 1 ∧ kitB (tyN d) "list" = some false ∧ kitB (tyN d) "tuple" = some true ∧ x = .ref a ∧ y = .ref b ∧ H a = some (.tup xs) ∧ H b = some (.tup ys) ∧ Two H m xs ys) := by
  cases hx with
  | non => cases hy; exact .inl ⟨show kitB "NoneType" "list" = some false by decide +kernel, show kitB "NoneType" "tuple" = some false by decide +kernel, rfl, rfl⟩
  | bl b => cases hy; exact .inl ⟨show kitB "bool" "list" = some false by decide +kernel, show kitB "bool" "tuple" = some false by decide +kernel, rfl, rfl⟩
  | int b => cases hy; exact .inl ⟨show kitB "int" "list" = some false by decide +kernel, show kitB "int" "tuple" = some false by decide +kernel, rfl, rfl⟩
  | str b => cases hy; exact .inl ⟨show kitB "str" "list" = some false by decide +kernel, show kitB "str" "tuple" = some false by decide +kernel, rfl, rfl⟩
  | lst e l z h =>
    cases hy with
    | lst e' l' z' h' => exact .inr (.inl ⟨_, _, _, _, _, rfl, show kitB "list" "list" = some true by decide +kernel, rfl, rfl, e, e', two_of z l l' h h'⟩)
  | tup e l z h =>
    cases hy with
    | tup e' l' z' h' => exact .inr (.inr ⟨_, _, _, _, _, rfl, show kitB "tuple" "list" = some false by decide +kernel, show kitB "tuple" "tuple" = some true by decide +kernel, rfl, rfl, e, e', two_of z l l' h h'⟩)
theorem walk_zipT {K : PySem.W.Frag} {a b : Addr} {xs ys : List V} (hl : xs.length = ys.length) : Walk (RZ.ItzT K a b) xs.length (fun H => SqT K H a xs ∧ SqT K H b ys) (YPair (fun i => xs[i]?) (fun i => ys[i]?)) := by
  refine ⟨fun i H hi q => ⟨xs, ys, xs[i], ys[i]'(by omega), q.1, q.2, List.getElem?_eq_getElem hi, List.getElem?_eq_getElem (by omega)⟩, fun H q => ⟨xs, ys, q.1, q.2, .inl (Nat.le_refl _)⟩, fun i H v H' hi q y => ?_⟩
  obtain ⟨T, x, y, e, hT, e2, f1, f2⟩ := y
  exact ⟨T, x, y, e, hT, e2, f1 _ q.1, f2 _ q.2⟩
theorem all_true : ∀ n : Nat, (List.replicate n true).all id = true
  | 0 => rfl
  | n + 1 => by
    show (true && (List.replicate n true).all id) = true
    rw [all_true n]; rfl
theorem rep_snoc (n : Nat) : (List.replicate (n + 1) true).map V.bl = (List.replicate n true).map V.bl ++ [V.bl true] := by
  rw [List.replicate_succ', List.map_append]; rfl
def spSame : Nat → Sp
  | 0 => fun _ _ _ _ => False
  | n + 1 => fun vs H Q _ => ∃ (x y : V) (d : PyData), vs = [x, y] ∧ DT H n x d ∧ DT H n y d ∧ ∀ H', Same H H' → Q (.bl true) H'
abbrev nSame : List Str := ["_law_told", "_law_due", "_law_one", "_law_other"]
theorem scSame : FnScope nSame ["_law_told", "_law_due"] (defScope sSame) := ⟨rfl, rfl, rfl, by decide +kernel, rfl, by decide +kernel, by decide +kernel⟩
structure TySame (mg : Str → Option Value) : Prop where
  isi : mg "isinstance" = none
  bool : mg "bool" = none
  int : mg "int" = none
  list : mg "list" = none
  tuple : mg "tuple" = none
  str : mg "str" = none
  len : mg "len" = none
  all : mg "all" = none
  zip : mg "zip" = none
section
variable {P : Program} {w : World} {K : PySem.W.Frag} {mg : Str → Option Value} {base : Heap}
theorem ok_same1 {f : Addr} {fd : FuncData} {n : Nat} (F : Fun K "_law_same" "_law_same" sSame f fd) (G : FnOk P w K mg base CX0 n f fd ["_law_told", "_law_due"] (spSame n)) (bG : Binds K fd ["_law_told", "_law_due"] []) (gG : mg "_law_same" = some (.ref f)) (T : TySame mg) :
    FnOk P w K mg base CX0 (n + 1) f fd ["_law_told", "_law_due"] (spSame (n + 1)) := by
  refine F.ok scSame (fun vs H Q E h => ?_) (fun cdv A outer s H vs Q E hr h => ?_)
  · obtain ⟨x, y, d, rfl, _⟩ := h; rfl
  obtain ⟨x, y, d, rfl, hx, hy, q⟩ := h
  refine ⟨_, pss_cons (ps_if (pt_cmpR op_isN (pv 1) pe_non (nomark _)) (pss_one (ps_ret (pe_cmpR op_isN (pv 0) pe_non (nomark _)))) pss_nil)
    (pss_cons (ps_if (PW.pt (pw_or (pt_cmpR op_ne (pe_callB call_isi (by rfl) T.isi PyProof.Rows.boot_isinstance (pa_cons (pv 0) (pa_cons (pe_bltn (v := .ty "bool") (by rfl) T.bool PyProof.Rows.boot_bool rfl) pa_nil))) (pe_callB call_isi (by rfl) T.isi PyProof.Rows.boot_isinstance (pa_cons (pv 1) (pa_cons (pe_bltn (v := .ty "bool") (by rfl) T.bool PyProof.Rows.boot_bool rfl) pa_nil))) (nomark _))
        (pw_or1 (pt_cmpR op_ne (pe_callB call_isi (by rfl) T.isi PyProof.Rows.boot_isinstance (pa_cons (pv 0) (pa_cons (pe_bltn (v := .ty "int") (by rfl) T.int PyProof.Rows.boot_int rfl) pa_nil))) (pe_callB call_isi (by rfl) T.isi PyProof.Rows.boot_isinstance (pa_cons (pv 1) (pa_cons (pe_bltn (v := .ty "int") (by rfl) T.int PyProof.Rows.boot_int rfl) pa_nil))) (nomark _)))))
      (pss_one (ps_ret pe_bl)) pss_nil)
    (pss_cons (ps_if (PW.pt (pw_or (pt_cmpR op_ne (pe_callB call_isi (by rfl) T.isi PyProof.Rows.boot_isinstance (pa_cons (pv 0) (pa_cons (pe_bltn (v := .ty "list") (by rfl) T.list PyProof.Rows.boot_list rfl) pa_nil))) (pe_callB call_isi (by rfl) T.isi PyProof.Rows.boot_isinstance (pa_cons (pv 1) (pa_cons (pe_bltn (v := .ty "list") (by rfl) T.list PyProof.Rows.boot_list rfl) pa_nil))) (nomark _))
        (pw_or1 (pt_cmpR op_ne (pe_callB call_isi (by rfl) T.isi PyProof.Rows.boot_isinstance (pa_cons (pv 0) (pa_cons (pe_bltn (v := .ty "tuple") (by rfl) T.tuple PyProof.Rows.boot_tuple rfl) pa_nil))) (pe_callB call_isi (by rfl) T.isi PyProof.Rows.boot_isinstance (pa_cons (pv 1) (pa_cons (pe_bltn (v := .ty "tuple") (by rfl) T.tuple PyProof.Rows.boot_tuple rfl) pa_nil))) (nomark _)))))
      (pss_one (ps_ret pe_bl)) pss_nil)
    (pss_cons (ps_if (PW.pt (pw_and (pt_not (pt_val (pe_callB call_isi (by rfl) T.isi PyProof.Rows.boot_isinstance (pa_cons (pv 1) (pa_cons (pe_bltn (v := .ty "list") (by rfl) T.list PyProof.Rows.boot_list rfl) pa_nil)))))
        (pw_and1 (pt_not (pt_val (pe_callB call_isi (by rfl) T.isi PyProof.Rows.boot_isinstance (pa_cons (pv 1) (pa_cons (pe_bltn (v := .ty "tuple") (by rfl) T.tuple PyProof.Rows.boot_tuple rfl) pa_nil))))))))
      (pss_one (ps_ret (pe_and (pe_cmpR op_eq (pe_callB call_isi (by rfl) T.isi PyProof.Rows.boot_isinstance (pa_cons (pv 0) (pa_cons (pe_bltn (v := .ty "str") (by rfl) T.str PyProof.Rows.boot_str rfl) pa_nil))) (pe_callB call_isi (by rfl) T.isi PyProof.Rows.boot_isinstance (pa_cons (pv 1) (pa_cons (pe_bltn (v := .ty "str") (by rfl) T.str PyProof.Rows.boot_str rfl) pa_nil))) (nomark _))
        (pe_one (pe_cmpR op_eq (pv 0) (pv 1) (nomark _)))))) pss_nil)
    (pss_one (ps_ret (pe_and (pe_cmpR op_eq (pe_callB call_len_seq (by rfl) T.len PySem.boot_len (pa_cons (pv 0) pa_nil)) (pe_callB call_len_seq (by rfl) T.len PySem.boot_len (pa_cons (pv 1) pa_nil)) (nomark _))
      (pe_one (pe_callB (cr_all rfl) (by rfl) T.all PyProof.Rows.boot_all (pa_cons (pe_lc (own := [("_law_one", 2), ("_law_other", 3)]) (g := gTup K 2 (gCons (gName 2) (gCons (gName 3) gNil))) (tt := tYes) rfl scSame.nd
        (RZ.pi_zipA (by rfl) T.zip (pa_cons (pv 0) (pa_cons (pv 1) pa_nil))) (blkOk_by (N := nSame) (sc := defScope sSame) (by decide +kernel))
        (fun _ _ _ _ _ => pg_tup rfl (pgs_cons (pg_name (i := 2) scSame.nd rfl (.inl rfl)) (pgs_cons (pg_name (i := 3) scSame.nd rfl (.inl rfl)) pgs_nil))) (fun _ _ _ _ _ => pts_nil)
        (fun _ _ _ _ _ => pe_call G hr (by rfl) gG F.kp bG .nil pass0 (pa_cons (pv 2) (pa_cons (pv 3) pa_nil)))) pa_nil))))))))), ?_⟩
  obtain ⟨⟨b1, k1⟩, ⟨b2, k2⟩, ⟨b3, k3⟩, ⟨b4, k4⟩, ⟨b5, k5⟩⟩ := kit_any hy
  have tx := hx.ty (K := K)
  have ty := hy.ty (K := K)
  have e1 := kit_ty (K := K) k1
  have e2 := kit_ty (K := K) k2
  have e3 := kit_ty (K := K) k3
  have e4 := kit_ty (K := K) k4
  have e5 := kit_ty (K := K) k5
  have nn : ∀ b : Bool, (!decide (V.bl b = V.bl b)) = false := fun b => by rw [decide_eq_true rfl]; rfl
  refine ⟨y, rfl, rfl, _, rfl, ite2 (fun c => ?_) (fun c => ?_)⟩
  · have c' : y = .non := of_decide_eq_true c
    subst c'
    cases hy
    cases hx
    exact ⟨_, rfl, rfl, q H (Same.refl H)⟩
  have cn : ¬ y = .non := fun e => c (decide_eq_true e)
  refine ⟨x, rfl, x, _, _, _, b1, rfl, .ty "bool", tx, e1, y, rfl, y, _, _, _, b1, rfl, .ty "bool", ty, e1, rfl, _, rfl, ?_⟩
  rw [nn]
  refine iteF ?_
  refine ⟨x, rfl, x, _, _, _, b2, rfl, .ty "int", tx, e2, y, rfl, y, _, _, _, b2, rfl, .ty "int", ty, e2, rfl, _, rfl, ?_⟩
  rw [nn]
  refine iteF ?_
  refine ⟨x, rfl, x, _, _, _, b3, rfl, .ty "list", tx, e3, y, rfl, y, _, _, _, b3, rfl, .ty "list", ty, e3, rfl, _, rfl, ?_⟩
  rw [nn]
  refine iteF ?_
  refine ⟨x, rfl, x, _, _, _, b4, rfl, .ty "tuple", tx, e4, y, rfl, y, _, _, _, b4, rfl, .ty "tuple", ty, e4, rfl, _, rfl, ?_⟩
  rw [nn]
  refine iteF ?_
  refine ⟨y, rfl, y, _, _, _, b3, rfl, .ty "list", ty, e3, _, rfl, ?_⟩
  rcases hx.kinds hy with ⟨j3, j4, exy, hsc⟩ | ⟨m, a, b, xs, ys, en, j3, ex, ey, ha, hb, two⟩ | ⟨m, a, b, xs, ys, en, j3, j4, ex, ey, ha, hb, two⟩
  · have f3 : b3 = false := Option.some.inj (k3.symm.trans j3)
    have f4 : b4 = false := Option.some.inj (k4.symm.trans j4)
    subst f3 f4 exy
    refine iteT ?_
    refine ⟨x, rfl, x, _, _, _, false, rfl, .ty "tuple", ty, e4, _, rfl, ?_⟩
    refine iteT ?_
    refine ⟨x, rfl, x, _, _, _, b5, rfl, .ty "str", tx, e5, x, rfl, x, _, _, _, b5, rfl, .ty "str", ty, e5, rfl, _, rfl, ?_⟩
    rw [decide_eq_true rfl]
    refine iteT ?_
    refine ⟨x, rfl, x, rfl, hsc, ?_⟩
    rw [decide_eq_true rfl]
    exact q H (Same.refl H)
  · have f3 : b3 = true := Option.some.inj (k3.symm.trans j3)
    subst f3 ex ey en
    refine iteF ?_
    refine iteF ?_
    refine ⟨.ref a, rfl, a, xs, rfl, .inl (.inl (.inl ha)), .ref b, rfl, b, ys, rfl, .inl (.inl (.inl hb)), rfl, _, rfl, ?_⟩
    rw [decide_eq_true (by rw [two.len])]
    refine iteT ?_
    refine ⟨.ref a, rfl, .ref b, rfl, a, b, xs, ys, rfl, .inl ⟨.inl (.inl ha), .inl (.inl hb), fun D nD => ?_⟩⟩
    have s1 : Same H (upd H D (.lst [])) := same_upd nD
    refine lc_it (walk_zip (K := K) (a := a) (b := b) (xs := xs) (ys := ys) (n := xs.length) (by rw [two.len, Nat.min_self])) (fun i H3 => Same H H3 ∧ H3 D = some (.lst ((List.replicate i true).map V.bl)) ∧ i ≤ xs.length) ⟨s1, upd_same, Nat.zero_le _⟩ (fun i H3 _ hP => ⟨hP.1.seq (.inl (.inl ha)), hP.1.seq (.inl (.inl hb))⟩) (fun i v H3 H4 hi hP hy4 => ?_) (fun H3 hP => ?_)
    · obtain ⟨sm, eD, _⟩ := hP
      obtain ⟨t, u1, u2, rfl, nt, rfl, g1, g2⟩ := hy4
      obtain ⟨du, d1, d2⟩ := two.at_ i u1 u2 g1 g2
      have s4 := same_upd (o := .tup [u1, u2]) nt
      have s5 := sm.trans s4
      refine ⟨t, [u1, u2], rfl, .inl (.inl upd_same), rfl, _, _, rfl, _, _, rfl, rfl, rfl, ?_⟩
      refine tYes_ok ?_
      refine iteT ?_
      refine ⟨u1, rfl, u2, rfl, u1, u2, du, rfl, d1.same s5, d2.same s5, fun H6 s6 => ?_⟩
      refine ⟨_, s6 _ _ (s4 _ _ eD), ?_, same_over (s5.trans s6) nD, ?_, hi⟩
      · rw [List.length_map, List.length_replicate]
        exact Nat.lt_of_le_of_lt (show i ≤ 14000000 by have := two.few; omega) (by decide)
      · rw [upd_same, rep_snoc]
    · obtain ⟨sm, eD, _⟩ := hP
      refine ⟨D, _, rfl, .inl (.inl eD), ?_⟩
      rw [all_true]
      exact q H3 sm
  · have f3 : b3 = false := Option.some.inj (k3.symm.trans j3)
    have f4 : b4 = true := Option.some.inj (k4.symm.trans j4)
    subst f3 f4 ex ey en
    refine iteT ?_
    refine ⟨.ref b, rfl, .ref b, _, _, _, true, rfl, .ty "tuple", ty, e4, _, rfl, ?_⟩
    refine iteF ?_
    refine ⟨.ref a, rfl, a, xs, rfl, .inr (.inl (.inl ha)), .ref b, rfl, b, ys, rfl, .inr (.inl (.inl hb)), rfl, _, rfl, ?_⟩
    rw [decide_eq_true (by rw [two.len])]
    refine iteT ?_
    refine ⟨.ref a, rfl, .ref b, rfl, a, b, xs, ys, rfl, .inr ⟨.inl (.inl ha), .inl (.inl hb), fun D nD => ?_⟩⟩
    have s1 : Same H (upd H D (.lst [])) := same_upd nD
    refine lc_it (walk_zipT (K := K) (a := a) (b := b) two.len) (fun i H3 => Same H H3 ∧ H3 D = some (.lst ((List.replicate i true).map V.bl)) ∧ i ≤ xs.length) ⟨s1, upd_same, Nat.zero_le _⟩ (fun i H3 _ hP => ⟨.inl (.inl (hP.1 _ _ ha)), .inl (.inl (hP.1 _ _ hb))⟩) (fun i v H3 H4 hi hP hy4 => ?_) (fun H3 hP => ?_)
    · obtain ⟨sm, eD, _⟩ := hP
      obtain ⟨t, u1, u2, rfl, nt, rfl, g1, g2⟩ := hy4
      obtain ⟨du, d1, d2⟩ := two.at_ i u1 u2 g1 g2
      have s4 := same_upd (o := .tup [u1, u2]) nt
      have s5 := sm.trans s4
      refine ⟨t, [u1, u2], rfl, .inl (.inl upd_same), rfl, _, _, rfl, _, _, rfl, rfl, rfl, ?_⟩
      refine tYes_ok ?_
      refine iteT ?_
      refine ⟨u1, rfl, u2, rfl, u1, u2, du, rfl, d1.same s5, d2.same s5, fun H6 s6 => ?_⟩
      refine ⟨_, s6 _ _ (s4 _ _ eD), ?_, same_over (s5.trans s6) nD, ?_, hi⟩
      · rw [List.length_map, List.length_replicate]
        exact Nat.lt_of_le_of_lt (show i ≤ 14000000 by have := two.few; omega) (by decide)
      · rw [upd_same, rep_snoc]
    · obtain ⟨sm, eD, _⟩ := hP
      refine ⟨D, _, rfl, .inl (.inl eD), ?_⟩
      rw [all_true]
      exact q H3 sm
theorem same_none {f : Addr} {fd : FuncData} : FnOk P w K mg base CX0 0 f fd ["_law_told", "_law_due"] (spSame 0) :=
  ⟨fun _ _ _ _ h => h.elim, fun _ _ _ _ _ _ _ _ _ _ _ _ _ h => h.elim⟩
theorem ok_same {f : Addr} {fd : FuncData} (F : Fun K "_law_same" "_law_same" sSame f fd) (bG : Binds K fd ["_law_told", "_law_due"] []) (gG : mg "_law_same" = some (.ref f)) (T : TySame mg) :
    ∀ n : Nat, FnOk P w K mg base CX0 n f fd ["_law_told", "_law_due"] (spSame n)
  | 0 => same_none
  | n + 1 => ok_same1 F (ok_same F bG gG T n) bG gG T
end
end Rep
namespace Rep
open PySem L2
/-! the law's own joining: its mathematics -/
def relP (ps : List Pr) (x y : Int) : Prop := (x, y) ∈ ps
def partAt (s : Sy) (i : Nat) : Pr := (s.lo + (i : Int), s.hi + (if s.t = true then s.n - 1 - (i : Int) else (i : Int)))
def partOf (s : Sy) (m : Nat) : List Pr := (List.range m).map (partAt s)
def partF (ss : List Sy) : List Pr := ss.flatMap fun s => partOf s s.n.toNat
theorem part_says {s : Sy} {x y : Int} : (x, y) ∈ partOf s s.n.toNat ↔ says s.lo s.hi s.n s.t x y := by
  unfold partOf says
  rw [List.mem_map]
  constructor
  · rintro ⟨i, hi, e⟩
    have hi := List.mem_range.mp hi
    obtain ⟨rfl, rfl⟩ := Prod.mk.inj e
    refine ⟨by omega, by omega, ?_⟩
    unfold mate
    cases s.t with
    | true => simp only [if_true]; omega
    | false => simp only [Bool.false_eq_true, if_false]; omega
  · rintro ⟨h1, h2, rfl⟩
    refine ⟨(x - s.lo).toNat, List.mem_range.mpr (by omega), ?_⟩
    unfold partAt mate
    have e : (((x - s.lo).toNat : Nat) : Int) = x - s.lo := by omega
    rw [e]
    cases s.t with
    | true => simp only [if_true, Prod.mk.injEq]; omega
    | false => simp only [Bool.false_eq_true, if_false, Prod.mk.injEq]; omega
theorem part_eq (ss : List Sy) : EqR (relP (partF ss)) (relQ (ss.map q4)) := .of_iff fun x y => by
  unfold relP partF relQ
  rw [List.mem_flatMap]
  constructor
  · rintro ⟨s, hs, h⟩
    exact ⟨q4 s, List.mem_map.mpr ⟨s, hs, rfl⟩, part_says.mp h⟩
  · rintro ⟨q, hq, h⟩
    obtain ⟨s, hs, rfl⟩ := List.mem_map.mp hq
    exact ⟨s, hs, part_says.mpr h⟩
theorem part_in {e : Int} {ss : List Sy} (gd : ∀ s ∈ ss, Good e s) : ∀ p ∈ partF ss, (0 ≤ p.1 ∧ p.1 < e) ∧ 0 ≤ p.2 ∧ p.2 < e := fun p hp => by
  obtain ⟨s, hs, h⟩ := List.mem_flatMap.mp hp
  obtain ⟨i, hi, rfl⟩ := List.mem_map.mp h
  have hi := List.mem_range.mp hi
  obtain ⟨a, b, c, d, f⟩ := gd s hs
  show (0 ≤ s.lo + (i : Int) ∧ s.lo + (i : Int) < e) ∧ 0 ≤ s.hi + (if s.t = true then s.n - 1 - (i : Int) else (i : Int)) ∧ s.hi + (if s.t = true then s.n - 1 - (i : Int) else (i : Int)) < e
  split <;> omega
/-- who stands in the lists of neighbours -/
structure Mm (n : Nat) (S : Int → Int → Prop) (b : Nat) (N : List (List Int)) : Prop where
  len : N.length = n
  mem : ∀ (x : Nat) (l : List Int), N[x]? = some l → ∀ y, y ∈ l ↔ S x y
  bd : ∀ (x : Nat) (l : List Int), N[x]? = some l → l.length ≤ b
theorem Mm.half {n : Nat} {S : Int → Int → Prop} {b : Nat} {N : List (List Int)} (h : Mm n S b N) {x : Nat} {l : List Int} (hx : N[x]? = some l) (y : Int) : Mm n (fun u v => S u v ∨ (u = (x : Int) ∧ v = y)) (b + 1) (N.set x (l ++ [y])) := by
  have hl : x < N.length := (List.getElem?_eq_some_iff.mp hx).1
  refine ⟨by rw [List.length_set]; exact h.len, fun z m hz v => ?_, fun z m hz => ?_⟩
  · by_cases c : z = x
    · subst c
      rw [List.getElem?_set_self hl] at hz
      cases hz
      rw [List.mem_append, List.mem_singleton, h.mem z l hx]
      constructor
      · rintro (a | a)
        · exact .inl a
        · exact .inr ⟨rfl, a⟩
      · rintro (a | ⟨_, a⟩)
        · exact .inl a
        · exact .inr a
    · rw [List.getElem?_set_ne (fun e => c e.symm)] at hz
      rw [h.mem z m hz]
      constructor
      · exact .inl
      · rintro (a | ⟨a, _⟩)
        · exact a
        · exact absurd (Int.ofNat.inj a) c
  · by_cases c : z = x
    · subst c
      rw [List.getElem?_set_self hl] at hz
      cases hz
      rw [List.length_append, List.length_singleton]
      have := h.bd z l hx
      omega
    · rw [List.getElem?_set_ne (fun e => c e.symm)] at hz
      have := h.bd z m hz
      omega
theorem Mm.imp {n : Nat} {S T : Int → Int → Prop} {b b' : Nat} {N : List (List Int)} (h : Mm n S b N) (k : ∀ x y, S x y ↔ T x y) (hb : b ≤ b') : Mm n T b' N :=
  ⟨h.len, fun x l hx y => (h.mem x l hx y).trans (k _ _), fun x l hx => Nat.le_trans (h.bd x l hx) hb⟩
abbrev sym (ps : List Pr) (x y : Int) : Prop := (x, y) ∈ ps ∨ (y, x) ∈ ps
theorem Mm.nil (n : Nat) : Mm n (sym []) 0 (List.replicate n []) := by
  refine ⟨List.length_replicate, fun x l hx y => ?_, fun x l hx => ?_⟩
  · rw [List.getElem?_replicate] at hx
    split at hx
    · cases hx; simp [sym]
    · cases hx
  · rw [List.getElem?_replicate] at hx
    split at hx
    · cases hx; exact Nat.le_refl _
    · cases hx
def okF (F : List Int) (x : Int) : Prop := 0 ≤ x ∧ ∃ g, F[x.toNat]? = some g ∧ g ≠ -1
/-- the search from place i: F what is found, R who waits -/
structure Srch (n : Nat) (ps : List Pr) (N : List (List Int)) (i : Nat) (F R : List Int) : Prop where
  len : F.length = n
  got : ∀ (x : Nat) (f : Int), F[x]? = some f → f ≠ -1 → 0 ≤ f ∧ f ≤ (i : Int) ∧ Eqv (relP ps) x f ∧ ∀ y, 0 ≤ y → Eqv (relP ps) x y → f ≤ y
  not_ : ∀ (x : Nat), F[x]? = some (-1) → ∀ y, 0 ≤ y → y < (i : Int) → ¬ Eqv (relP ps) x y
  clo : ∀ (x : Nat), okF F x → ∀ l, N[x]? = some l → ∀ y ∈ l, okF F y ∨ y ∈ R
  row : ∀ r ∈ R, 0 ≤ r ∧ r < (n : Int) ∧ Eqv (relP ps) i r
  me : okF F i ∨ (i : Int) ∈ R
structure Dn (n : Nat) (ps : List Pr) (N : List (List Int)) (i : Nat) (F : List Int) : Prop where
  len : F.length = n
  got : ∀ (x : Nat) (f : Int), F[x]? = some f → f ≠ -1 → 0 ≤ f ∧ f ≤ (i : Int) ∧ Eqv (relP ps) x f ∧ ∀ y, 0 ≤ y → Eqv (relP ps) x y → f ≤ y
  not_ : ∀ (x : Nat), F[x]? = some (-1) → ∀ y, 0 ≤ y → y < (i : Int) → ¬ Eqv (relP ps) x y
  clo : ∀ (x : Nat), okF F x → ∀ l, N[x]? = some l → ∀ y ∈ l, okF F y
section
variable {n : Nat} {ps : List Pr} {N : List (List Int)} {b : Nat}
theorem Dn.zero : Dn n ps N 0 (List.replicate n (-1)) := by
  have hm : ∀ (x : Nat) (f : Int), (List.replicate n (-1 : Int))[x]? = some f → f = -1 := fun x f h => by
    rw [List.getElem?_replicate] at h
    split at h
    · exact (Option.some.inj h).symm
    · cases h
  exact ⟨List.length_replicate, fun x f h hn => absurd (hm x f h) hn, fun x _ y h0 h1 => by omega, fun x ⟨_, g, hg, hn⟩ => absurd (hm _ g hg) hn⟩
theorem Dn.start {i : Nat} {F : List Int} (h : Dn n ps N i F) (hi : i < n) : Srch n ps N i F [(i : Int)] :=
  ⟨h.len, h.got, h.not_, fun x hx l hl y hy => .inl (h.clo x hx l hl y hy), fun r hr => by rw [List.mem_singleton.mp hr]; exact ⟨by omega, by omega, .refl _⟩, .inr List.mem_cons_self⟩
theorem Srch.skip {i : Nat} {F R : List Int} {h : Int} (s : Srch n ps N i F (R ++ [h])) (ok : okF F h) : Srch n ps N i F R := by
  refine ⟨s.len, s.got, s.not_, fun x hx l hl y hy => ?_, fun r hr => s.row r (List.mem_append_left _ hr), ?_⟩
  · rcases s.clo x hx l hl y hy with a | a
    · exact .inl a
    · rcases List.mem_append.mp a with a | a
      · exact .inr a
      · rw [List.mem_singleton.mp a]; exact .inl ok
  · rcases s.me with a | a
    · exact .inl a
    · rcases List.mem_append.mp a with a | a
      · exact .inr a
      · rw [List.mem_singleton.mp a]; exact .inl ok
theorem Srch.take {i : Nat} {F R l : List Int} {h : Nat} (s : Srch n ps N i F (R ++ [(h : Int)])) (hm : Mm n (sym ps) b N) (hps : ∀ p ∈ ps, (0 ≤ p.1 ∧ p.1 < (n : Int)) ∧ 0 ≤ p.2 ∧ p.2 < (n : Int)) (hF : F[h]? = some (-1)) (hl : N[h]? = some l) : Srch n ps N i (F.set h (i : Int)) (R ++ l) := by
  have hlt : h < F.length := (List.getElem?_eq_some_iff.mp hF).1
  have eh : Eqv (relP ps) i h := (s.row _ (List.mem_append_right _ List.mem_cons_self)).2.2
  have up : ∀ y, okF F y → okF (F.set h (i : Int)) y := fun y ⟨y0, g, hg, hn⟩ => by
    refine ⟨y0, ?_⟩
    by_cases c : y.toNat = h
    · exact ⟨(i : Int), by rw [c, List.getElem?_set_self hlt], by omega⟩
    · exact ⟨g, by rw [List.getElem?_set_ne (fun e => c e.symm)]; exact hg, hn⟩
  have okh : okF (F.set h (i : Int)) h := ⟨by omega, (i : Int), by rw [Int.toNat_natCast, List.getElem?_set_self hlt], by omega⟩
  refine ⟨by rw [List.length_set]; exact s.len, fun x f hx hn => ?_, fun x hx => ?_, fun x hx l' hl' y hy => ?_, fun r hr => ?_, ?_⟩
  · by_cases c : x = h
    · subst c
      rw [List.getElem?_set_self hlt] at hx
      cases hx
      refine ⟨by omega, Int.le_refl _, eh.symm, fun y y0 hy => ?_⟩
      by_cases d : y < (i : Int)
      · exact absurd hy (s.not_ x hF y y0 d)
      · omega
    · rw [List.getElem?_set_ne (fun e => c e.symm)] at hx
      exact s.got x f hx hn
  · by_cases c : x = h
    · subst c
      rw [List.getElem?_set_self hlt] at hx
      have := Option.some.inj hx
      omega
    · rw [List.getElem?_set_ne (fun e => c e.symm)] at hx
      exact s.not_ x hx
  · by_cases c : x = h
    · subst c
      rw [hl] at hl'
      cases hl'
      exact .inr (List.mem_append_right _ hy)
    · have ox : okF F x := by
        obtain ⟨x0, g, hg, hn⟩ := hx
        rw [Int.toNat_natCast, List.getElem?_set_ne (fun e => c e.symm)] at hg
        exact ⟨x0, g, by rw [Int.toNat_natCast]; exact hg, hn⟩
      rcases s.clo x ox l' hl' y hy with a | a
      · exact .inl (up y a)
      · rcases List.mem_append.mp a with a | a
        · exact .inr (List.mem_append_left _ a)
        · rw [List.mem_singleton.mp a]; exact .inl okh
  · rcases List.mem_append.mp hr with a | a
    · exact s.row r (List.mem_append_left _ a)
    · rcases (hm.mem h l hl r).mp a with e | e
      · have := hps _ e
        exact ⟨this.2.1, this.2.2, eh.trans (.of e)⟩
      · have := hps _ e
        exact ⟨this.1.1, this.1.2, eh.trans (Eqv.symm (.of e))⟩
  · rcases s.me with a | a
    · exact .inl (up _ a)
    · rcases List.mem_append.mp a with a | a
      · exact .inr (List.mem_append_left _ a)
      · exact .inl ((congrArg (okF (F.set h (i : Int))) (List.mem_singleton.mp a)).mpr okh)
theorem Srch.done {i : Nat} {F : List Int} (s : Srch n ps N i F []) (hm : Mm n (sym ps) b N) (hps : ∀ p ∈ ps, (0 ≤ p.1 ∧ p.1 < (n : Int)) ∧ 0 ≤ p.2 ∧ p.2 < (n : Int)) : Dn n ps N (i + 1) F := by
  have clo : ∀ (x : Nat), okF F x → ∀ l, N[x]? = some l → ∀ y ∈ l, okF F y := fun x hx l hl y hy => by
    rcases s.clo x hx l hl y hy with a | a
    · exact a
    · cases a
  have step : ∀ x y, okF F x → (0 ≤ y) → x < (n : Int) → sym ps x y → okF F y := fun x y hx y0 xn hs => by
    have x0 := hx.1
    obtain ⟨k, rfl⟩ : ∃ k : Nat, x = (k : Int) := ⟨x.toNat, by omega⟩
    have hk : k < N.length := by rw [hm.len]; omega
    exact clo k hx _ (List.getElem?_eq_getElem hk) y ((hm.mem k _ (List.getElem?_eq_getElem hk) y).mpr hs)
  have along : ∀ x y, Eqv (relP ps) x y → (okF F x ↔ okF F y) := fun x y e => by
    induction e with
    | refl x => exact Iff.rfl
    | @of x y r =>
      have := hps _ r
      exact ⟨fun h => step x y h this.2.1 this.1.2 (.inl r), fun h => step y x h this.1.1 this.2.2 (.inr r)⟩
    | symm _ ih => exact ih.symm
    | trans _ _ i1 i2 => exact i1.trans i2
  have okI : okF F i := by
    rcases s.me with a | a
    · exact a
    · cases a
  refine ⟨s.len, fun x f hx hn => ?_, fun x hx y y0 hy hE => ?_, clo⟩
  · obtain ⟨a, b, c, d⟩ := s.got x f hx hn
    exact ⟨a, by omega, c, d⟩
  · by_cases c : y < (i : Int)
    · exact s.not_ x hx y y0 c hE
    · have : y = (i : Int) := by omega
      subst this
      obtain ⟨_, g, hg, hn⟩ := (along _ _ hE).mpr okI
      rw [Int.toNat_natCast, hx] at hg
      exact hn (Option.some.inj hg).symm
/-- at the end all are found, each by the least place alike -/
theorem Dn.all {F : List Int} (h : Dn n ps N n F) : ∀ (x : Nat) (f : Int), F[x]? = some f → 0 ≤ f ∧ Eqv (relP ps) x f ∧ ∀ y, 0 ≤ y → Eqv (relP ps) x y → f ≤ y := fun x f hx => by
  have hl : x < n := by rw [← h.len]; exact (List.getElem?_eq_some_iff.mp hx).1
  by_cases c : f = -1
  · subst c
    exact absurd (.refl _) (h.not_ x hx x (by omega) (by omega))
  · obtain ⟨a, _, d, e⟩ := h.got x f hx c
    exact ⟨a, d, e⟩
end
end Rep
namespace Rep
open PySem L2
def spSays (K : PySem.W.Frag) : Sp := fun vs H Q _ => ∃ (a : Addr) (ns : List Int) (k L : Int) (m : Nat), vs = [.ref a, .int k, .int L, .int (m : Int)] ∧ SqL K H a (ns.map V.int) ∧ ns.length ≤ 63 ∧ 0 ≤ L ∧ L ≤ 10 ^ 41 ∧ m ≤ 1000 ∧
  ∀ H' o xs ss, Same H H' → H o = none → H' o = some (.lst xs) → SL H' xs ss → (∀ s ∈ ss, Good L s) → ss.length ≤ m → Q (.ref o) H'
abbrev nSays : List Str := ["_law_script", "_law_k", "_law_length", "_law_many", "_law_at"]
theorem scSays : FnScope nSays ["_law_script", "_law_k", "_law_length", "_law_many"] (defScope s_law_sayings) := ⟨rfl, rfl, rfl, by decide +kernel, rfl, by decide +kernel, by decide +kernel⟩
section
variable {P : Program} {w : World} {K : PySem.W.Frag} {mg : Str → Option Value} {base : Heap}
theorem ok_says {f fS : Addr} {fd fdS : FuncData} {k : Nat} (F : Fun K "_law_sayings" "_law_sayings" s_law_sayings f fd) (GS : FnOk P w K mg base CX0 k fS fdS ["_law_script", "_law_k", "_law_length"] (spSay K)) (kS : PySem.W.keepIn K (.ref fS) = true) (bS : Binds K fdS ["_law_script", "_law_k", "_law_length"] []) (mS_ : mg "_law_saying" = some (.ref fS)) (mR : mg "range" = none) : FnOk P w K mg base CX0 (k + 1) f fd ["_law_script", "_law_k", "_law_length", "_law_many"] (spSays K) := by
  refine F.ok scSays (fun vs H Q E h => ?_) (fun cdv A outer s H vs Q E hr h => ?_)
  · obtain ⟨a, ns, z, L, m, rfl, _⟩ := h; rfl
  obtain ⟨a, ns, z, L, m, rfl, hS, h63, hL0, hL2, hm, q⟩ := h
  refine ⟨_, (pss_cons (ps_if (pt_cmpR op_lt (pv 2) pe_int (nomark _)) (pss_one (ps_ret (pe_lst pa_nil))) pss_nil)
    (pss_one (ps_ret (pe_lc (own := [("_law_at", 4)]) (g := (gName 4)) (tt := tYes) rfl scSays.nd (pi_range1 rfl mR (pa_cons (pv 3) pa_nil)) (blkOk_by (N := nSays) (sc := defScope s_law_sayings) (by decide +kernel)) (fun _ _ _ _ _ => (pg_name (i := 4) scSays.nd rfl (.inl rfl))) (fun _ _ _ _ _ => pts_nil) (fun _ _ _ _ _ => (pe_call GS hr (by rfl) mS_ kS bS .nil pass0 (pa_cons (pv 0) (pa_cons (pe_op op_add (pv 1) (pv 4)) (pa_cons (pv 2) pa_nil))))))))), ?_⟩
  refine ⟨.int L, rfl, _, 1, rfl, rfl, _, rfl, ite2 (fun c => ?_) (fun c => ?_)⟩
  · refine ⟨(by show 0 ≤ sizeLine; decide), fun o no => ?_⟩
    exact q _ o [] [] (same_upd no) no upd_same .nil (fun s hs => by cases hs) (Nat.zero_le _)
  have c1 : ¬ L < 1 := fun e => c (decide_eq_true e)
  refine ⟨.int (m : Int), rfl, (m : Int), rfl, by omega, by omega, fun D nD => ?_⟩
  refine lc_range (n := m) (fun i H3 => ∃ xs ss, Same H H3 ∧ H3 D = some (.lst xs) ∧ SL H3 xs ss ∧ (∀ s ∈ ss, Good L s) ∧ ss.length ≤ i) ⟨[], [], same_upd nD, upd_same, .nil, (fun s hs => by cases hs), Nat.le_refl _⟩ (fun i H3 hi hP => ?_) (fun H3 hP => ?_)
  · obtain ⟨xs, ss, sm, eD, sl, gd, hl⟩ := hP
    refine ⟨rfl, ?_⟩
    refine tYes_ok ?_
    refine iteT ?_
    refine ⟨.ref a, rfl, .int z, rfl, .int (0 + (i : Int)), rfl, _, _, rfl, rfl, .int L, rfl, a, ns, _, L, rfl, sm.seq hS, h63, by omega, hL2, fun H4 v s4 sm4 is4 g4 => ?_⟩
    refine ⟨xs, sm4 _ _ eD, ?_, xs ++ [v], ss ++ [s4], same_over (sm.trans sm4) nD, upd_same, SL.ts (TS.lst (sm4 _ _ eD)) ((SL.ts (TS.of sm4) sl).snoc is4), fun s hs => ?_, ?_⟩
    · rw [sl.len]; exact small1000 (by omega)
    · rcases List.mem_append.mp hs with hs | hs
      · exact gd s hs
      · rw [List.mem_singleton.mp hs]; exact g4
    · rw [List.length_append, List.length_singleton]; omega
  · obtain ⟨xs, ss, sm, eD, sl, gd, hl⟩ := hP
    exact q H3 D xs ss sm nD eD sl gd hl
end
theorem log_of {z : Int} {b : Nat} (h : z.natAbs < 2 ^ b) (h0 : 0 < b) (h9 : b ≤ 9000) : z.natAbs.log2 < 9000 := Nat.lt_of_lt_of_le (PySem.Flt.log2_lt_of h0 h) h9
end Rep
namespace Rep
open PySem L2
/-- rows of all firsts -/
structure FstOk (e : Int) (ss : List Sy) (R : List Pr) : Prop where
  tdy : Tdy R
  len : R.length ≤ 14000000
  cov : ∀ x, cov R x ↔ (0 ≤ x ∧ x < e ∧ fOf (allCuts e ss) x = x)
end Rep
namespace Rep
open PySem L2
theorem cut63 {xs : List V} (h : xs.length ≤ 63) : cutV xs none (some 63) = xs := by
  unfold cutV
  rw [show HT.sIx xs.length xs.length (some 63) = min 63 xs.length from HT.sIx_nat xs.length xs.length 63, HT.sIx_none]
  show (xs.take (min 63 xs.length - 0)) = xs
  exact List.take_of_length_le (by omega)
/-! sayings as data -/
def syD (s : Sy) : PyData := .tuple [.int s.lo, .int s.hi, .int s.n, .bool s.t]
theorem SL.dp {K : PySem.W.Frag} {H : Hp} : ∀ {vs : List V} {ss : List Sy}, SL H vs ss → DpAll K H vs (ss.map syD)
  | [], [], _ => .nil
  | [], _ :: _, h => by have := h.len; simp at this
  | _ :: _, [], h => by have := h.len; simp at this
  | v :: vs, s :: ss, h => by
    obtain ⟨t, rfl, ht⟩ := h.at_ 0 v s rfl rfl
    refine .cons (.tup (.inl (.inl ht)) (.cons (.int _) (.cons (.int _) (.cons (.int _) (.cons (.bl _) .nil))))) (SL.dp ⟨?_, fun i w u h1 h2 => h.at_ (i + 1) w u h1 h2⟩)
    have := h.len
    simpa using this
theorem canSy : ∀ ss : List Sy, PyData.canLayAll0 (ss.map syD) = true
  | [] => rfl
  | _ :: r => by
    show (true && PyData.canLayAll0 (r.map syD)) = true
    rw [canSy r]; rfl
theorem depSy : ∀ ss : List Sy, PyData.depthAll (ss.map syD) ≤ 1
  | [] => Nat.zero_le _
  | _ :: r => by
    show max 1 (PyData.depthAll (r.map syD)) ≤ 1
    have := depSy r
    omega
theorem shapedSy (ss : List Sy) : SeqAt.shaped (.list (ss.map syD)) = true := by
  unfold SeqAt.shaped
  have e : PyData.canLay0 (.list (ss.map syD)) = true := canSy ss
  rw [e]
  refine decide_eq_true ?_
  show PyData.depthAll (ss.map syD) + 1 ≤ 64
  have := depSy ss
  omega
theorem eqvSy (ss : List Sy) : PyData.eqv (.list (ss.map syD)) (.list (ss.map syD)) = true := SeqAt.eqv_refl _ (canSy ss)
/-! the law's first and the program's are one -/
theorem first_law {e x f : Int} {ss : List Sy} (he : 0 ≤ e) (gd : ∀ s ∈ ss, Good e s) (hx0 : 0 ≤ x) (hx1 : x < e) (h : 0 ≤ f ∧ Eqv (relP (partF ss)) x f ∧ ∀ y, 0 ≤ y → Eqv (relP (partF ss)) x y → f ≤ y) : f = fOf (allCuts e ss) x := by
  obtain ⟨h0, h1, h2⟩ := h
  have eq := (part_eq ss).trans (start_ok gd).2.1.symm
  have st := all_stg he gd
  obtain ⟨a, b, c⟩ := (fOf_ok st).1 x hx0 hx1
  have l1 := h2 _ a (eq.iff.mpr c)
  have l2 := fOf_least st hx0 hx1 (eq.iff.mp h1)
  omega
theorem rg_at {n i : Nat} {v : V} (h : (rgV 0 (n : Int) ++ (rgV 0 (n : Int)).reverse)[i]? = some v) : ∃ x : Nat, x < n ∧ v = .int (x : Int) := by
  have h1 : v ∈ rgV 0 (n : Int) := by
    rcases List.mem_append.mp (List.mem_of_getElem? h) with h | h
    · exact h
    · exact List.mem_reverse.mp h
  unfold rgV at h1
  obtain ⟨x, hx, e⟩ := List.mem_map.mp h1
  rw [List.mem_range] at hx
  exact ⟨x, by omega, by rw [← e, Int.zero_add]⟩
theorem all_len {e : Int} {ss : List Sy} : (allCuts e ss).length ≤ e.toNat := cuts_len _ _ _
def spLaw5 (K : PySem.W.Frag) (P : Addr) : Sp := fun vs H Q _ => ∃ (a : Addr) (ns : List Int), vs = [.ref a] ∧ SqL K H a (ns.map V.int) ∧ ns.length ≤ 63 ∧ TbO P H ∧ ∀ H', Q (.bl true) H'
end Rep
namespace Rep
/-! counting in rows -/
def mnn (a b : Int) : Int := if b < a then b else a
def undF (ps : List Pr) (x : Int) : Int := ((ps.filter fun p => decide (p.1 < x)).map fun p => mnn p.2 x - p.1).sum
def kthF : List Pr → Int → Option Int
  | [], _ => none
  | p :: r, k => if k < p.2 - p.1 then some (p.1 + k) else kthF r (k - (p.2 - p.1))
def one_ (p : Pr) : List Int := (List.range (p.2 - p.1).toNat).map fun (i : Nat) => p.1 + (i : Int)
def flat : List Pr → List Int
  | [] => []
  | p :: r => one_ p ++ flat r
theorem mem_one {p : Pr} {x : Int} : x ∈ one_ p ↔ p.1 ≤ x ∧ x < p.2 := by
  unfold one_
  rw [List.mem_map]
  constructor
  · rintro ⟨i, hi, rfl⟩
    have := List.mem_range.mp hi
    omega
  · intro h
    exact ⟨(x - p.1).toNat, List.mem_range.mpr (by omega), by omega⟩
theorem mem_flat : ∀ {R : List Pr} {x : Int}, x ∈ flat R ↔ cov R x
  | [], x => ⟨fun h => (by cases h), fun h => absurd h cov_nil⟩
  | p :: r, x => by
    show x ∈ one_ p ++ flat r ↔ _
    rw [List.mem_append, mem_one, mem_flat, cov_cons]
theorem sorted_one (p : Pr) : (one_ p).Pairwise (· < ·) := by
  unfold one_
  rw [List.pairwise_map]
  exact List.pairwise_lt_range.imp fun h => by omega
theorem sorted_flat : ∀ {R : List Pr}, Tdy R → (flat R).Pairwise (· < ·)
  | [], _ => .nil
  | p :: r, h => by
    show (one_ p ++ flat r).Pairwise _
    rw [List.pairwise_append]
    refine ⟨sorted_one p, sorted_flat h.tail, fun a ha b hb => ?_⟩
    have h1 := mem_one.mp ha
    have h2 := h.behind (mem_flat.mp hb)
    omega
theorem sorted_uniq : ∀ {a b : List Int}, a.Pairwise (· < ·) → b.Pairwise (· < ·) → (∀ x, x ∈ a ↔ x ∈ b) → a = b
  | [], [], _, _, _ => rfl
  | [], y :: b, _, _, h => by
    have := (h y).mpr List.mem_cons_self
    cases this
  | x :: a, [], _, _, h => by
    have := (h x).mp List.mem_cons_self
    cases this
  | x :: a, y :: b, ha, hb, h => by
    have ha' := List.pairwise_cons.mp ha
    have hb' := List.pairwise_cons.mp hb
    have e : x = y := by
      rcases List.mem_cons.mp ((h x).mp List.mem_cons_self) with e | h1
      · exact e
      · rcases List.mem_cons.mp ((h y).mpr List.mem_cons_self) with e | h2
        · exact e.symm
        · have := hb'.1 x h1
          have := ha'.1 y h2
          omega
    subst e
    have et : a = b := sorted_uniq ha'.2 hb'.2 fun z => ⟨fun hz => by
      rcases List.mem_cons.mp ((h z).mp (List.mem_cons_of_mem _ hz)) with e | h1
      · have := ha'.1 z hz; omega
      · exact h1, fun hz => by
      rcases List.mem_cons.mp ((h z).mpr (List.mem_cons_of_mem _ hz)) with e | h1
      · have := hb'.1 z hz; omega
      · exact h1⟩
    rw [et]
theorem flat_rows {zs : List Int} (h : zs.Pairwise (· < ·)) : flat (rowsF zs) = zs := by
  obtain ⟨t, c, _⟩ := rowsF_tdy h
  exact sorted_uniq (sorted_flat t) h fun x => by rw [mem_flat, c]
theorem one_len (p : Pr) : (one_ p).length = (p.2 - p.1).toNat := by
  unfold one_; rw [List.length_map, List.length_range]
theorem one_get {p : Pr} {k : Nat} (h : k < (p.2 - p.1).toNat) : (one_ p)[k]? = some (p.1 + (k : Int)) := by
  unfold one_
  rw [List.getElem?_map, List.getElem?_range h]
  rfl
theorem kth_sc {by_ high a : Int} (hb : 0 < by_) (ha : 0 ≤ a) (ha' : a < by_) : ∀ {R : List Pr}, (∀ p ∈ R, p.1 < p.2) → ∀ k : Nat, kthF (R.map (sc by_ high)) ((k : Int) * by_ + a) = ((flat R)[k]?).map fun z => z * by_ + a + high
  | [], _, k => rfl
  | p :: r, h, k => by
    have hp := h p List.mem_cons_self
    show (if (k : Int) * by_ + a < p.2 * by_ + high - (p.1 * by_ + high) then some (p.1 * by_ + high + ((k : Int) * by_ + a)) else kthF (r.map (sc by_ high)) ((k : Int) * by_ + a - (p.2 * by_ + high - (p.1 * by_ + high)))) = ((one_ p ++ flat r)[k]?).map _
    have ew : p.2 * by_ + high - (p.1 * by_ + high) = (p.2 - p.1) * by_ := by rw [Int.sub_mul]; omega
    rw [ew]
    by_cases c : k < (p.2 - p.1).toNat
    · have c1 : (k : Int) + 1 ≤ p.2 - p.1 := by omega
      have c2 : ((k : Int) + 1) * by_ ≤ (p.2 - p.1) * by_ := Int.mul_le_mul_of_nonneg_right c1 (by omega)
      rw [Int.add_mul] at c2
      rw [if_pos (by omega), List.getElem?_append_left (by rw [one_len]; exact c), one_get c]
      show some _ = some ((p.1 + (k : Int)) * by_ + a + high)
      rw [Int.add_mul]
      congr 1
      omega
    · have c1 : p.2 - p.1 ≤ (k : Int) := by omega
      have c2 : (p.2 - p.1) * by_ ≤ (k : Int) * by_ := Int.mul_le_mul_of_nonneg_right c1 (by omega)
      rw [if_neg (by omega), List.getElem?_append_right (by rw [one_len]; omega), one_len]
      have e : (k : Int) * by_ + a - (p.2 - p.1) * by_ = ((k - (p.2 - p.1).toNat : Nat) : Int) * by_ + a := by
        have e1 : ((k - (p.2 - p.1).toNat : Nat) : Int) = (k : Int) - (p.2 - p.1) := by omega
        rw [e1]
        generalize p.2 - p.1 = wd at *
        rw [Int.sub_mul]
        omega
      rw [e]
      exact kth_sc hb ha ha' (fun q hq => h q (List.mem_cons_of_mem _ hq)) _
theorem kth_far : ∀ {R : List Pr} {k : Int}, (∀ p ∈ R, p.1 < p.2) → wid R ≤ k → kthF R k = none
  | [], _, _, _ => rfl
  | p :: r, k, h, hk => by
    rw [wid_cons] at hk
    have hw : 0 ≤ wid r := by
      clear hk
      have h' : ∀ q ∈ r, q.1 < q.2 := fun q hq => h q (List.mem_cons_of_mem _ hq)
      clear h
      induction r with
      | nil => exact Int.le_refl _
      | cons q r ih =>
        rw [wid_cons]
        have := h' q List.mem_cons_self
        have := ih fun z hz => h' z (List.mem_cons_of_mem _ hz)
        omega
    show (if k < p.2 - p.1 then _ else _) = none
    rw [if_neg (by omega)]
    exact kth_far (fun q hq => h q (List.mem_cons_of_mem _ hq)) (by omega)
theorem und_cons (p : Pr) (r : List Pr) (x : Int) : undF (p :: r) x = (if p.1 < x then mnn p.2 x - p.1 else 0) + undF r x := by
  unfold undF
  by_cases c : p.1 < x
  · have e : (p :: r).filter (fun p => decide (p.1 < x)) = p :: r.filter (fun p => decide (p.1 < x)) := by simp [c]
    rw [e, if_pos c, List.map_cons, List.sum_cons]
  · have e : (p :: r).filter (fun p => decide (p.1 < x)) = r.filter (fun p => decide (p.1 < x)) := by
      have c' : x ≤ p.1 := by omega
      simp [c']
    rw [e, if_neg c]
    omega
def b2 (b : Prop) [Decidable b] : Int := if b then 1 else 0
theorem filter_range (x y : Int) : ∀ n : Nat, (((List.range n).map fun (i : Nat) => y + (i : Int)).filter fun z => decide (z < x)).length = if y < x then min n (x - y).toNat else 0
  | 0 => by
    show 0 = _
    split <;> simp
  | n + 1 => by
    rw [List.range_succ, List.map_append, List.filter_append, List.length_append, filter_range x y n]
    by_cases c : y + (n : Int) < x
    · have e : (([n].map fun (i : Nat) => y + (i : Int)).filter fun z => decide (z < x)).length = 1 := by simp [c]
      rw [e, if_pos (by omega), if_pos (by omega)]
      omega
    · have e : (([n].map fun (i : Nat) => y + (i : Int)).filter fun z => decide (z < x)).length = 0 := by
        have c' : x ≤ y + (n : Int) := by omega
        simp [c']
      rw [e]
      split
      · omega
      · rfl
theorem und_flat : ∀ {R : List Pr}, (∀ p ∈ R, p.1 < p.2) → ∀ x : Int, undF R x = (((flat R).filter fun z => decide (z < x)).length : Int)
  | [], _, x => rfl
  | p :: r, h, x => by
    have hp := h p List.mem_cons_self
    rw [und_cons, und_flat (fun q hq => h q (List.mem_cons_of_mem _ hq)) x]
    show _ = (((one_ p ++ flat r).filter fun z => decide (z < x)).length : Int)
    rw [List.filter_append, List.length_append]
    have e := filter_range x p.1 (p.2 - p.1).toNat
    have e' : ((one_ p).filter fun z => decide (z < x)).length = if p.1 < x then min (p.2 - p.1).toNat (x - p.1).toNat else 0 := e
    rw [e']
    unfold mnn
    by_cases c : p.1 < x
    · rw [if_pos c, if_pos c]
      split <;> omega
    · rw [if_neg c, if_neg c]
      omega
theorem und_sc {by_ high a : Int} (hb : 0 < by_) (ha : 0 ≤ a) (ha' : a < by_) : ∀ {R : List Pr}, Tdy R → ∀ (x : Int) [Decidable (cov R x)], undF (R.map (sc by_ high)) (x * by_ + a + high) = undF R x * by_ + a * b2 (cov R x)
  | [], _, x, _ => by
    show (0 : Int) = 0 * by_ + a * b2 (cov [] x)
    unfold b2
    rw [if_neg cov_nil]
    omega
  | p :: r, h, x, dec => by
    have hp := h.ok p List.mem_cons_self
    have dr : Decidable (cov r x) := Classical.propDecidable _
    have ih := und_sc (high := high) hb ha ha' h.tail x
    rw [List.map_cons, und_cons, und_cons, ih]
    -- the first row's part
    have mono : ∀ {u v : Int}, u ≤ v → u * by_ ≤ v * by_ := fun {u v} l => Int.mul_le_mul_of_nonneg_right l (by omega)
    have key : (if (sc by_ high p).1 < x * by_ + a + high then mnn (sc by_ high p).2 (x * by_ + a + high) - (sc by_ high p).1 else 0) = (if p.1 < x then mnn p.2 x - p.1 else 0) * by_ + a * (if p.1 ≤ x ∧ x < p.2 then 1 else 0) := by
      show (if p.1 * by_ + high < x * by_ + a + high then mnn (p.2 * by_ + high) (x * by_ + a + high) - (p.1 * by_ + high) else 0) = _
      unfold mnn
      by_cases c1 : p.1 < x
      · have m1 := mono (Int.le_of_lt c1)
        have m1' := mono (show p.1 + 1 ≤ x by omega)
        rw [Int.add_mul] at m1'
        rw [if_pos c1, if_pos (by omega)]
        by_cases c2 : x < p.2
        · have m2 := mono (show x + 1 ≤ p.2 by omega)
          rw [Int.add_mul] at m2
          rw [if_pos (show x * by_ + a + high < p.2 * by_ + high by omega), if_pos c2, if_pos (show p.1 ≤ x ∧ x < p.2 from ⟨by omega, c2⟩), Int.sub_mul]
          omega
        · have m2 := mono (show p.2 ≤ x by omega)
          rw [if_neg (show ¬ x * by_ + a + high < p.2 * by_ + high by omega), if_neg c2, if_neg (show ¬ (p.1 ≤ x ∧ x < p.2) by omega), Int.sub_mul]
          omega
      · rw [if_neg c1]
        by_cases c2 : p.1 = x
        · subst c2
          have m2 := mono (show p.1 + 1 ≤ p.2 by omega)
          rw [Int.add_mul] at m2
          rw [if_pos (show p.1 ≤ p.1 ∧ p.1 < p.2 from ⟨Int.le_refl _, hp⟩)]
          by_cases c3 : p.1 * by_ + high < p.1 * by_ + a + high
          · rw [if_pos c3, if_pos (show p.1 * by_ + a + high < p.2 * by_ + high by omega)]; omega
          · rw [if_neg c3]; omega
        · have m2 := mono (show x + 1 ≤ p.1 by omega)
          rw [Int.add_mul] at m2
          rw [if_neg (show ¬ p.1 * by_ + high < x * by_ + a + high by omega), if_neg (show ¬ (p.1 ≤ x ∧ x < p.2) by omega)]
          omega
    rw [key]
    have e2 : b2 (cov (p :: r) x) = (if p.1 ≤ x ∧ x < p.2 then 1 else 0) + b2 (cov r x) := by
      unfold b2
      by_cases c1 : p.1 ≤ x ∧ x < p.2
      · rw [if_pos c1, if_pos (cov_cons.mpr (.inl c1)), if_neg fun z => by have := h.behind z; omega]
        rfl
      · rw [if_neg c1]
        by_cases c2 : cov r x
        · rw [if_pos c2, if_pos (cov_cons.mpr (.inr c2))]; rfl
        · rw [if_neg c2, if_neg fun z => (cov_cons.mp z).elim c1 c2]; rfl
    rw [e2, Int.add_mul, Int.mul_add]
    omega
theorem und_all : ∀ {R : List Pr} {x : Int}, (∀ p ∈ R, p.1 < p.2 ∧ p.2 ≤ x) → undF R x = wid R
  | [], _, _ => rfl
  | p :: r, x, h => by
    have hp := h p List.mem_cons_self
    rw [und_cons, wid_cons, und_all fun q hq => h q (List.mem_cons_of_mem _ hq), if_pos (by omega)]
    unfold mnn
    rw [if_neg (by omega)]
end Rep
namespace Rep
/-! alike places and counted firsts -/
section
variable {e : Int} {ss : List Sy} {x y : Int}
theorem alike_iff (he : 0 ≤ e) (gd : ∀ s ∈ ss, Good e s) (hx0 : 0 ≤ x) (hx1 : x < e) (hy0 : 0 ≤ y) (hy1 : y < e) : fOf (allCuts e ss) x = fOf (allCuts e ss) y ↔ Eqv (relQ (ss.map q4)) x y := by
  obtain ⟨f1, f2⟩ := fOf_ok (all_stg he gd)
  have eq := (start_ok gd).2.1
  constructor
  · intro h
    have a := (f1 x hx0 hx1).2.2
    have b := (f1 y hy0 hy1).2.2
    rw [h] at a
    exact eq.iff.mp (a.trans b.symm)
  · intro h
    rcases f2 x y (eq.iff.mpr h) with z | ⟨_, _, _, _, z⟩
    · rw [z]
    · exact z
theorem first_first (he : 0 ≤ e) (gd : ∀ s ∈ ss, Good e s) (hx0 : 0 ≤ x) (hx1 : x < e) : 0 ≤ fOf (allCuts e ss) x ∧ fOf (allCuts e ss) x < e ∧ fOf (allCuts e ss) (fOf (allCuts e ss) x) = fOf (allCuts e ss) x ∧ fOf (allCuts e ss) x ≤ x ∧ Eqv (relQ (ss.map q4)) x (fOf (allCuts e ss) x) := by
  obtain ⟨f1, f2⟩ := fOf_ok (all_stg he gd)
  obtain ⟨a, b, c⟩ := f1 x hx0 hx1
  refine ⟨a, by omega, ?_, b, (start_ok gd).2.1.iff.mp c⟩
  rcases f2 _ _ c with z | ⟨_, _, _, _, z⟩
  · rw [← z, ← z]
  · exact z.symm
end
theorem wid_flat : ∀ {R : List Pr}, (∀ p ∈ R, p.1 < p.2) → wid R = ((flat R).length : Int)
  | [], _ => rfl
  | p :: r, h => by
    have ih := wid_flat (R := r) fun q hq => h q (List.mem_cons_of_mem _ hq)
    have h1 := h p List.mem_cons_self
    have e1 : wid (p :: r) = p.2 - p.1 + wid r := by
      unfold wid
      rw [List.map_cons, List.sum_cons]
    have e2 : (flat (p :: r)).length = (p.2 - p.1).toNat + (flat r).length := by
      show (one_ p ++ flat r).length = _
      rw [List.length_append, one_len]
    rw [e1, e2, ih]
    omega
theorem inj_len : ∀ (l m : List Int) (φ : Int → Int), l.Nodup → (∀ x ∈ l, φ x ∈ m) → (∀ x ∈ l, ∀ y ∈ l, φ x = φ y → x = y) → l.length ≤ m.length
  | [], _, _, _, _, _ => Nat.zero_le _
  | x :: l, m, φ, nd, hm, hi => by
    obtain ⟨n1, n2⟩ := List.nodup_cons.mp nd
    have hx := hm x List.mem_cons_self
    have ih := inj_len l (m.erase (φ x)) φ n2 (fun y hy => by
      have ne : φ y ≠ φ x := fun z => n1 ((hi y (List.mem_cons_of_mem _ hy) x List.mem_cons_self z) ▸ hy)
      exact (List.mem_erase_of_ne ne).mpr (hm y (List.mem_cons_of_mem _ hy))) fun a ha b hb => hi a (List.mem_cons_of_mem _ ha) b (List.mem_cons_of_mem _ hb)
    rw [List.length_erase_of_mem hx] at ih
    have := List.length_pos_of_mem hx
    rw [List.length_cons]
    omega
theorem Tdy.lt {R : List Pr} (h : Tdy R) : ∀ p ∈ R, p.1 < p.2 := h.ok
theorem card_le {e e' : Int} {ss ss' : List Sy} {R R' : List Pr} (r : FstOk e ss R) (r' : FstOk e' ss' R') (he : 0 ≤ e) (he' : 0 ≤ e') (gd : ∀ s ∈ ss, Good e s) (gd' : ∀ s ∈ ss', Good e' s) (φ : Int → Int)
    (h1 : ∀ x, 0 ≤ x → x < e → 0 ≤ φ x ∧ φ x < e') (h2 : ∀ x y, 0 ≤ x → x < e → 0 ≤ y → y < e → Eqv (relQ (ss'.map q4)) (φ x) (φ y) → Eqv (relQ (ss.map q4)) x y) : wid R ≤ wid R' := by
  rw [wid_flat r.tdy.lt, wid_flat r'.tdy.lt]
  have h := inj_len (flat R) (flat R') (fun x => fOf (allCuts e' ss') (φ x)) ((sorted_flat r.tdy).imp fun h z => by omega) (fun x hx => ?_) fun x hx y hy z => ?_
  · omega
  · obtain ⟨a, b, _⟩ := (r.cov x).mp (mem_flat.mp hx)
    obtain ⟨c1, c2⟩ := h1 x a b
    obtain ⟨d1, d2, d3, _⟩ := first_first he' gd' c1 c2
    exact mem_flat.mpr ((r'.cov _).mpr ⟨d1, d2, d3⟩)
  · obtain ⟨a1, a2, a3⟩ := (r.cov x).mp (mem_flat.mp hx)
    obtain ⟨b1, b2, b3⟩ := (r.cov y).mp (mem_flat.mp hy)
    obtain ⟨c1, c2⟩ := h1 x a1 a2
    obtain ⟨d1, d2⟩ := h1 y b1 b2
    have ev := h2 x y a1 a2 b1 b2 ((alike_iff he' gd' c1 c2 d1 d2).mp z)
    have := (alike_iff he gd a1 a2 b1 b2).mpr ev
    omega
end Rep
namespace Rep
open PySem L2
/-! one more saying: as many firsts just where it was so already -/
theorem sorted_sub : ∀ {b a : List Int}, a.Pairwise (· < ·) → b.Pairwise (· < ·) → (∀ x ∈ a, x ∈ b) → a.length ≤ b.length ∧ (a.length = b.length → a = b)
  | [], a, _, _, h => by
    cases a with
    | nil => exact ⟨Nat.le_refl _, fun _ => rfl⟩
    | cons x r => exact absurd (h x List.mem_cons_self) (by simp)
  | y :: b, [], _, _, _ => ⟨Nat.zero_le _, fun h => by simp at h⟩
  | y :: b, x :: a, ha, hb, h => by
    have ha' := List.pairwise_cons.mp ha
    have hb' := List.pairwise_cons.mp hb
    by_cases e : x = y
    · subst e
      have := sorted_sub (b := b) (a := a) ha'.2 hb'.2 fun z hz => by
        rcases List.mem_cons.mp (h z (List.mem_cons_of_mem _ hz)) with q | q
        · have := ha'.1 z hz; omega
        · exact q
      refine ⟨Nat.succ_le_succ this.1, fun l => ?_⟩
      rw [this.2 (by simpa using l)]
    · have hx : x ∈ b := (List.mem_cons.mp (h x List.mem_cons_self)).resolve_left e
      have hyx := hb'.1 x hx
      have := sorted_sub (b := b) (a := x :: a) ha hb'.2 fun z hz => by
        rcases List.mem_cons.mp (h z hz) with q | q
        · exfalso
          rcases List.mem_cons.mp hz with w | w
          · omega
          · have := ha'.1 z w; omega
        · exact q
      rw [List.length_cons] at this ⊢
      rw [List.length_cons]
      exact ⟨by omega, fun l => by omega⟩
section
variable {e : Int} {A B : List Sy}
theorem least_of (he : 0 ≤ e) (gd : ∀ s ∈ A, Good e s) {p q : Int} (hp0 : 0 ≤ p) (hp1 : p < e) (h : Eqv (relQ (A.map q4)) p q) : fOf (allCuts e A) p ≤ q := fOf_least (all_stg he gd) hp0 hp1 ((start_ok gd).2.1.iff.mpr h)
/-- sayings of one meaning lead to the same firsts -/
theorem eq_first (he : 0 ≤ e) (ga : ∀ s ∈ A, Good e s) (gb : ∀ s ∈ B, Good e s) (h : ∀ u v, Eqv (relQ (A.map q4)) u v ↔ Eqv (relQ (B.map q4)) u v) {x : Int} (h0 : 0 ≤ x) (h1 : x < e) : fOf (allCuts e A) x = fOf (allCuts e B) x := by
  have a := (first_first he ga h0 h1).2.2.2.2
  have b := (first_first he gb h0 h1).2.2.2.2
  have l1 := least_of he ga h0 h1 ((h _ _).mpr b)
  have l2 := least_of he gb h0 h1 ((h _ _).mp a)
  omega
theorem eq_rows (he : 0 ≤ e) (ga : ∀ s ∈ A, Good e s) (gb : ∀ s ∈ B, Good e s) (h : ∀ u v, Eqv (relQ (A.map q4)) u v ↔ Eqv (relQ (B.map q4)) u v) {R R' : List Pr} (r : FstOk e A R) (r' : FstOk e B R') : R = R' := by
  refine Tdy.uniq r.tdy r'.tdy fun x => ?_
  rw [r.cov, r'.cov]
  refine and_congr_right fun h0 => and_congr_right fun h1 => ?_
  rw [eq_first he ga gb h h0 h1]
end
section
variable {e : Int} {ss : List Sy} {s : Sy}
theorem says_in (g : Good e s) {u v : Int} (h : saysQ (q4 s) u v) : (0 ≤ u ∧ u < e) ∧ 0 ≤ v ∧ v < e := by
  obtain ⟨g1, g2, g3, g4, g5⟩ := g
  have h : says s.lo s.hi s.n s.t u v := h
  cases c : s.t with
  | true => rw [c, says_t] at h; omega
  | false => rw [c, says_f] at h; omega
/-- all that it says is so already -/
def SaidAll (e : Int) (ss : List Sy) (s : Sy) : Prop := ∀ u v, saysQ (q4 s) u v → fOf (allCuts e ss) u = fOf (allCuts e ss) v
theorem good_snoc (gd : ∀ u ∈ ss, Good e u) (g : Good e s) : ∀ u ∈ ss ++ [s], Good e u := fun u hu => (List.mem_append.mp hu).elim (gd u) fun h => by rw [List.mem_singleton.mp h]; exact g
theorem snoc_up {u v : Int} (h : Eqv (relQ (ss.map q4)) u v) : Eqv (relQ ((ss ++ [s]).map q4)) u v := h.mono fun _ _ ⟨q, hq, r⟩ => ⟨q, by rw [List.map_append]; exact List.mem_append_left _ hq, r⟩
theorem snoc_own {u v : Int} (h : saysQ (q4 s) u v) : Eqv (relQ ((ss ++ [s]).map q4)) u v := .of ⟨q4 s, by rw [List.map_append]; exact List.mem_append_right _ List.mem_cons_self, h⟩
theorem follows_iff {R R' : List Pr} (he : 0 ≤ e) (gd : ∀ u ∈ ss, Good e u) (g : Good e s) (r : FstOk e ss R) (r' : FstOk e (ss ++ [s]) R') : wid R' = wid R ↔ SaidAll e ss s := by
  have gm := good_snoc gd g
  constructor
  · intro hw u v huv
    have sub : ∀ x, x ∈ flat R' → x ∈ flat R := fun x hx => by
      rw [mem_flat, r'.cov] at hx
      rw [mem_flat, r.cov]
      obtain ⟨h0, h1, h2⟩ := hx
      refine ⟨h0, h1, ?_⟩
      obtain ⟨a1, a2, a3, a4, a5⟩ := first_first he gd h0 h1
      have := least_of he gm h0 h1 (snoc_up a5)
      omega
    have ef : flat R' = flat R := (sorted_sub (sorted_flat r'.tdy) (sorted_flat r.tdy) sub).2 (by
      rw [wid_flat r'.tdy.ok, wid_flat r.tdy.ok] at hw
      omega)
    obtain ⟨⟨u0, u1⟩, v0, v1⟩ := says_in g huv
    obtain ⟨a1, a2, a3, a4, a5⟩ := first_first he gd u0 u1
    obtain ⟨b1, b2, b3, b4, b5⟩ := first_first he gd v0 v1
    have own : ∀ x, 0 ≤ x → x < e → fOf (allCuts e ss) x = x → fOf (allCuts e (ss ++ [s])) x = x := fun x h0 h1 h2 => by
      have : x ∈ flat R' := by rw [ef, mem_flat, r.cov]; exact ⟨h0, h1, h2⟩
      rw [mem_flat, r'.cov] at this
      exact this.2.2
    have c1 := own _ a1 a2 a3
    have c2 := own _ b1 b2 b3
    have d1 := (alike_iff he gm u0 u1 a1 a2).mpr (snoc_up a5)
    have d2 := (alike_iff he gm v0 v1 b1 b2).mpr (snoc_up b5)
    have d3 := (alike_iff he gm u0 u1 v0 v1).mpr (snoc_own huv)
    rw [c1] at d1
    rw [c2] at d2
    rw [← d1, ← d2, d3]
  · intro h
    have eq : ∀ u v, Eqv (relQ ((ss ++ [s]).map q4)) u v ↔ Eqv (relQ (ss.map q4)) u v := fun u v => ⟨fun k => k.bind fun x y ⟨q, hq, rr⟩ => by
      rw [List.map_append] at hq
      rcases List.mem_append.mp hq with hq | hq
      · exact .of ⟨q, hq, rr⟩
      · have hq : q = q4 s := by simpa using hq
        subst hq
        obtain ⟨⟨u0, u1⟩, v0, v1⟩ := says_in g rr
        exact (alike_iff he gd u0 u1 v0 v1).mp (h x y rr), snoc_up⟩
    rw [eq_rows he gm gd eq r' r]
end
end Rep
namespace Rep
open PySem L2
/-! breadth -/
def spBreadth (K : PySem.W.Frag) : Sp := fun vs H Q _ => ∃ (a : Addr) (xs : List V) (ps : List Pr), vs = [.ref a] ∧ SqL K H a xs ∧ PL H xs ps ∧ ps.length ≤ 14000000 ∧ ∀ H', Same H H' → Q (.int (wid ps)) H'
theorem scBreadth : FnScope ["rows", "low", "behind"] ["rows"] (defScope sBreadth) := ⟨rfl, rfl, rfl, by decide +kernel, rfl, by decide +kernel, by decide +kernel⟩
section
variable {P : Program} {w : World} {K : PySem.W.Frag} {mg : Str → Option Value} {base : Heap}
theorem ok_breadth {f : Addr} {fd : FuncData} {k : Nat} (F : Fun K "breadth" "breadth" sBreadth f fd) (ms : mg "sum" = none) : FnOk P w K mg base CX0 (k + 1) f fd ["rows"] (spBreadth K) := by
  refine F.ok scBreadth (fun vs H Q E h => ?_) (fun cdv A outer s H vs Q E hr h => ?_)
  · obtain ⟨a, ks, _, rfl, _⟩ := h; rfl
  obtain ⟨a, xs, ps, rfl, hS, pl, lp, q⟩ := h
  refine ⟨_, pss_one (ps_ret (pe_callB (cr_sum rfl) (by rfl) ms PyProof.Rows.boot_sum (pa_cons (pe_lc (own := [("low", 1), ("behind", 2)]) (g := gTup K 2 (gCons (gName 1) (gCons (gName 2) gNil))) (tt := tYes) rfl scBreadth.nd (pi_list (pv 0)) (blkOk_by (N := ["rows", "low", "behind"]) (sc := defScope sBreadth) (by decide +kernel))
      (fun _ _ _ _ _ => pg_tup rfl (pgs_cons (pg_name (i := 1) scBreadth.nd rfl (.inl rfl)) (pgs_cons (pg_name (i := 2) scBreadth.nd rfl (.inl rfl)) pgs_nil))) (fun _ _ _ _ _ => pts_nil) (fun _ _ _ _ _ => pe_op op_sub (pv 2) (pv 1))) pa_nil))), ?_⟩
  refine ⟨.ref a, rfl, a, rfl, ⟨_, hS⟩, fun D nD => ?_⟩
  have s1 : Same H (upd H D (.lst [])) := same_upd nD
  refine lc_list (xs := xs) (fun i H3 => Same H H3 ∧ H3 D = some (.lst (((ps.take i).map fun p => p.2 - p.1).map V.int))) ⟨s1, upd_same⟩ (fun i H3 _ hP => hP.1.seq hS) (fun i v H3 hv hP => ?_) (fun H3 hP => ?_)
  · obtain ⟨sm, eD⟩ := hP
    obtain ⟨t, p, rfl, ht, hp⟩ := pl.get hv
    have hi : i < ps.length := (List.getElem?_eq_some_iff.mp hp).1
    refine ⟨t, [.int p.1, .int p.2], rfl, .inl (.inl (sm _ _ ht)), rfl, _, _, rfl, _, _, rfl, rfl, rfl, ?_⟩
    refine tYes_ok ?_
    refine iteT ?_
    refine ⟨.int p.2, rfl, .int p.1, rfl, _, _, rfl, rfl, _, eD, ?_, same_over sm nD, ?_⟩
    · rw [List.length_map, List.length_map, List.length_take]
      exact Nat.lt_of_le_of_lt (show _ ≤ 14000000 by omega) (by decide)
    · rw [upd_same, List.take_add_one, hp, List.map_append, List.map_append]
      rfl
  · obtain ⟨sm, eD⟩ := hP
    rw [pl.len, List.take_length] at eD
    exact ⟨D, _, rfl, .inl (.inl eD), q H3 sm⟩
end
end Rep
namespace Rep
open PySem L2
def spMLen (C : Addr) : Sp := fun vs H Q _ => ∃ (p : Addr) (B : Addr → Prop) (e : Int) (ss : List Sy), vs = [.ref p] ∧ ClsAt C B H p e ss ∧ Q (.int e) H
theorem scMLen : FnScope ["self"] ["self"] (defScope sMLength) := ⟨rfl, rfl, rfl, by decide +kernel, rfl, by decide +kernel, by decide +kernel⟩
theorem ok_mlen {Pg : Program} {w : World} {K : PySem.W.Frag} {mg : Str → Option Value} {base : Heap} {f P C : Addr} {fd : FuncData} {k : Nat} (F : Fun K "length" "Classes.length" sMLength f fd) (T : TxC Pg w K mg base P C) : FnOk Pg w K mg base CX0 (k + 1) f fd ["self"] (spMLen C) := by
  refine F.ok scMLen (fun vs H Q E h => ?_) (fun cdv A outer s H vs Q E hr h => ?_)
  · obtain ⟨p, B, e, ss, rfl, _⟩ := h; rfl
  obtain ⟨p, B, e, ss, rfl, ca, q⟩ := h
  obtain ⟨dx, cA, rA, cv, rv, R, h0, h1, _⟩ := ca.ex
  exact ⟨_, pss_one (ps_ret (pe_fld (pv 0) rfl)), .ref p, rfl, p, C, dx, _, .int e, rfl, h1, T.cl, T.nS, fldsC_size _ _ _, q⟩
end Rep
namespace Rep
open PySem L2
def spMCnt (C : Addr) : Sp := fun vs H Q _ => ∃ (p : Addr) (B : Addr → Prop) (e : Int) (ss : List Sy), vs = [.ref p] ∧ ClsAt C B H p e ss ∧ ∀ H' R, Same H H' → FstOk e ss R → Q (.int (wid R)) H'
theorem scMCnt : FnScope ["self"] ["self"] (defScope sMCount) := ⟨rfl, rfl, rfl, by decide +kernel, rfl, by decide +kernel, by decide +kernel⟩
theorem ok_mcnt {Pg : Program} {w : World} {K : PySem.W.Frag} {mg : Str → Option Value} {base : Heap} {f P C fB : Addr} {fd fdB : FuncData} {k : Nat} (F : Fun K "count" "Classes.count" sMCount f fd) (T : TxC Pg w K mg base P C)
    (GB : FnOk Pg w K mg base CX0 k fB fdB ["rows"] (spBreadth K)) (kB : PySem.W.keepIn K (.ref fB) = true) (bB : Binds K fdB ["rows"] []) (mB : mg "breadth" = some (.ref fB)) : FnOk Pg w K mg base CX0 (k + 1) f fd ["self"] (spMCnt C) := by
  refine F.ok scMCnt (fun vs H Q E h => ?_) (fun cdv A outer s H vs Q E hr h => ?_)
  · obtain ⟨p, B, e, ss, rfl, _⟩ := h; rfl
  obtain ⟨p, B, e, ss, rfl, ca, q⟩ := h
  obtain ⟨dx, cA, rA, cv, rv, R, h0, h1, h2, h3, h4, h5, h6, h7, h8⟩ := ca.ex
  refine ⟨_, pss_one (ps_ret (pe_call GB hr (by rfl) mB kB bB .nil pass0 (pa_cons (pe_fld (pv 0) rfl) pa_nil))), ?_⟩
  exact ⟨.ref p, rfl, p, C, dx, _, .ref rA, rfl, h1, T.cl, T.nR, fldsC_rows _ _ _, rA, rv, R, rfl, .inl (.inl h4), h5, by omega, fun H' sm => q H' R sm ⟨h6, h7, h8⟩⟩
end Rep
namespace Rep
open PySem L2
def spMSame (C : Addr) : Sp := fun vs H Q _ => ∃ (p : Addr) (B : Addr → Prop) (e x y : Int) (ss : List Sy), vs = [.ref p, .int x, .int y] ∧ ClsAt C B H p e ss ∧ (∀ s ∈ ss, Good e s) ∧ 0 ≤ x ∧ x < e ∧ 0 ≤ y ∧ y < e ∧ e < 10 ^ 40 ∧ Q (.bl (decide (fOf (allCuts e ss) x = fOf (allCuts e ss) y))) H
theorem scMSame : FnScope ["self", "one", "other"] ["self", "one", "other"] (defScope sMSame) := ⟨rfl, rfl, rfl, by decide +kernel, rfl, by decide +kernel, by decide +kernel⟩
theorem ok_msame {Pg : Program} {w : World} {K : PySem.W.Frag} {mg : Str → Option Value} {base : Heap} {f P C f1 : Addr} {fd fd1 : FuncData} {k : Nat} (F : Fun K "same" "Classes.same" sMSame f fd) (T : TxC Pg w K mg base P C)
    (m1 : Meth K C "first" f1) (G1 : FnOk Pg w K mg base CX0 k f1 fd1 ["self", "place"] (spMFirst C)) (b1 : Binds K fd1 ["self", "place"] []) : FnOk Pg w K mg base CX0 (k + 1) f fd ["self", "one", "other"] (spMSame C) := by
  refine F.ok scMSame (fun vs H Q E h => ?_) (fun cdv A outer s H vs Q E hr h => ?_)
  · obtain ⟨p, B, e, x, y, ss, rfl, _⟩ := h; rfl
  obtain ⟨p, B, e, x, y, ss, rfl, ca, gd, hx0, hx1, hy0, hy1, he, q⟩ := h
  obtain ⟨dx, cA, rA, cv, rv, R, h0, h1, _⟩ := ca.ex
  refine ⟨_, pss_one (ps_ret (pe_cmpR op_eq (pe_meth (pv 0) T.cl m1 G1 hr b1 .nil pass0 (pa_cons (pv 1) pa_nil)) (pe_meth (pv 0) T.cl m1 G1 hr b1 .nil pass0 (pa_cons (pv 2) pa_nil)) (nomark _))), ?_⟩
  have nf := fldsC_no e cA rA (m := "first") (by decide +kernel) (by decide +kernel) (by decide +kernel)
  refine ⟨.ref p, rfl, p, dx, _, rfl, h1, nf, .int x, rfl, p, B, e, x, ss, rfl, ca, gd, hx0, hx1, he, ?_⟩
  refine ⟨.ref p, rfl, p, dx, _, rfl, h1, nf, .int y, rfl, p, B, e, y, ss, rfl, ca, gd, hy0, hy1, he, rfl, ?_⟩
  rw [show decide (V.int (fOf (allCuts e ss) x) = V.int (fOf (allCuts e ss) y)) = decide (fOf (allCuts e ss) x = fOf (allCuts e ss) y) from by
    rw [decide_eq_decide]; exact ⟨fun h => V.int.inj h, fun h => by rw [h]⟩]
  exact q
end Rep
namespace Rep
open PySem L2
/-! stretches alike, beats, mirrors -/
def spFol (K : PySem.W.Frag) (P C : Addr) : Sp := fun vs H Q _ => ∃ (p a : Addr) (B : Addr → Prop) (e : Int) (ss : List Sy) (xs : List V) (v : V) (s : Sy), vs = [.ref p, .ref a, v] ∧ ClsAt C B H p e ss ∧ H a = some (.lst xs) ∧ SL H xs ss ∧ IsSy H v s ∧ (∀ u ∈ ss, Good e u) ∧ Good e s ∧ TbO P H ∧ 0 ≤ e ∧ e < 10 ^ 40 ∧ ss.length ≤ 1000 ∧ (allCuts e (ss ++ [s])).length ≤ 14000000 ∧
  ∀ H' (b : Bool), EX H H' → TbO P H' → (b = true ↔ SaidAll e ss s) → Q (.bl b) H'
abbrev nFol : List Str := ["classes", "sayings", "saying"]
theorem scFol : FnScope nFol ["classes", "sayings", "saying"] (defScope sFollows) := ⟨rfl, rfl, rfl, by decide +kernel, rfl, by decide +kernel, by decide +kernel⟩
structure TFol (Pg : Program) (w : World) (K : PySem.W.Frag) (mg : Str → Option Value) (base : Heap) (P C : Addr) (k : Nat) (fC f1 f2 : Addr) (fdC fd1 fd2 : FuncData) : Prop where
  cl : Cls K C
  MC : Mk K C fC
  gC : FnOk Pg w K mg base CX0 k fC fdC ["self", "length", "sayings"] (spInit K P C)
  bC : Binds K fdC ["self", "length", "sayings"] []
  mC : mg "Classes" = some (.ref C)
  m1 : Meth K C "length" f1
  g1 : FnOk Pg w K mg base CX0 k f1 fd1 ["self"] (spMLen C)
  b1 : Binds K fd1 ["self"] []
  m2 : Meth K C "count" f2
  g2 : FnOk Pg w K mg base CX0 k f2 fd2 ["self"] (spMCnt C)
  b2 : Binds K fd2 ["self"] []
section
variable {Pg : Program} {w : World} {K : PySem.W.Frag} {mg : Str → Option Value} {base : Heap}
theorem ok_fol {f P C fC f1 f2 : Addr} {fd fdC fd1 fd2 : FuncData} {k : Nat} (F : Fun K "follows" "follows" sFollows f fd) (T : TFol Pg w K mg base P C k fC f1 f2 fdC fd1 fd2) : FnOk Pg w K mg base CX0 (k + 2) f fd ["classes", "sayings", "saying"] (spFol K P C) := by
  refine F.ok scFol (fun vs H Q E h => ?_) (fun cdv A outer s H vs Q E hr h => ?_)
  · obtain ⟨p, a, B, e, ss, xs, v, s, rfl, _⟩ := h; rfl
  obtain ⟨p, a, B, e, ss, xs, v, s, rfl, ca, ea, sl, iv, gd, gs, tb, h0, h1, hl, hc, q⟩ := h
  have r1 : Room k _ := hr.mono (by omega)
  refine ⟨_, (pss_one (ps_ret (pe_cmpR op_eq (pe_meth0 (pe_make T.MC T.gC hr (by rfl) T.mC T.bC .nil pass0 (pa_cons (pe_meth0 (pv 0) T.cl T.m1 T.g1 r1 T.b1 .nil pass0) (pa_cons (pe_op op_cat (pv 1) (pe_lst (pa_cons (pv 2) pa_nil))) pa_nil))) T.cl T.m2 T.g2 r1 T.b2 .nil pass0) (pe_meth0 (pv 0) T.cl T.m2 T.g2 r1 T.b2 .nil pass0) (nomark _)))), ?_⟩
  obtain ⟨dx, cA, rA, cv, rv, R0, _, g1, _⟩ := id ca.ex
  refine ⟨.ref p, rfl, p, dx, _, rfl, g1, fldsC_no _ _ _ (by decide +kernel) (by decide +kernel) (by decide +kernel), p, B, e, ss, rfl, ca, ?_⟩
  refine ⟨.ref a, rfl, v, rfl, (by show 1 ≤ sizeLine; decide), fun l1 n1 => ?_⟩
  have s1 := same_upd (o := .lst [v]) n1
  refine ⟨a, l1, _, _, rfl, rfl, s1 _ _ ea, upd_same, ?_, fun l2 n2 => ?_⟩
  · rw [sl.len]
    exact Nat.le_trans (show _ ≤ 1001 by show ss.length + 1 ≤ _; omega) (by decide)
  have s2 := same_upd (o := .lst (xs ++ [v])) n2
  have s12 := s1.trans s2
  have sl2 : SL (upd (upd H l1 (.lst [v])) l2 (.lst (xs ++ [v]))) (xs ++ [v]) (ss ++ [s]) := (SL.ts (TS.of s12) sl).snoc (a := s) (iv.ts (TS.of s12))
  intro p2 dx2 np ndx ne
  refine make_cls upd_same sl2 (tb.ext s12) (good_snoc gd gs) h0 h1 (by rw [List.length_append]; show ss.length + 1 ≤ _; omega) hc np ndx ne (fun H3 x3 t3 nw3 ca3 => ?_)
  obtain ⟨dx3, cA3, rA3, cv3, rv3, R3, _, g3, _⟩ := id ca3.ex
  refine ⟨p2, dx3, _, rfl, g3, fldsC_no _ _ _ (by decide +kernel) (by decide +kernel) (by decide +kernel), p2, _, e, ss ++ [s], rfl, ca3, fun H4 R' s4 r' => ?_⟩
  have x4 := (EX.of s12).trans (x3.trans (EX.of s4))
  have ca4 := ca.ext x4
  obtain ⟨dx4, cA4, rA4, cv4, rv4, R4, _, g4, _⟩ := id ca4.ex
  refine ⟨.ref p, rfl, p, dx4, _, rfl, g4, fldsC_no _ _ _ (by decide +kernel) (by decide +kernel) (by decide +kernel), p, B, e, ss, rfl, ca4, fun H5 R s5 r => ⟨rfl, ?_⟩⟩
  refine q H5 _ (x4.trans (EX.of s5)) ((t3.ext s4).ext s5) ?_
  rw [← follows_iff h0 gd gs r r', decide_eq_true_iff]
  exact ⟨fun z => V.int.inj z, fun z => by rw [z]⟩
end
end Rep
namespace Rep
open PySem L2
structure TAlk (Pg : Program) (w : World) (K : PySem.W.Frag) (mg : Str → Option Value) (base : Heap) (P C : Addr) (k : Nat) (fC fS fF : Addr) (fdC fdS fdF : FuncData) : Prop where
  MC : Mk K C fC
  gC : FnOk Pg w K mg base CX0 k fC fdC ["self", "length", "sayings"] (spInit K P C)
  bC : Binds K fdC ["self", "length", "sayings"] []
  mC : mg "Classes" = some (.ref C)
  gS : FnOk Pg w K mg base CX0 k fS fdS ["length", "at", "many"] spChks
  bS : Binds K fdS ["length", "at", "many"] []
  kS : PySem.W.keepIn K (.ref fS) = true
  mS : mg "check_stretch" = some (.ref fS)
  gF : FnOk Pg w K mg base CX0 (k + 2) fF fdF ["classes", "sayings", "saying"] (spFol K P C)
  bF : Binds K fdF ["classes", "sayings", "saying"] []
  kF : PySem.W.keepIn K (.ref fF) = true
  mF : mg "follows" = some (.ref fF)
  mabs : mg "abs" = none
/-- a song of sayings, handed on -/
structure Song (P : Addr) (H : Hp) (a : Addr) (e : Int) (ss : List Sy) : Prop where
  at_ : ∃ xs, H a = some (.lst xs) ∧ SL H xs ss
  gd : ∀ u ∈ ss, Good e u
  tb : TbO P H
  h0 : 0 ≤ e
  h1 : e < 10 ^ 40
  ln : ss.length ≤ 1000
  ct : (allCuts e ss).length ≤ 14000000
  cm : ∀ s, Good e s → (allCuts e (ss ++ [s])).length ≤ 14000000
end Rep
namespace Rep
open PySem L2
def spAlk (K : PySem.W.Frag) (P : Addr) : Sp := fun vs H Q _ => ∃ (a : Addr) (e : Int) (ss : List Sy) (s : Sy), vs = [.int e, .ref a, .int s.lo, .int s.hi, .int s.n, .bl s.t] ∧ Song P H a e ss ∧ Good e s ∧
  ∀ H' (b : Bool), EX H H' → TbO P H' → (b = true ↔ SaidAll e ss s) → Q (.bl b) H'
abbrev nAlk : List Str := ["length", "sayings", "one", "other", "many", "turned", "classes"]
theorem scAlk : FnScope nAlk ["length", "sayings", "one", "other", "many", "turned"] (defScope sAlike) := ⟨rfl, rfl, rfl, by decide +kernel, rfl, by decide +kernel, by decide +kernel⟩
section
variable {Pg : Program} {w : World} {K : PySem.W.Frag} {mg : Str → Option Value} {base : Heap}
theorem ok_alk {f P C fC fS fF : Addr} {fd fdC fdS fdF : FuncData} {k : Nat} (F : Fun K "alike" "alike" sAlike f fd) (T : TAlk Pg w K mg base P C k fC fS fF fdC fdS fdF) : FnOk Pg w K mg base CX0 (k + 3) f fd ["length", "sayings", "one", "other", "many", "turned"] (spAlk K P) := by
  refine F.ok scAlk (fun vs H Q E h => ?_) (fun cdv A outer s H vs Q E hr h => ?_)
  · obtain ⟨a, e, ss, s, rfl, _⟩ := h; rfl
  obtain ⟨a, e, ss, s, rfl, sg, gs, q⟩ := h
  obtain ⟨xs, ea, sl⟩ := sg.at_
  have r1 : Room k _ := hr.mono (by omega)
  have r2 : Room (k + 1) _ := hr.mono (by omega)
  refine ⟨_, (C8.pss_cut (ps_set (i := 6) scAlk.nd rfl (.inl rfl) (pe_make T.MC T.gC r2 (by rfl) T.mC T.bC .nil pass0 (pa_cons (pv 0) (pa_cons (pv 1) pa_nil))))
    (pss_cons (ps_expr (pe_call T.gS r1 (by rfl) T.mS T.kS T.bS .nil pass0 (pa_cons (pv 0) (pa_cons (pv 2) (pa_cons (pv 4) pa_nil)))))
    (pss_cons (ps_expr (pe_call T.gS r1 (by rfl) T.mS T.kS T.bS .nil pass0 (pa_cons (pv 0) (pa_cons (pv 3) (pa_cons (pv 4) pa_nil)))))
    (pss_one (ps_ret (pe_call T.gF hr (by rfl) T.mF T.kF T.bF .nil pass0 (pa_cons (pv 6) (pa_cons (pv 1) (pa_cons (pe_tup (pa_cons (pv 2) (pa_cons (pv 3) (pa_cons (pv 4) (pa_cons (pv 5) pa_nil))))) pa_nil))))))))), ?_⟩
  refine ⟨fun σ' H' => ∃ (p : Addr) (B : Addr → Prop), σ' = [some (.int e), some (.ref a), some (.int s.lo), some (.int s.hi), some (.int s.n), some (.bl s.t), some (.ref p)] ∧ EX H H' ∧ TbO P H' ∧ ClsAt C B H' p e ss, ?_, ?_⟩
  · refine ⟨.int e, rfl, .ref a, rfl, fun p dx np ndx ne => ?_⟩
    refine make_cls ea sl sg.tb sg.gd sg.h0 sg.h1 (by have := sg.ln; omega) sg.ct np ndx ne (fun H' x t nw ca => ?_)
    exact ⟨p, _, rfl, x, t, ca⟩
  rintro σ' H1 ⟨p, B, rfl, x1, t1, ca⟩
  obtain ⟨b1, b2, b3, b4, b5⟩ := id gs
  refine ⟨.int e, rfl, .int s.lo, rfl, .int s.n, rfl, e, s.lo, s.n, rfl, by omega, by omega, by omega, ?_⟩
  refine ⟨.int e, rfl, .int s.hi, rfl, .int s.n, rfl, e, s.hi, s.n, rfl, by omega, by omega, by omega, ?_⟩
  refine ⟨.ref p, rfl, .ref a, rfl, .int s.lo, rfl, .int s.hi, rfl, .int s.n, rfl, .bl s.t, rfl, (by show 4 ≤ sizeLine; decide), fun t nt => ?_⟩
  have s2 := same_upd (o := .tup [.int s.lo, .int s.hi, .int s.n, .bl s.t]) nt
  have x2 := x1.trans (EX.of s2)
  refine ⟨p, a, B, e, ss, xs, .ref t, s, rfl, ca.ext (EX.of s2), EX.lst x2 ea, SL.ts (EX.ts x2) sl, IsSy.of upd_same, sg.gd, gs, t1.ext s2, sg.h0, sg.h1, sg.ln, sg.cm s gs, fun H3 b x3 t3 hb => ?_⟩
  exact q H3 b (x2.trans x3) t3 hb
end
end Rep
namespace Rep
open PySem L2
def spBt (K : PySem.W.Frag) (P : Addr) : Sp := fun vs H Q _ => ∃ (a : Addr) (e : Int) (ss : List Sy) (x m t : Int), vs = [.int e, .ref a, .int x, .int m, .int t] ∧ Song P H a e ss ∧ 0 ≤ x ∧ 1 ≤ m ∧ x + m ≤ e ∧ 1 ≤ t ∧
  ∀ H' (b : Bool), EX H H' → TbO P H' → (b = true ↔ ∀ z, x ≤ z → z + t < x + m → fOf (allCuts e ss) z = fOf (allCuts e ss) (z + t)) → Q (.bl b) H'
abbrev nBt : List Str := ["length", "sayings", "at", "many", "step", "classes", "apart"]
theorem scBt : FnScope nBt ["length", "sayings", "at", "many", "step"] (defScope sBeat) := ⟨rfl, rfl, rfl, by decide +kernel, rfl, by decide +kernel, by decide +kernel⟩
section
variable {Pg : Program} {w : World} {K : PySem.W.Frag} {mg : Str → Option Value} {base : Heap}
theorem ok_bt {f P C fC fS fF : Addr} {fd fdC fdS fdF : FuncData} {k : Nat} (F : Fun K "beat" "beat" sBeat f fd) (T : TAlk Pg w K mg base P C k fC fS fF fdC fdS fdF) : FnOk Pg w K mg base CX0 (k + 3) f fd ["length", "sayings", "at", "many", "step"] (spBt K P) := by
  refine F.ok scBt (fun vs H Q E h => ?_) (fun cdv A outer s H vs Q E hr h => ?_)
  · obtain ⟨a, e, ss, x, m, t, rfl, _⟩ := h; rfl
  obtain ⟨a, e, ss, x, m, t, rfl, sg, hx, hm, hxm, ht, q⟩ := h
  obtain ⟨xs, ea, sl⟩ := sg.at_
  have r1 : Room k _ := hr.mono (by omega)
  have r2 : Room (k + 1) _ := hr.mono (by omega)
  refine ⟨_, (C8.pss_cut (ps_set (i := 5) scBt.nd rfl (.inl rfl) (pe_make T.MC T.gC r2 (by rfl) T.mC T.bC .nil pass0 (pa_cons (pv 0) (pa_cons (pv 1) pa_nil))))
    (pss_cons (ps_expr (pe_call T.gS r1 (by rfl) T.mS T.kS T.bS .nil pass0 (pa_cons (pv 0) (pa_cons (pv 2) (pa_cons (pv 3) pa_nil)))))
    (pss_cons (ps_set (i := 6) scBt.nd rfl (.inl rfl) (pe_callB call_abs (by rfl) T.mabs (by decide +kernel) (pa_cons (pv 4) pa_nil)))
    (pss_cons (ps_if (pt_cmpR op_ge (pv 6) (pv 3) (nomark _)) (pss_one (ps_ret pe_bl)) pss_nil)
    (pss_one (ps_ret (pe_call T.gF hr (by rfl) T.mF T.kF T.bF .nil pass0 (pa_cons (pv 5) (pa_cons (pv 1) (pa_cons (pe_tup (pa_cons (pv 2) (pa_cons (pe_op op_add (pv 2) (pv 6)) (pa_cons (pe_op op_sub (pv 3) (pv 6)) (pa_cons pe_bl pa_nil))))) pa_nil)))))))))), ?_⟩
  refine ⟨fun σ' H' => ∃ (p : Addr) (B : Addr → Prop), σ' = [some (.int e), some (.ref a), some (.int x), some (.int m), some (.int t), some (.ref p), none] ∧ EX H H' ∧ TbO P H' ∧ ClsAt C B H' p e ss, ?_, ?_⟩
  · refine ⟨.int e, rfl, .ref a, rfl, fun p dx np ndx ne => ?_⟩
    refine make_cls ea sl sg.tb sg.gd sg.h0 sg.h1 (by have := sg.ln; omega) sg.ct np ndx ne (fun H' x t nw ca => ?_)
    exact ⟨p, _, rfl, x, t, ca⟩
  rintro σ' H1 ⟨p, B, rfl, x1, t1, ca⟩
  refine ⟨.int e, rfl, .int x, rfl, .int m, rfl, e, x, m, rfl, by omega, by omega, by omega, ?_⟩
  refine ⟨.int t, rfl, t, rfl, ?_⟩
  show gName 6 (.int (if t < 0 then -t else t)) _ _ _
  rw [if_neg (by omega)]
  refine ⟨.int t, rfl, .int m, rfl, _, _, rfl, rfl, _, rfl, ite2 (fun c => ?_) (fun c => ?_)⟩
  · have c : t ≥ m := of_decide_eq_true c
    exact q H1 true x1 t1 ⟨fun _ z h1 h2 => by omega, fun _ => rfl⟩
  have c : ¬ t ≥ m := fun z => c (decide_eq_true z)
  refine ⟨.ref p, rfl, .ref a, rfl, .int x, rfl, .int x, rfl, .int t, rfl, _, _, rfl, rfl, .int m, rfl, .int t, rfl, _, _, rfl, rfl, (by show 4 ≤ sizeLine; decide), fun tp nt => ?_⟩
  have s2 := same_upd (o := .tup [.int x, .int (x + t), .int (m - t), .bl false]) nt
  have x2 := x1.trans (EX.of s2)
  have gs : Good e ⟨x, x + t, m - t, false⟩ := ⟨hx, by show 0 ≤ x + t; omega, by show 1 ≤ m - t; omega, by show x + (m - t) ≤ e; omega, by show x + t + (m - t) ≤ e; omega⟩
  refine ⟨p, a, B, e, ss, xs, .ref tp, ⟨x, x + t, m - t, false⟩, rfl, ca.ext (EX.of s2), EX.lst x2 ea, SL.ts (EX.ts x2) sl, IsSy.of upd_same, sg.gd, gs, t1.ext s2, sg.h0, sg.h1, sg.ln, sg.cm _ gs, fun H3 b x3 t3 hb => ?_⟩
  refine q H3 b (x2.trans x3) t3 (hb.trans ⟨fun h z h1 h2 => h z (z + t) ?_, fun h u v huv => ?_⟩)
  · show says x (x + t) (m - t) false z (z + t)
    rw [says_f]; omega
  · have huv : says x (x + t) (m - t) false u v := huv
    rw [says_f] at huv
    obtain rfl : v = u + t := by omega
    exact h u (by omega) (by omega)
end
end Rep
namespace Rep
open PySem L2
def cpart (s : Sy) (i : Int) : Int := if s.t = true then s.hi + s.n - 1 - i else s.hi + i
theorem said_same {e i : Int} {ss : List Sy} {s : Sy} (he : 0 ≤ e) (gd : ∀ s ∈ ss, Good e s) (hs : s ∈ ss) (h0 : 0 ≤ i) (h1 : i < s.n) :
    (0 ≤ s.lo + i ∧ s.lo + i < e) ∧ (0 ≤ cpart s i ∧ cpart s i < e) ∧ fOf (allCuts e ss) (cpart s i) = fOf (allCuts e ss) (s.lo + i) ∧ 0 ≤ fOf (allCuts e ss) (s.lo + i) ∧ fOf (allCuts e ss) (s.lo + i) ≤ s.lo + i ∧ fOf (allCuts e ss) (s.lo + i) ≤ cpart s i := by
  obtain ⟨g1, g2, g3, g4, g5⟩ := gd s hs
  have st := all_stg he gd
  have r1 : 0 ≤ s.lo + i ∧ s.lo + i < e := by omega
  have r2 : 0 ≤ cpart s i ∧ cpart s i < e := by unfold cpart; split <;> omega
  have sy : saysQ (q4 s) (s.lo + i) (cpart s i) := by
    unfold saysQ q4 says mate cpart
    refine ⟨by show s.lo ≤ _; omega, by show _ < s.lo + s.n; omega, ?_⟩
    show (if s.t = true then s.hi + s.n - 1 - i else s.hi + i) = if s.t = true then s.lo + s.hi + s.n - 1 - (s.lo + i) else s.lo + i - s.lo + s.hi
    split <;> omega
  have ev : Eqv (relL (startF ss)) (s.lo + i) (cpart s i) := (start_ok gd).2.1.iff.mpr (.of ⟨q4 s, List.mem_map.mpr ⟨s, hs, rfl⟩, sy⟩)
  obtain ⟨f1, f2⟩ := fOf_ok st
  have eq : fOf (allCuts e ss) (cpart s i) = fOf (allCuts e ss) (s.lo + i) := by
    rcases f2 _ _ ev with z | ⟨_, _, _, _, z⟩
    · rw [z]
    · exact z.symm
  obtain ⟨a1, a2, _⟩ := f1 _ r1.1 r1.2
  obtain ⟨b1, b2, _⟩ := f1 _ r2.1 r2.2
  exact ⟨r1, r2, eq, a1, a2, by rw [← eq]; exact b2⟩
end Rep
namespace Rep
open PySem L2
theorem szN (n : Nat) {m : Nat} (h : m = n) (h2 : Nat.ble n sizeLine = true := by decide) : m ≤ sizeLine := by rw [h]; exact Nat.le_of_ble_eq_true h2
theorem new_same {H H' : Hp} {p : Addr} {o : HO} (e : upd H p o = H') (n : H p = none) : Same H H' := by rw [← e]; exact same_upd n
theorem new_at {H H' : Hp} {p : Addr} {o : HO} (e : upd H p o = H') : H' p = some o := by rw [← e]; exact upd_same
end Rep
namespace Rep
open PySem L2
/-- a part of a saying -/
def partS (s : Sy) (l m : Int) : Sy := ⟨s.lo + l, if s.t = true then cpart s l - m + 1 else cpart s l, m, s.t⟩
theorem pts_in {s : Sy} {l m u v : Int} (hl : 0 ≤ l) (hm : l + m ≤ s.n) (h : saysQ (q4 (partS s l m)) u v) : saysQ (q4 s) u v := by
  have h : says (s.lo + l) (if s.t = true then cpart s l - m + 1 else cpart s l) m s.t u v := h
  show says s.lo s.hi s.n s.t u v
  unfold cpart at h
  cases c : s.t with
  | true =>
    rw [c, if_pos rfl, if_pos rfl, says_t] at h
    rw [says_t]; omega
  | false =>
    rw [c, if_neg (by decide), if_neg (by decide), says_f] at h
    rw [says_f]; omega
theorem part_good {e : Int} {s : Sy} {l m : Int} (g : Good e s) (hl : 0 ≤ l) (h1 : 1 ≤ m) (hm : l + m ≤ s.n) : Good e (partS s l m) := by
  obtain ⟨g1, g2, g3, g4, g5⟩ := g
  have e2 : (partS s l m).hi = if s.t = true then s.hi + s.n - l - m else s.hi + l := by
    show (if s.t = true then cpart s l - m + 1 else cpart s l) = _
    unfold cpart
    by_cases c : s.t = true
    · rw [if_pos c, if_pos c, if_pos c]; omega
    · rw [if_neg c, if_neg c, if_neg c]
  refine ⟨by show 0 ≤ s.lo + l; omega, ?_, h1, by show s.lo + l + m ≤ e; omega, ?_⟩
  · rw [e2]; split <;> omega
  · rw [e2]; show _ + m ≤ e; split <;> omega
theorem part_eqv {ss : List Sy} {s : Sy} {l m u v : Int} (hs : s ∈ ss) (hl : 0 ≤ l) (hm : l + m ≤ s.n) : Eqv (relQ ((partS s l m :: ss).map q4)) u v ↔ Eqv (relQ (ss.map q4)) u v := by
  constructor
  · intro h
    refine h.mono fun x y ⟨q, hq, r⟩ => ?_
    rw [List.map_cons] at hq
    rcases List.mem_cons.mp hq with rfl | hq
    · exact ⟨q4 s, List.mem_map.mpr ⟨s, hs, rfl⟩, pts_in hl hm r⟩
    · exact ⟨q, hq, r⟩
  · intro h
    exact h.mono fun x y ⟨q, hq, r⟩ => ⟨q, by rw [List.map_cons]; exact List.mem_cons_of_mem _ hq, r⟩
end Rep
namespace Rep
open PySem L2
/-- sizes of digits -/
def Dg (z : Int) : Prop := 0 < z ∧ z.natAbs.log2 < 9000
theorem dg0 : ∀ y ∈ ([] : List Int), 0 < y ∧ y.natAbs.log2 < 9000 := fun y h => by cases h
theorem dgc {z : Int} {zs : List Int} (h : Dg z) (t : ∀ y ∈ zs, 0 < y ∧ y.natAbs.log2 < 9000) : ∀ y ∈ z :: zs, 0 < y ∧ y.natAbs.log2 < 9000 := fun y hy => by
  rcases List.mem_cons.mp hy with rfl | hy
  · exact h
  · exact t y hy
theorem dgT : Dg ((10 : Int) ^ (40 : Int).toNat) := ⟨by decide +kernel, by decide +kernel⟩
theorem dgS {z : Int} (h0 : 0 < z) (h1 : z ≤ 1000000) : Dg z := by
  refine ⟨h0, ?_⟩
  have h2 : z.natAbs < 2 ^ 20 := by omega
  have := (Nat.log2_lt (show z.natAbs ≠ 0 by omega)).mpr h2
  omega
theorem pT : 0 < (10 : Int) ^ (40 : Int).toNat := by decide +kernel
end Rep
namespace Rep
open PySem L2 L2H RepHot
/-! defs that refuse -/
structure ExT (K : PySem.W.Frag) (mg : Str → Option Value) (x : Str) (C : Addr) : Prop where
  g : mg x = some (.ref C)
  x : PySem.W.excIn K C [.type "ValueError", .type "Exception", .type "BaseException", .type "object"] "ValueError.__new__" = true
  k : PySem.W.keepIn K (.ref C) = true
  b : PySem.W.subIn K (.ref C) (.type "BaseException") = some true
  t : PySem.W.typeIn K (.ref C) = some (.type "type")
def spChkpX (NP : Addr) : Sp := fun vs H Q E => ∃ e x : Int, vs = [.int e, .int x] ∧ (0 ≤ x ∧ x < e → Q .non H) ∧ (¬ (0 ≤ x ∧ x < e) → E (.ref NP) none H)
section
variable {P : Program} {w : World} {K : PySem.W.Frag} {mg : Str → Option Value} {base : Heap}
theorem ok_chkpX {f NP : Addr} {fd : FuncData} {k : Nat} (F : Fun K "check_place" "check_place" sCheck_place f fd) (X : ExT K mg "NoPlace" NP) : FnOk P w K mg base (L2N.CX P w) (k + 1) f fd ["length", "place"] (spChkpX NP) := by
  refine okN F scChkp (fun vs H Q E h => ?_) (fun cdv A outer s H vs Q E hr h => ?_)
  · obtain ⟨e, x, rfl, _⟩ := h; rfl
  obtain ⟨e, x, rfl, q, qe⟩ := h
  refine ⟨_, (pss_one (ps_if (PW.pt (pw_or (pt_cmpR op_lt (pv 1) pe_int (nomark _)) (pw_or1 (pt_cmpR op_ge (pv 1) (pv 0) (nomark _))))) (pss_one (L2N.ps_raise rfl (L2N.takes_of rfl rfl rfl rfl) (L2N.pmk_own PySem.F.excBase_ValueError X.x X.g X.k (raises_own X.b X.t) rfl))) pss_nil)), ?_⟩
  refine ⟨.int x, rfl, _, 0, rfl, rfl, _, rfl, ite2 (fun c => ?_) (fun c => ?_)⟩
  · have c := of_decide_eq_true c
    refine iteT ?_
    exact qe (by omega)
  · have c : ¬ x < 0 := fun z => c (decide_eq_true z)
    refine ⟨.int x, rfl, .int e, rfl, _, _, rfl, rfl, _, rfl, ite2 (fun d => ?_) (fun d => ?_)⟩
    · have d := of_decide_eq_true d
      exact qe (by omega)
    · have d : ¬ x ≥ e := fun z => d (decide_eq_true z)
      exact q (by omega)
end
end Rep
namespace Rep
open PySem L2 L2H RepHot
/-- a stretch of the song -/
def St_ (x n e : Int) : Prop := 1 ≤ n ∧ 0 ≤ x ∧ x + n ≤ e
instance {x n e : Int} : Decidable (St_ x n e) := inferInstanceAs (Decidable (1 ≤ n ∧ 0 ≤ x ∧ x + n ≤ e))
def spChksX (BS : Addr) : Sp := fun vs H Q E => ∃ e x n : Int, vs = [.int e, .int x, .int n] ∧ (St_ x n e → Q .non H) ∧ (¬ St_ x n e → E (.ref BS) none H)
section
variable {Pg : Program} {w : World} {K : PySem.W.Frag} {mg : Str → Option Value} {base : Heap}
theorem ok_chksX {f BS : Addr} {fd : FuncData} {k : Nat} (F : Fun K "check_stretch" "check_stretch" sCheck_stretch f fd) (X : ExT K mg "BadStretch" BS) : FnOk Pg w K mg base (L2N.CX Pg w) (k + 1) f fd ["length", "at", "many"] (spChksX BS) := by
  refine okN F scChks (fun vs H Q E h => ?_) (fun cdv A outer s H vs Q E hr h => ?_)
  · obtain ⟨e, x, n, rfl, _⟩ := h; rfl
  obtain ⟨e, x, n, rfl, q, qe⟩ := h
  refine ⟨_, (pss_one (ps_if (PW.pt (pw_or (pt_cmpR op_lt (pv 2) pe_int (nomark _)) (pw_or (pt_cmpR op_lt (pv 1) pe_int (nomark _)) (pw_or1 (pt_cmpR op_gt (pe_op op_add (pv 1) (pv 2)) (pv 0) (nomark _)))))) (pss_one (L2N.ps_raise rfl (L2N.takes_of rfl rfl rfl rfl) (L2N.pmk_own PySem.F.excBase_ValueError X.x X.g X.k (raises_own X.b X.t) rfl))) pss_nil)), ?_⟩
  refine ⟨.int n, rfl, _, 1, rfl, rfl, _, rfl, ite2 (fun c => ?_) (fun c => ?_)⟩
  · have c := of_decide_eq_true c
    refine iteT ?_
    exact qe fun z => by have := z.1; omega
  · have c : ¬ n < 1 := fun z => c (decide_eq_true z)
    refine ⟨.int x, rfl, _, 0, rfl, rfl, _, rfl, ite2 (fun d => ?_) (fun d => ?_)⟩
    · have d := of_decide_eq_true d
      refine iteT ?_
      exact qe fun z => by have := z.2.1; omega
    · have d : ¬ x < 0 := fun z => d (decide_eq_true z)
      refine ⟨.int x, rfl, .int n, rfl, _, _, rfl, rfl, .int e, rfl, _, _, rfl, rfl, _, rfl, ite2 (fun g => ?_) (fun g => ?_)⟩
      · have g := of_decide_eq_true g
        exact qe fun z => by have := z.2.2; omega
      · have g : ¬ x + n > e := fun z => g (decide_eq_true z)
        exact q ⟨by omega, by omega, by omega⟩
end
end Rep
namespace Rep
open PySem L2
theorem Song.same {P : Addr} {H H' : Hp} {a : Addr} {e : Int} {ss : List Sy} (h : Song P H a e ss) (s : Same H H') : Song P H' a e ss := by
  obtain ⟨xs, h1, h2⟩ := h.at_
  exact ⟨⟨xs, s _ _ h1, SL.ts (TS.of s) h2⟩, h.gd, h.tb.ext s, h.h0, h.h1, h.ln, h.ct, h.cm⟩
theorem Song.ext {P : Addr} {H H' : Hp} {a : Addr} {e : Int} {ss : List Sy} (h : Song P H a e ss) (x : EX H H') (t : TbO P H') : Song P H' a e ss := by
  obtain ⟨xs, h1, h2⟩ := h.at_
  exact ⟨⟨xs, EX.lst x h1, SL.ts (EX.ts x) h2⟩, h.gd, t, h.h0, h.h1, h.ln, h.ct, h.cm⟩
end Rep
namespace Rep
open PySem L2
/-- a list's own method in a suite: its reading does not speak of the suite -/
theorem pe_bmK {X : Cx} {K : PySem.W.Frag} {o e : Expr} {es : List Expr} {to : TE} {t : TA} {name : Str} {apos cpos : Pos} {T id : String} {r : V → List V → Hp → VK → Prop} (hK : X.K = K) (pa : PlainAttrs T) (slot : Slot T name id) (hty : typeOf (.builtin id) = pure (.type "method_descriptor")) (hm : MtR X id r) (ho : PE X o to) (ha : PA X (e :: es) t)
    (hbase : attributeBase o name X.env (eval o X.env) = eval o X.env := by rfl)
    (hfew : ((backTo cpos (starEach (e :: es) X.env)).all (fun x => !x.1) && (backToKw cpos (keywordEach [] X.env)).all (fun x => x.1.isSome)
      && decide ((e :: es).length + ([] : List Keyword).length + (if ([] : List Keyword).isEmpty then 0 else 1) < 30)) = true := by rfl)
    (hline : (apos.endLine == cpos.line) = true := by rfl) (hs : starEach (e :: es) X.env = (false, eval e X.env) :: starEach es X.env := by rfl) (hplain : (backTo cpos (starEach es X.env)).any (·.1) = false := by rfl) :
    PE X (.Call (.Attribute o name apos) (e :: es) [] cpos) (tBM K T r to t) := by
  subst hK
  exact pe_bm pa slot hty hm ho ha hbase hfew hline hs hplain
end Rep
namespace Rep
open PySem L2
theorem at_any {xs : List V} {n : Nat} {j : Int} (hl : xs.length = n) (h0 : 0 ≤ j) (h1 : j < (n : Int)) : ∃ v, v ∈ xs ∧ atI xs j = some v := by
  obtain ⟨i, rfl⟩ : ∃ i : Nat, j = (i : Int) := ⟨j.toNat, by omega⟩
  have hi : i < xs.length := by omega
  exact ⟨xs[i], List.getElem_mem hi, atI_nat (List.getElem?_eq_getElem hi)⟩
end Rep
namespace Rep
open PySem L2
theorem cpart_in {e i : Int} {s : Sy} (g : Good e s) (h0 : 0 ≤ i) (h1 : i < s.n) : 0 ≤ cpart s i ∧ cpart s i < e := by
  obtain ⟨g1, g2, g3, g4, g5⟩ := g
  unfold cpart
  split <;> omega
theorem said_cpart {e : Int} {ss : List Sy} {s : Sy} (g : Good e s) : SaidAll e ss s ↔ ∀ i, 0 ≤ i → i < s.n → fOf (allCuts e ss) (s.lo + i) = fOf (allCuts e ss) (cpart s i) := by
  constructor
  · intro h i h0 h1
    refine h _ _ ?_
    show says s.lo s.hi s.n s.t _ _
    unfold cpart
    cases c : s.t with
    | true => rw [says_t, if_pos rfl]; omega
    | false => rw [says_f, if_neg (by decide)]; omega
  · intro h u v huv
    have huv : says s.lo s.hi s.n s.t u v := huv
    have := h (u - s.lo)
    unfold cpart at this
    cases c : s.t with
    | true =>
      rw [c, says_t] at huv
      have t := this (by omega) (by omega)
      rw [c, if_pos rfl, show s.lo + (u - s.lo) = u by omega, show s.hi + s.n - 1 - (u - s.lo) = v by omega] at t
      exact t
    | false =>
      rw [c, says_f] at huv
      have t := this (by omega) (by omega)
      rw [c, if_neg (by decide), show s.lo + (u - s.lo) = u by omega, show s.hi + (u - s.lo) = v by omega] at t
      exact t
theorem said_swap {e : Int} {ss : List Sy} {u : Sy} : SaidAll e ss ⟨u.hi, u.lo, u.n, u.t⟩ ↔ SaidAll e ss u := by
  constructor
  · intro h x y hxy
    exact (h y x (says_swap (a := u.lo) (b := u.hi) hxy)).symm
  · intro h x y hxy
    exact (h y x (says_swap (a := u.hi) (b := u.lo) hxy)).symm
end Rep
namespace Rep
open PySem PySem.W PySem.Spec PyProof.Rows L2 NdefX
/-! where stretches part -/
abbrev nth (l : List Stmt) (i : Nat) : Stmt := l.getD i (.Pass ⟨0, 0, 0, 0⟩)
def frS (s : Sy) (m : Int) : Sy := ⟨s.lo, if s.t = true then cpart s (m - 1) else s.hi, m, s.t⟩
def AtI (e : Int) (ss : List Sy) (s : Sy) (i : Int) : Prop := fOf (allCuts e ss) (s.lo + i) = fOf (allCuts e ss) (cpart s i)
theorem fr_cpart {s : Sy} {m i : Int} : cpart (frS s m) i = cpart s i := by
  unfold frS cpart
  cases c : s.t with
  | true => simp only [if_true]; omega
  | false => simp
theorem fr_good {e : Int} {s : Sy} (g : Good e s) {m : Int} (h1 : 1 ≤ m) (h2 : m ≤ s.n) : Good e (frS s m) := by
  have := part_good g (l := 0) (m := m) (by omega) h1 (by omega)
  have e1 : frS s m = partS s 0 m := by
    unfold frS partS cpart
    cases c : s.t with
    | true => simp only [if_true, Int.add_zero]; rw [show s.hi + s.n - 1 - (m - 1) = s.hi + s.n - 1 - 0 - m + 1 by omega]
    | false => simp
  rw [e1]; exact this
def spMet : Sp := fun vs H Q _ => ∃ (v : V) (s : Sy) (i : Int), vs = [v, .int i] ∧ IsSy H v s ∧ Q (.int (cpart s i)) H
abbrev nMet : List Str := ["saying", "i", "one", "other", "many", "turned"]
theorem scMet : FnScope nMet ["saying", "i"] (defScope sMet) := ⟨rfl, rfl, rfl, by decide +kernel, rfl, by decide +kernel, by decide +kernel⟩
def spFront : Sp := fun vs H Q _ => ∃ (v : V) (s : Sy) (m : Int), vs = [v, .int m] ∧ IsSy H v s ∧ ∀ H' t, Same H H' → IsSy H' (.ref t) (frS s m) → Q (.ref t) H'
abbrev nFront : List Str := ["saying", "size", "one", "other", "many", "turned"]
theorem scFront : FnScope nFront ["saying", "size"] (defScope sFront) := ⟨rfl, rfl, rfl, by decide +kernel, rfl, by decide +kernel, by decide +kernel⟩
section
variable {Pg : Program} {w : World} {K : PySem.W.Frag} {mg : Str → Option Value} {base : Heap}
theorem ok_met {f : Addr} {fd : FuncData} {k : Nat} (F : Fun K "met" "met" sMet f fd) : FnOk Pg w K mg base CX0 (k + 1) f fd ["saying", "i"] spMet := by
  refine F.ok scMet (fun vs H Q E h => ?_) (fun cdv A outer s H vs Q E hr h => ?_)
  · obtain ⟨v, s, i, rfl, _⟩ := h; rfl
  obtain ⟨v, u, i, rfl, ⟨t, rfl, ht⟩, q⟩ := h
  refine ⟨_, (pss_cons (ps_asg (pv 0) (pg_tup rfl (pgs_cons (pg_name (i := 2) scMet.nd rfl (.inl rfl)) (pgs_cons (pg_name (i := 3) scMet.nd rfl (.inl rfl)) (pgs_cons (pg_name (i := 4) scMet.nd rfl (.inl rfl)) (pgs_cons (pg_name (i := 5) scMet.nd rfl (.inl rfl)) pgs_nil))))))
    (pss_one (ps_ret (pe_ifExp (pt_val (pv 5)) (pe_op op_sub (pe_op op_sub (pe_op op_add (pv 3) (pv 4)) pe_int) (pv 1)) (pe_op op_add (pv 3) (pv 1)))))), ?_⟩
  refine ⟨.ref t, rfl, t, _, rfl, .inl (.inl ht), rfl, _, _, rfl, _, _, rfl, _, _, rfl, _, _, rfl, rfl, ?_⟩
  refine ⟨.bl u.t, rfl, _, rfl, ?_⟩
  unfold cpart at q
  cases c : u.t with
  | true =>
    rw [c, if_pos rfl] at q
    exact iteT ⟨.int u.hi, rfl, .int u.n, rfl, _, _, rfl, rfl, _, 1, rfl, rfl, .int i, rfl, _, _, rfl, rfl, q⟩
  | false =>
    rw [c, if_neg (by decide)] at q
    exact iteF ⟨.int u.hi, rfl, .int i, rfl, _, _, rfl, rfl, q⟩
theorem ok_front {f fM : Addr} {fd fdM : FuncData} {k : Nat} (F : Fun K "front" "front" sFront f fd) (gM : FnOk Pg w K mg base CX0 k fM fdM ["saying", "i"] spMet) (bM : Binds K fdM ["saying", "i"] []) (kM : PySem.W.keepIn K (.ref fM) = true) (mM : mg "met" = some (.ref fM)) : FnOk Pg w K mg base CX0 (k + 1) f fd ["saying", "size"] spFront := by
  refine F.ok scFront (fun vs H Q E h => ?_) (fun cdv A outer s H vs Q E hr h => ?_)
  · obtain ⟨v, s, i, rfl, _⟩ := h; rfl
  obtain ⟨v, u, m, rfl, ⟨t, rfl, ht⟩, q⟩ := h
  refine ⟨_, (pss_cons (ps_asg (pv 0) (pg_tup rfl (pgs_cons (pg_name (i := 2) scFront.nd rfl (.inl rfl)) (pgs_cons (pg_name (i := 3) scFront.nd rfl (.inl rfl)) (pgs_cons (pg_name (i := 4) scFront.nd rfl (.inl rfl)) (pgs_cons (pg_name (i := 5) scFront.nd rfl (.inl rfl)) pgs_nil))))))
    (pss_one (ps_ret (pe_tup (pa_cons (pv 2) (pa_cons (pe_ifExp (pt_val (pv 5)) (pe_call gM hr (by rfl) mM kM bM .nil pass0 (pa_cons (pv 0) (pa_cons (pe_op op_sub (pv 1) pe_int) pa_nil))) (pv 3)) (pa_cons (pv 1) (pa_cons (pv 5) pa_nil)))))))), ?_⟩
  refine ⟨.ref t, rfl, t, _, rfl, .inl (.inl ht), rfl, _, _, rfl, _, _, rfl, _, _, rfl, _, _, rfl, rfl, ?_⟩
  refine ⟨.int u.lo, rfl, .bl u.t, rfl, _, rfl, ?_⟩
  unfold frS at q
  cases c : u.t with
  | true =>
    simp only [c, if_true] at q
    refine iteT ⟨.ref t, rfl, .int m, rfl, _, 1, rfl, rfl, .ref t, u, m - 1, rfl, ⟨t, rfl, ht⟩, ?_⟩
    refine ⟨.int m, rfl, .bl true, rfl, ?_⟩
    refine ⟨szN 4 rfl, fun l n_l => ?_⟩
    exact q _ l (same_upd n_l) ⟨l, rfl, upd_same⟩
  | false =>
    simp only [c, Bool.false_eq_true, if_false] at q
    refine iteF ⟨.int u.hi, rfl, ?_⟩
    refine ⟨.int m, rfl, .bl false, rfl, ?_⟩
    refine ⟨szN 4 rfl, fun l n_l => ?_⟩
    exact q _ l (same_upd n_l) ⟨l, rfl, upd_same⟩
end
/-! the least number for which something does not hold -/
abbrev nLf : List Str := ["behind", "holds", "low", "high", "middle"]
theorem scLf : FnScope nLf ["behind", "holds"] (defScope sLeast_failing) := ⟨rfl, rfl, rfl, by decide +kernel, rfl, by decide +kernel, by decide +kernel⟩
/-- what is asked of the thing that is handed on -/
structure Asks1 (kn : Hp → Prop) (sp : List (Option V) → Sp) (ws : List (Option V)) (n : Int) (J : Hp → Prop) (Pm : Int → Prop) : Prop where
  kn : ∀ H, J H → kn H
  ask : ∀ (m : Int) (H : Hp) (Q : VK), 0 ≤ m → m < n → J H → (∀ H' (b : Bool), J H' → (b = true ↔ Pm m) → Q (.bl b) H') → sp ws [.int m] H Q E0
section
variable {Pg : Program} {w : World} {K : PySem.W.Frag} {mg : Str → Option Value} {base : Heap}
theorem run_lf {g : Addr} {fd : FuncData} {k : Nat} (F : Fun K "least_failing" "least_failing" sLeast_failing g fd) (b : Binds K fd ["behind", "holds"] []) {A : Around} {outer : List Env} {s : Shared} {H : Hp} {us : List Value} {Q : VK} {n : Int} {f : Addr} {kn : Hp → Prop} {CL : List (Str × Addr)} {FR : List Str} {ws : List (Option V)} {sp : List (Option V) → Sp} {J : Hp → Prop} {Pm : Int → Prop}
    (hr : Room (k + 1) A) (e0 : Env0 Pg w K mg base A outer s H) (r : Vals [.int n, .ref f] us) (R : Run Pg w K mg base k f kn CL FR sp) (C : CellsAt CL FR ws s.heap H) (nf : ∀ y c, CL.lookup y = some c → c ∉ frs outer) (n0 : 0 ≤ n) (hJ : J H) (a : Asks1 kn sp ws n J Pm)
    (q : ∀ H' r, J H' → 0 ≤ r → r ≤ n → (r = n ∨ ¬ Pm r) → (r = 0 ∨ Pm (r - 1)) → Q (.int r) H') : codeAny (model Pg w) A (.call (.ref g) ⟨us, []⟩) (CR CX0 outer Pg w H s Q E0) s := by
  obtain ⟨_, _, _, _, _, _, cdv, _, _, rfl, lk, hcd⟩ := F.ex
  have KX : K.In s.heap := e0.mod.kin.keeps fun b o e => (e0.bs b o e).1
  have hb := b s us KX (by rw [List.append_nil, ← r.length]; rfl)
  rw [List.append_nil] at hb
  refine LamX.run_ofS (N := nLf) (ps := ["behind", "holds"]) (us := us) (vs := [.int n, .ref f]) lk hcd scLf hr e0 hb r rfl fun hr' => ?_
  have act : ∀ p1 p2 p3 : Pos, PE (cxOf CX0 Pg w K mg base nLf "least_failing" (defScope sLeast_failing) g cdv A outer s H E0).nox (.Call (.Name "holds" p1) [.Name "middle" p2] [] p3) (tHeld 1 f kn ws sp (tCons (tVar 4) tNil)) := fun p1 p2 p3 =>
    pe_held (X := (cxOf CX0 Pg w K mg base nLf "least_failing" (defScope sLeast_failing) g cdv A outer s H E0).nox) R C nf (fun _ _ _ z => nomatch (show _ ∈ ([] : List Addr) from z)) hr' rfl (.inl rfl) (pa_cons (pv 4) pa_nil)
  have key : ∃ t, PSs (cxOf CX0 Pg w K mg base nLf "least_failing" (defScope sLeast_failing) g cdv A outer s H E0).nox (defBody sLeast_failing) t ∧ t { nx := fun _ H' => Q .non H', rt := Q } (L2.start nLf [.int n, .ref f]) H := by
    refine ⟨_, (pss_cons (ps_par (i := 2) (j := 3) (by rfl) scLf.nd rfl rfl (by decide) rfl rfl (pa_cons pe_int (pa_cons (pv 0) pa_nil)) (by rfl))
    (pss_cons (ps_while PassesOwn.never (pt_cmpR op_lt (pv 2) (pv 3) (nomark _))
      (pss_cons (ps_set (i := 4) scLf.nd rfl (.inl rfl) (pe_op op_fdivW (pe_op op_add (pv 2) (pv 3)) pe_int))
    (pss_one (ps_if (pt_val (act _ _ _)) (pss_one (ps_set (i := 2) scLf.nd rfl (.inl rfl) (pe_op op_add (pv 4) pe_int))) (pss_one (ps_set (i := 3) scLf.nd rfl (.inl rfl) (pv 4)))))))
    (pss_one (ps_ret (pv 2))))), ?_⟩
    refine ⟨.int n, rfl, _, _, rfl, ?_⟩
    refine ⟨fun m σ H3 => ∃ (l h : Int) (y : Option V), σ = [some (.int n), some (.ref f), some (.int l), some (.int h), y] ∧ J H3 ∧ m = (h - l).toNat ∧ 0 ≤ l ∧ l ≤ h ∧ h ≤ n ∧ (h = n ∨ ¬ Pm h) ∧ (l = 0 ∨ Pm (l - 1)),
      ⟨(n - 0).toNat, 0, n, none, rfl, hJ, rfl, by omega, n0, by omega, .inl rfl, .inl rfl⟩, ?_⟩
    rintro m σ H3 ⟨l, h, y, rfl, j3, rfl, l0, lh, hn, c1, c2⟩
    refine ⟨.int l, rfl, .int h, rfl, _, _, rfl, rfl, _, rfl, ite2 (fun c => ?_) (fun c => ?_)⟩
    · have c : l < h := of_decide_eq_true c
      refine ⟨fun σ' H' => ∃ (l' h' : Int) (y : Option V), σ' = [some (.int n), some (.ref f), some (.int l'), some (.int h'), y] ∧ J H' ∧ (h' - l').toNat < (h - l).toNat ∧ 0 ≤ l' ∧ l' ≤ h' ∧ h' ≤ n ∧ (h' = n ∨ ¬ Pm h') ∧ (l' = 0 ∨ Pm (l' - 1)), fun σ' H' hN => ?_, ?_⟩
      · obtain ⟨l', h', y', e1, e2, e3, e4, e5, e6, e7, e8⟩ := hN
        exact ⟨_, e3, l', h', y', e1, e2, rfl, e4, e5, e6, e7, e8⟩
      refine ⟨.int l, rfl, .int h, rfl, _, _, rfl, rfl, _, 2, rfl, rfl, wide_div (b := 3) (by decide) (by decide) (by decide) (by decide), ?_⟩
      obtain ⟨md, hmd, hmd1, hmd2⟩ : ∃ md : Int, (l + h) / 2 = md ∧ l ≤ md ∧ md < h := ⟨(l + h) / 2, rfl, by omega, by omega⟩
      show gName 4 (.int ((l + h) / 2)) _ _ _
      rw [hmd]
      refine ⟨rfl, a.kn _ j3, .int md, rfl, a.kn _ j3, a.ask md H3 _ (by omega) (by omega) j3 fun H4 bb j4 hb => ?_⟩
      refine ⟨bb, rfl, ite2 (fun c => ?_) (fun c => ?_)⟩
      · exact ⟨.int md, rfl, _, 1, rfl, rfl, md + 1, h, some (.int md), rfl, j4, by omega, by omega, by omega, hn, c1, .inr (by rw [show md + 1 - 1 = md by omega]; exact hb.mp c)⟩
      · exact ⟨.int md, rfl, l, md, some (.int md), rfl, j4, by omega, l0, by omega, by omega, .inr fun z => c (hb.mpr z), c2⟩
    · have c : ¬ l < h := fun e => c (decide_eq_true e)
      obtain rfl : l = h := by omega
      exact ⟨.int l, rfl, q H3 l j3 l0 hn c1 c2⟩
  obtain ⟨t, h1, h2⟩ := key
  exact ⟨t, h1.nox, h2⟩
end
end Rep
namespace Rep
open PySem PySem.W PySem.Spec PyProof.Rows L2 NdefX
/-! parted -/
abbrev FRp : List Str := ["sayings", "one", "asked", "classes", "meets"]
abbrev nPd : List Str := ["length", "sayings", "one", "other", "many", "turned", "classes", "asked", "meets", "guess"]
theorem scPd : FnScope nPd ["length", "sayings", "one", "other", "many", "turned"] (defScope sParted) := ⟨rfl, rfl, rfl, by decide +kernel, rfl, by decide +kernel, by decide +kernel⟩
abbrev sMeets : Stmt := nth (defBody sParted) 4
/-- what the meets promises: ws are the cells' -/
def spMeets (C : Addr) : List (Option V) → Sp := fun ws vs H Q _ => ∃ (m : Int) (t p : Addr) (w0 w4 : Option V) (B : Addr → Prop) (e : Int) (ss : List Sy) (s : Sy), vs = [.int m] ∧ ws = [w0, some (.int s.lo), some (.ref t), some (.ref p), w4] ∧ ClsAt C B H p e ss ∧ (∀ u ∈ ss, Good e u) ∧ Good e s ∧ e < 10 ^ 40 ∧ IsSy H (.ref t) s ∧ 0 ≤ m ∧ m < s.n ∧
  Q (.bl (decide (fOf (allCuts e ss) (s.lo + m) = fOf (allCuts e ss) (cpart s m)))) H
def spLamP (C P fm : Addr) (kn : Hp → Prop) : List (Option V) → Sp := fun ws vs H Q _ => ∃ (m : Int) (a t p : Addr) (B : Addr → Prop) (e : Int) (ss : List Sy) (s : Sy), vs = [.int m] ∧ ws = [some (.ref a), some (.int s.lo), some (.ref t), some (.ref p), some (.ref fm)] ∧ kn H ∧ ClsAt C B H p e ss ∧ Song P H a e ss ∧ Good e s ∧ IsSy H (.ref t) s ∧ 0 ≤ m ∧ m < s.n ∧
  ∀ H' (b : Bool), EX H H' → TbO P H' → (b = true ↔ AtI e ss s m ∧ SaidAll e ss (frS s (m + 1))) → Q (.bl b) H'
structure TPt (Pg : Program) (w : World) (K : PySem.W.Frag) (mg : Str → Option Value) (base : Heap) (P C : Addr) (k : Nat) (fM fR fG fE fF : Addr) (fdM fdR fdG fdE fdF : FuncData) : Prop where
  cl : Cls K C
  gM : FnOk Pg w K mg base CX0 k fM fdM ["saying", "i"] spMet
  bM : Binds K fdM ["saying", "i"] []
  kM : PySem.W.keepIn K (.ref fM) = true
  mM : mg "met" = some (.ref fM)
  gR : FnOk Pg w K mg base CX0 (k + 1) fR fdR ["saying", "size"] spFront
  bR : Binds K fdR ["saying", "size"] []
  kR : PySem.W.keepIn K (.ref fR) = true
  mR : mg "front" = some (.ref fR)
  GG : Fun K "least_failing" "least_failing" sLeast_failing fG fdG
  bG : Binds K fdG ["behind", "holds"] []
  kG : PySem.W.keepIn K (.ref fG) = true
  mG : mg "least_failing" = some (.ref fG)
  mE : Meth K C "same" fE
  gE : FnOk Pg w K mg base CX0 k fE fdE ["self", "one", "other"] (spMSame C)
  bE : Binds K fdE ["self", "one", "other"] []
  gF : FnOk Pg w K mg base CX0 (k + 2) fF fdF ["classes", "sayings", "saying"] (spFol K P C)
  bF : Binds K fdF ["classes", "sayings", "saying"] []
  kF : PySem.W.keepIn K (.ref fF) = true
  mF : mg "follows" = some (.ref fF)
section
variable {Pg : Program} {w : World} {K : PySem.W.Frag} {mg : Str → Option Value} {base : Heap}
/-- the frame of parted -/
abbrev cxPd (Pg : Program) (w : World) (K : PySem.W.Frag) (mg : Str → Option Value) (base : Heap) (CX : CXT) (f c : Addr) (A : Around) (outer : List Env) (s : Shared) (H : Hp) (E : XK) : Cx := cxOf CX Pg w K mg base nPd "parted" (defScope sParted) f (.ref c) A outer s H E
abbrev celPd (s : Shared) : List (Str × Addr) := cellsFrom (s.heap.objs.size + 1) (defScope sParted).names []
theorem frp_cell : ∀ y ∈ FRp, (defScope sParted).names.lookup y = some .cell := by decide +kernel
theorem cap_pd {CX : CXT} {f c : Addr} {A : Around} {outer : List Env} {s : Shared} {H : Hp} {E : XK} : Caps (cxPd Pg w K mg base CX f c A outer s H E) (celPd s) FRp [1, 2, 7, 6, 8] :=
  ⟨fun _ _ h => h, fun y hy => .inl (frp_cell y hy), fun _ _ _ h => h, rfl⟩
/-- meets, made in parted's frame -/
abbrev nfMeets (s : Shared) (c' : Addr) : NF := NF.of sMeets "meets" "parted.<locals>.meets" (cloFrom (celPd s) (C8.fnScope sMeets).names []) c'
theorem celPd_has {s : Shared} {y : Str} (h : (defScope sParted).names.lookup y = some .cell) : ∃ c, (celPd s).lookup y = some c := cell_has h
theorem run_meets {C P : Addr} {k : Nat} {fM fR fG fE fF : Addr} {fdM fdR fdG fdE fdF : FuncData} (T : TPt Pg w K mg base P C k fM fR fG fE fF fdM fdR fdG fdE fdF) (s : Shared) (fm c' : Addr) :
    Run Pg w K mg base (k + 1) fm (fun H => H fm = some (FnO fm (nfMeets s c')) ∧ H c' = some (LamX.CodeO c' "parted.<locals>.meets")) (celPd s) FRp (spMeets C) := by
  have fr : ∀ y ∈ (C8.fnScope sMeets).names, y.2 = .free → ∃ c, (celPd s).lookup y.1 = some c := fun y hy e => celPd_has (by
    have : ∀ y ∈ (C8.fnScope sMeets).names, y.2 = .free → (defScope sParted).names.lookup y.1 = some .cell := by decide +kernel
    exact this y hy e)
  refine ndf_run (N := ["i", "asked", "classes", "one"]) (ps := ["i"]) (fr := ["asked", "classes", "one"]) (F := nfMeets s c') [2, 3, 1] (nscope_by (show nscB ["i", "asked", "classes", "one"] ["i"] ["asked", "classes", "one"] (C8.fnScope sMeets) = true from by decide +kernel)) (fun y c e => clo_cm fr e) rfl (fun y hy c e => clo_has fr (by
      have : ∀ y ∈ (["asked", "classes", "one"] : List Str), (y, NameKind.free) ∈ (C8.fnScope sMeets).names := by decide +kernel
      exact this y hy) e) (fun d m t us h => ?_) (fun ws vs H Q E h => ?_) fun A outer s1 H vs ws Q hr hl h => ?_
  · match us, h with
    | [u], _ => rfl
  · obtain ⟨m, t, p, w0, w4, B, e, ss, s, rfl, _⟩ := h; rfl
  obtain ⟨m, t, p, w0, w4, B, e, ss, u, rfl, rfl, ca, gd, gu, e1, iy, m0, m1, q⟩ := h
  refine ⟨_, pss_one (ps_ret (pe_meth (pv 2) T.cl T.mE T.gE hr T.bE .nil pass0 (pa_cons (pe_op op_add (pv 3) (pv 0)) (pa_cons (pe_call T.gM hr (by rfl) T.mM T.kM T.bM .nil pass0 (pa_cons (pv 1) (pa_cons (pv 0) pa_nil))) pa_nil)))), ?_⟩
  obtain ⟨dx, cA, rA, cv, rv, R, h0, h1, _⟩ := ca.ex
  obtain ⟨g1, g2, g3, g4, g5⟩ := id gu
  obtain ⟨b1, b2⟩ := cpart_in gu m0 m1
  exact ⟨.ref p, rfl, p, dx, _, rfl, h1, fldsC_no e cA rA (m := "same") (by decide +kernel) (by decide +kernel) (by decide +kernel), .int u.lo, rfl, .int m, rfl, _, _, rfl, rfl, .ref t, rfl, .int m, rfl, .ref t, u, m, rfl, iy, p, B, e, u.lo + m, cpart u m, ss, rfl, ca, gd, by omega, by omega, b1, b2, e1, q⟩
end
end Rep
namespace Rep
open PySem PySem.W PySem.Spec PyProof.Rows L2 NdefX
/-- the lambda's words -/
def lamArgs : Stmt → Arguments
  | .If _ [.Return (some (.Call _ [_, .Lambda a _ _ _] _ _)) _] _ _ => a
  | _ => ⟨[], [], none, [], [], none, []⟩
def lamBody : Stmt → Expr
  | .If _ [.Return (some (.Call _ [_, .Lambda _ b _ _] _ _)) _] _ _ => b
  | _ => .Name "" ⟨0, 0, 0, 0⟩
def lamScope : Stmt → Scope
  | .If _ [.Return (some (.Call _ [_, .Lambda _ _ s _] _ _)) _] _ _ => s
  | _ => ⟨.function, [], false, false, []⟩
abbrev sIfP : Stmt := nth (defBody sParted) 6
abbrev nfLam (s : Shared) (c' : Addr) : NF := ⟨"<lambda>", "parted.<locals>.<lambda>", lamArgs sIfP, [], lamScope sIfP, cloFrom (celPd s) (lamScope sIfP).names [], c'⟩
section
variable {Pg : Program} {w : World} {K : PySem.W.Frag} {mg : Str → Option Value} {base : Heap}
theorem run_lam {C P : Addr} {k : Nat} {fM fR fG fE fF : Addr} {fdM fdR fdG fdE fdF : FuncData} (T : TPt Pg w K mg base P C k fM fR fG fE fF fdM fdR fdG fdE fdF) (s : Shared) (f c' fm : Addr) {kn : Hp → Prop} (hk : ∀ H H', EX H H' → kn H → kn H') (Rm : Run Pg w K mg base (k + 1) fm kn (celPd s) FRp (spMeets C)) :
    Run Pg w K mg base (k + 3) f (fun H => H f = some (LmO f (nfLam s c') (lamBody sIfP)) ∧ H c' = some (LamX.CodeO c' "parted.<locals>.<lambda>")) (celPd s) FRp (spLamP C P fm kn) := by
  have fr : ∀ y ∈ (lamScope sIfP).names, y.2 = .free → ∃ c, (celPd s).lookup y.1 = some c := fun y hy e => celPd_has (by
    have : ∀ y ∈ (lamScope sIfP).names, y.2 = .free → (defScope sParted).names.lookup y.1 = some .cell := by decide +kernel
    exact this y hy e)
  refine lam_run (N := ["i", "asked", "classes", "meets", "sayings"]) (ps := ["i"]) (fr := ["asked", "classes", "meets", "sayings"]) (F := nfLam s c') (e := lamBody sIfP) [2, 3, 4, 0] (nscope_by (show nscB ["i", "asked", "classes", "meets", "sayings"] ["i"] ["asked", "classes", "meets", "sayings"] (lamScope sIfP) = true from by decide +kernel)) (fun y c e => clo_cm fr e) rfl (fun y hy c e => clo_has fr (by
      have : ∀ y ∈ (["asked", "classes", "meets", "sayings"] : List Str), (y, NameKind.free) ∈ (lamScope sIfP).names := by decide +kernel
      exact this y hy) e) (fun m t us h => ?_) (fun ws vs H Q E h => ?_) fun A outer s1 H vs ws Q hr hf C0 nf hl h => ?_
  · match us, h with
    | [u], _ => rfl
  · obtain ⟨m, a, t, p, B, e, ss, s, rfl, _⟩ := h; rfl
  obtain ⟨m, a, t, p, B, e, ss, u, rfl, rfl, k0, ca, sg, gu, iy, m0, m1, q⟩ := h
  have r1 : Room (k + 1) _ := hr.mono (by omega)
  refine ⟨_, (pe_and (pe_held (X := ncx CX0 Pg w K mg base ["i", "asked", "classes", "meets", "sayings"] (nfLam s c') f A outer s1 H E0) (i := 3) Rm C0 nf (fun _ _ _ z => nomatch (show _ ∈ ([] : List Addr) from z)) r1 rfl (.inr (.inr rfl)) (pa_cons (pv 0) pa_nil))
    (pe_one (pe_call T.gF hr (by rfl) T.mF T.kF T.bF .nil pass0 (pa_cons (pv 2) (pa_cons (pv 4) (pa_cons (pe_call T.gR r1 (by rfl) T.mR T.kR T.bR .nil pass0 (pa_cons (pv 1) (pa_cons (pe_op op_add (pv 0) pe_int) pa_nil))) pa_nil)))))), ?_⟩
  refine ⟨rfl, k0, .int m, rfl, k0, m, t, p, some (.ref a), some (.ref fm), B, e, ss, u, rfl, rfl, ca, sg.gd, gu, sg.h1, iy, m0, m1, ?_⟩
  refine ⟨_, rfl, ?_⟩
  by_cases c : fOf (allCuts e ss) (u.lo + m) = fOf (allCuts e ss) (cpart u m)
  · rw [decide_eq_true c, if_pos rfl]
    obtain ⟨xs, ea, sl⟩ := sg.at_
    refine ⟨.ref p, rfl, .ref a, rfl, .ref t, rfl, .int m, rfl, _, 1, rfl, rfl, .ref t, u, m + 1, rfl, iy, fun H2 t2 s2 i2 => ?_⟩
    have x2 := EX.of s2
    have gf := fr_good gu (m := m + 1) (by omega) (by omega)
    refine ⟨p, a, B, e, ss, xs, .ref t2, frS u (m + 1), rfl, ca.ext x2, EX.lst x2 ea, SL.ts (EX.ts x2) sl, i2, sg.gd, gf, sg.tb.ext s2, sg.h0, sg.h1, sg.ln, sg.cm _ gf, fun H3 bb x3 t3 hb => ?_⟩
    exact q H3 bb (x2.trans x3) t3 (hb.trans ⟨fun z => ⟨c, z⟩, fun z => z.2⟩)
  · rw [decide_eq_false c, if_neg (by decide)]
    exact q H false (EX.of (Same.refl _)) sg.tb ⟨fun z => (nomatch z), fun z => absurd z.1 c⟩
/-- where two stretches part -/
def PartV (e : Int) (ss : List Sy) (s : Sy) (v : V) : Prop := (v = .non ∧ ∀ i, 0 ≤ i → i < s.n → AtI e ss s i) ∨ ∃ i : Int, v = .int i ∧ 0 ≤ i ∧ i < s.n ∧ ¬ AtI e ss s i ∧ ∀ j, 0 ≤ j → j < i → AtI e ss s j
theorem said_fr {e : Int} {ss : List Sy} {s : Sy} (g : Good e s) {m : Int} (h1 : 1 ≤ m) (h2 : m ≤ s.n) : SaidAll e ss (frS s m) ↔ ∀ i, 0 ≤ i → i < m → AtI e ss s i := by
  rw [said_cpart (fr_good g h1 h2)]
  constructor
  · intro h i h0 h1
    have := h i h0 h1
    rw [fr_cpart] at this
    exact this
  · intro h i h0 h1
    rw [fr_cpart]
    exact h i h0 h1
def spPt (K : PySem.W.Frag) (P : Addr) : Sp := fun vs H Q _ => ∃ (a : Addr) (e : Int) (ss : List Sy) (s : Sy), vs = [.int e, .ref a, .int s.lo, .int s.hi, .int s.n, .bl s.t] ∧ Song P H a e ss ∧ Good e s ∧
  ∀ H' v, EX H H' → TbO P H' → PartV e ss s v → Q v H'
/-- a thing that is handed on: all that is asked of it -/
def GoLf (Pg : Program) (w : World) (K : PySem.W.Frag) (mg : Str → Option Value) (base : Heap) (k : Nat) (CL : List (Str × Addr)) (FR : List Str) (js : List Nat) : L2.St → List V → Hp → VK → Prop := fun σ vs H Q => ∃ (n : Int) (f : Addr) (kn : Hp → Prop) (sp : List (Option V) → Sp) (J : Hp → Prop) (Pm : Int → Prop), vs = [.int n, .ref f] ∧ 0 ≤ n ∧ Run Pg w K mg base k f kn CL FR sp ∧ J H ∧ Asks1 kn sp (js.map (slotAt σ)) n J Pm ∧
  ∀ H' r, J H' → 0 ≤ r → r ≤ n → (r = n ∨ ¬ Pm r) → (r = 0 ∨ Pm (r - 1)) → Q (.int r) H'
theorem run_go {CX : CXT} {f c : Addr} {A : Around} {outer : List Env} {s : Shared} {H0 : Hp} {E : XK} {g : Addr} {fd : FuncData} {k : Nat} (F : Fun K "least_failing" "least_failing" sLeast_failing g fd) (b : Binds K fd ["behind", "holds"] [])
    (hr : Room (k + 1) (cxPd Pg w K mg base CX f c A outer s H0 E).A) (pins : List (Addr × Obj)) (σ : L2.St) (s1 : Shared) (H : Hp) (us : List Value) (vs : List V) (Q : VK)
    (I : Inv (cxPd Pg w K mg base CX f c A outer s H0 E) pins σ H s1) (r : Vals vs us) (q : GoLf Pg w K mg base k (celPd s) FRp [1, 2, 7, 6, 8] σ vs H Q) :
    codeAny (model Pg w) (cxPd Pg w K mg base CX f c A outer s H0 E).A (.call (.ref g) ⟨us, []⟩) (CR CX0 (cxPd Pg w K mg base CX f c A outer s H0 E).stack Pg w H s1 Q E0) s1 := by
  obtain ⟨n, f', kn, sp, J, Pm, rfl, n0, R, hJ, a, q⟩ := q
  exact run_lf F b hr I.env0 r R (cells_of I cap_pd) (cells_nf I fun _ => rfl) n0 hJ a q
end
end Rep
namespace Rep
open PySem PySem.W PySem.Spec PyProof.Rows L2 NdefX
section
variable {Pg : Program} {w : World} {K : PySem.W.Frag} {mg : Str → Option Value} {base : Heap}
theorem lmO_ne {f : Addr} {F : NF} {e : Expr} (ps : Array Value) : LmO f F e ≠ .tbl ps := fun z => by
  unfold LmO at z
  cases z
theorem ok_pt {f c P C fC fS fM fR fG fE fF : Addr} {fd fdC fdS fdM fdR fdG fdE fdF : FuncData} {k : Nat} (F : FunT K "parted" "parted" sParted f fd c) (TB : LamX.TabB base mg c PT2) (hP2 : P ≠ PT2) (TA : TAlk Pg w K mg base P C k fC fS fF fdC fdS fdF) (T : TPt Pg w K mg base P C k fM fR fG fE fF fdM fdR fdG fdE fdF) :
    FnOk Pg w K mg base CX0 (k + 5) f fd ["length", "sayings", "one", "other", "many", "turned"] (spPt K P) := by
  obtain ⟨oc, od, kV, doc, pm, an, ct, osl, rfl, lk, hcd⟩ := F.ex
  refine fn_of lk hcd scPd (fun vs H Q E h => ?_) (fun A outer s H vs Q E hr h => ?_)
  · obtain ⟨a, e, ss, s, rfl, _⟩ := h; rfl
  obtain ⟨a, e, ss, u, rfl, sg, gu, q⟩ := h
  obtain ⟨xs, ea, sl⟩ := sg.at_
  have r4 : Room (k + 4) (cxPd Pg w K mg base CX0 f c A outer s H E).A := hr
  have r1 : Room k (cxPd Pg w K mg base CX0 f c A outer s H E).A := hr.mono (by omega)
  have r2 : Room (k + 1) (cxPd Pg w K mg base CX0 f c A outer s H E).A := hr.mono (by omega)
  have r3 : Room (k + 2) (cxPd Pg w K mg base CX0 f c A outer s H E).A := hr.mono (by omega)
  have mf : ∀ y ∈ (C8.fnScope sMeets).names, y.2 = .free → (defScope sParted).names.lookup y.1 = some .cell ∨ (defScope sParted).names.lookup y.1 = some .free := fun y hy e => .inl (by
    have : ∀ y ∈ (C8.fnScope sMeets).names, y.2 = .free → (defScope sParted).names.lookup y.1 = some .cell := by decide +kernel
    exact this y hy e)
  have lf : ∀ y ∈ (lamScope sIfP).names, y.2 = .free → (defScope sParted).names.lookup y.1 = some .cell ∨ (defScope sParted).names.lookup y.1 = some .free := fun y hy e => .inl (by
    have : ∀ y ∈ (lamScope sIfP).names, y.2 = .free → (defScope sParted).names.lookup y.1 = some .cell := by decide +kernel
    exact this y hy e)
  have inT : (PT2, parNm) ∈ tabN P := List.mem_cons_of_mem _ List.mem_cons_self
  refine ⟨_, (C8.pss_cut (ps_set (i := 6) scPd.nd rfl (.inr rfl) (pe_make TA.MC TA.gC r2 (by rfl) TA.mC TA.bC .nil pass0 (pa_cons (pv 0) (pa_cons (pv 1) pa_nil))))
    (pss_cons (ps_expr (pe_call TA.gS r1 (by rfl) TA.mS TA.kS TA.bS .nil pass0 (pa_cons (pv 0) (pa_cons (pv 2) (pa_cons (pv 4) pa_nil)))))
    (pss_cons (ps_expr (pe_call TA.gS r1 (by rfl) TA.mS TA.kS TA.bS .nil pass0 (pa_cons (pv 0) (pa_cons (pv 3) (pa_cons (pv 4) pa_nil)))))
    (C8.pss_cut (ps_set (i := 7) scPd.nd rfl (.inr rfl) (pe_tup (pa_cons (pv 2) (pa_cons (pv 3) (pa_cons (pv 4) (pa_cons (pv 5) pa_nil))))))
    (C8.pss_cut (ps_ndefMS (st := sMeets) (name := "meets") (T := tabN P) (nm := parNm) (c := c) (P := PT2) (i := 8) rfl TB rfl inT rfl (tabN_only2 hP2) mf rfl rfl rfl scPd.nd rfl (.inr rfl) (.inl rfl))
    (C8.pss_cut (ps_set (i := 9) scPd.nd rfl (.inl rfl) (pe_go (G := GoLf Pg w K mg base (k + 3) (celPd s) FRp [1, 2, 7, 6, 8]) (by rfl) T.mG T.kG (pa_cons (pv 4) (pa_cons (pv 8) pa_nil)) (fun pins σ s1 H1 us vs Q I r q => run_go T.GG T.bG r4 pins σ s1 H1 us vs Q I r q)))
    (C8.pss_cut (ps_if (PW.pt (pw_and (pt_cmpR op_gt (pv 9) pe_int (nomark _)) (pw_and1 (pt_not (pt_val (pe_call T.gF r3 (by rfl) T.mF T.kF T.bF .nil pass0 (pa_cons (pv 6) (pa_cons (pv 1) (pa_cons (pe_call T.gR r2 (by rfl) T.mR T.kR T.bR .nil pass0 (pa_cons (pv 7) (pa_cons (pv 9) pa_nil))) pa_nil)))))))))
      (pss_one (ps_ret (pe_go (G := GoLf Pg w K mg base (k + 3) (celPd s) FRp [1, 2, 7, 6, 8]) (by rfl) T.mG T.kG (pa_cons (pv 9) (pa_cons (pe_lamN (T := tabN P) (nm := parNm) (c := c) (P := PT2) TB rfl inT rfl (tabN_only2 hP2) rfl lf) pa_nil)) (fun pins σ s1 H1 us vs Q I r q => run_go T.GG T.bG r4 pins σ s1 H1 us vs Q I r q)))) pss_nil)
    (pss_one (ps_ret (pe_ifExp (pt_cmpR op_lt (pv 9) (pv 4) (nomark _)) (pv 9) pe_non)))))))))), ?_⟩
  obtain ⟨g1, g2, g3, g4, g5⟩ := id gu
  refine ⟨fun σ' H' => ∃ (p : Addr) (B : Addr → Prop), σ' = [some (.int e), some (.ref a), some (.int u.lo), some (.int u.hi), some (.int u.n), some (.bl u.t), some (.ref p), none, none, none] ∧ EX H H' ∧ TbO P H' ∧ ClsAt C B H' p e ss, ?_, ?_⟩
  · refine ⟨.int e, rfl, .ref a, rfl, fun p dx np ndx ne => ?_⟩
    refine make_cls ea sl sg.tb sg.gd sg.h0 sg.h1 (by have := sg.ln; omega) sg.ct np ndx ne (fun H' x t nw ca => ?_)
    exact ⟨p, _, rfl, x, t, ca⟩
  rintro σ' H1 ⟨p, B, rfl, x1, t1, ca⟩
  refine ⟨.int e, rfl, .int u.lo, rfl, .int u.n, rfl, e, u.lo, u.n, rfl, by omega, by omega, by omega, ?_⟩
  refine ⟨.int e, rfl, .int u.hi, rfl, .int u.n, rfl, e, u.hi, u.n, rfl, by omega, by omega, by omega, ?_⟩
  -- asked
  refine ⟨fun σ' H' => ∃ t : Addr, σ' = [some (.int e), some (.ref a), some (.int u.lo), some (.int u.hi), some (.int u.n), some (.bl u.t), some (.ref p), some (.ref t), none, none] ∧ Same H1 H' ∧ IsSy H' (.ref t) u, ?_, ?_⟩
  · refine ⟨.int u.lo, rfl, .int u.hi, rfl, .int u.n, rfl, .bl u.t, rfl, szN 4 rfl, fun t nt => ?_⟩
    exact ⟨t, rfl, same_upd nt, IsSy.of upd_same⟩
  rintro σ' H2 ⟨t, rfl, s2, iy⟩
  replace ca := ca.ext (EX.of s2)
  have t2 := t1.ext s2
  have x2 := x1.trans (EX.of s2)
  -- meets
  refine ⟨fun σ' H' => ∃ fm c' : Addr, σ' = [some (.int e), some (.ref a), some (.int u.lo), some (.int u.hi), some (.int u.n), some (.bl u.t), some (.ref p), some (.ref t), some (.ref fm), none] ∧ EX H2 H' ∧ TbO P H' ∧ H' fm = some (FnO fm (nfMeets s c')) ∧ H' c' = some (LamX.CodeO c' "parted.<locals>.meets"), ?_, ?_⟩
  · exact ⟨t2, fun fm c' H3 eN _ T3 _ f1 c1 => ⟨fm, c', rfl, eN, T3, f1, c1⟩⟩
  rintro σ' H3 ⟨fm, c', rfl, x3, t3, kf, kc⟩
  have x03 := x2.trans x3
  replace ca := ca.ext x3
  replace iy := iy.ts (EX.ts x3)
  have Rm := run_meets T s fm c'
  have kS : ∀ A B, EX A B → (A fm = some (FnO fm (nfMeets s c')) ∧ A c' = some (LamX.CodeO c' "parted.<locals>.meets")) → B fm = some (FnO fm (nfMeets s c')) ∧ B c' = some (LamX.CodeO c' "parted.<locals>.meets") := fun A B x h => ⟨x _ _ h.1 fnO_ne, x _ _ h.2 LamX.codeO_ne⟩
  have sg3 : Song P H3 a e ss := ⟨⟨xs, EX.lst x03 ea, SL.ts (EX.ts x03) sl⟩, sg.gd, t3, sg.h0, sg.h1, sg.ln, sg.ct, sg.cm⟩
  -- the guess
  refine ⟨fun σ' H' => ∃ gs : Int, σ' = [some (.int e), some (.ref a), some (.int u.lo), some (.int u.hi), some (.int u.n), some (.bl u.t), some (.ref p), some (.ref t), some (.ref fm), some (.int gs)] ∧ H' = H3 ∧ 0 ≤ gs ∧ gs ≤ u.n ∧ (gs = u.n ∨ ¬ AtI e ss u gs), ?_, ?_⟩
  · refine ⟨.int u.n, rfl, .ref fm, rfl, u.n, fm, _, _, fun H' => H' = H3, AtI e ss u, rfl, by omega, ⟨Rm.fn, fun A outer s H us vs ws Q hr => Rm.run A outer s H us vs ws Q (hr.mono (by omega))⟩, rfl, ⟨fun H' eH => by subst eH; exact ⟨kf, kc⟩, fun m H' Q m0 m1 eH qq => ?_⟩, fun H' r eH r0 r1 c1 c2 => ⟨r, rfl, eH, r0, r1, c1⟩⟩
    subst eH
    exact ⟨m, t, p, some (.ref a), some (.ref fm), B, e, ss, u, rfl, rfl, ca, sg.gd, gu, sg.h1, iy, m0, m1, qq _ _ rfl (by unfold AtI; rw [decide_eq_true_iff])⟩
  rintro σ' H4 ⟨gs, rfl, eH, gs0, gs1, hgs⟩
  subst eH
  -- is it right
  have endW : (∀ i, 0 ≤ i → i < gs → AtI e ss u i) → ∀ H5, EX H H5 → TbO P H5 → (tIf (tTest (tOp (rI0 fun i j => .bl (decide (i < j))) (tVar 9) (tVar 4))) (tVar 9) (tC .non)) [some (.int e), some (.ref a), some (.int u.lo), some (.int u.hi), some (.int u.n), some (.bl u.t), some (.ref p), some (.ref t), some (.ref fm), some (.int gs)] H5 Q := fun al H5 x5 t5 => by
    refine ⟨.int gs, rfl, .int u.n, rfl, _, _, rfl, rfl, _, rfl, ite2 (fun c => ?_) (fun c => ?_)⟩
    · have c : gs < u.n := of_decide_eq_true c
      exact ⟨.int gs, rfl, q H5 _ x5 t5 (.inr ⟨gs, rfl, gs0, c, hgs.elim (fun z => absurd z (by omega)) id, al⟩)⟩
    · have c : ¬ gs < u.n := fun z => c (decide_eq_true z)
      exact q H5 _ x5 t5 (.inl ⟨rfl, fun i i0 i1 => al i i0 (by omega)⟩)
  refine ⟨fun σ' H' => σ' = [some (.int e), some (.ref a), some (.int u.lo), some (.int u.hi), some (.int u.n), some (.bl u.t), some (.ref p), some (.ref t), some (.ref fm), some (.int gs)] ∧ EX H H' ∧ TbO P H' ∧ (∀ i, 0 ≤ i → i < gs → AtI e ss u i), ?_, ?_⟩
  · refine ⟨.int gs, rfl, _, 0, rfl, rfl, _, rfl, ite2 (fun c => ?_) (fun c => ?_)⟩
    · have c : 0 < gs := of_decide_eq_true c
      refine ⟨.ref p, rfl, .ref a, rfl, .ref t, rfl, .int gs, rfl, .ref t, u, gs, rfl, iy, fun H5 t5 s5 i5 => ?_⟩
      have x5 := EX.of s5
      have gf := fr_good gu (m := gs) (by omega) gs1
      obtain ⟨xs', ea', sl'⟩ := sg3.at_
      refine ⟨p, a, B, e, ss, xs', .ref t5, frS u gs, rfl, ca.ext x5, EX.lst x5 ea', SL.ts (EX.ts x5) sl', i5, sg.gd, gf, t3.ext s5, sg.h0, sg.h1, sg.ln, sg.cm _ gf, fun H6 bb x6 t6 hb => ?_⟩
      refine ⟨bb, rfl, ?_⟩
      have x46 := x5.trans x6
      cases bb with
      | true =>
        refine iteF ?_
        exact ⟨rfl, x03.trans x46, t6, (said_fr gu (by omega) gs1).mp (hb.mp rfl)⟩
      | false =>
        refine iteT ?_
        have nall : ¬ ∀ i, 0 ≤ i → i < gs → AtI e ss u i := fun z => nomatch (hb.mpr ((said_fr gu (by omega) gs1).mpr z))
        refine ⟨.int gs, rfl, t6, fun f2 c2 H7 x7 _ t7 _ f7 c7 => ?_⟩
        have R2 := run_lam T s f2 c2 fm (kn := fun H => H fm = some (FnO fm (nfMeets s c')) ∧ H c' = some (LamX.CodeO c' "parted.<locals>.meets")) kS Rm
        have x47 := x46.trans x7
        have k7 := kS _ _ x47 ⟨kf, kc⟩
        have kL : ∀ B' : Hp, EX H7 B' → B' f2 = some (LmO f2 (nfLam s c2) (lamBody sIfP)) ∧ B' c2 = some (LamX.CodeO c2 "parted.<locals>.<lambda>") := fun B' x => ⟨x _ _ f7 lmO_ne, x _ _ c7 LamX.codeO_ne⟩
        refine ⟨gs, f2, _, _, fun H' => EX H7 H' ∧ TbO P H', fun m => AtI e ss u m ∧ SaidAll e ss (frS u (m + 1)), rfl, gs0, R2, ⟨EX.of (Same.refl _), t7⟩, ⟨fun H' j => kL H' j.1, fun m H' Q' m0 m1 j qq => ?_⟩, fun H' r j r0 r1 c1 c2 => ?_⟩
        · have xx := x47.trans j.1
          refine ⟨m, a, t, p, B, e, ss, u, rfl, rfl, kS _ _ j.1 k7, ca.ext xx, ⟨⟨xs', EX.lst xx ea', SL.ts (EX.ts xx) sl'⟩, sg.gd, j.2, sg.h0, sg.h1, sg.ln, sg.ct, sg.cm⟩, gu, iy.ts (EX.ts xx), m0, by omega, fun H'' b x t'' hb => qq H'' b ⟨j.1.trans x, t''⟩ hb⟩
        · have al : ∀ i, 0 ≤ i → i < r → AtI e ss u i := fun i i0 i1 => by
            rcases c2 with z | z
            · omega
            · have := z.2
              rw [show r - 1 + 1 = r by omega] at this
              exact (said_fr gu (by omega) (by omega)).mp this i i0 i1
          have rg : r < gs := by
            rcases Int.lt_or_eq_of_le r1 with z | z
            · exact z
            · subst z; exact absurd al nall
          have na : ¬ AtI e ss u r := fun z => by
            rcases c1 with y | y
            · omega
            · refine y ⟨z, (said_fr gu (by omega) (by omega)).mpr fun i i0 i1 => ?_⟩
              by_cases h : i = r
              · subst h; exact z
              · exact al i i0 (by omega)
          exact q H' _ (x03.trans (x47.trans j.1)) j.2 (.inr ⟨r, rfl, r0, by omega, na, al⟩)
    · have c : ¬ 0 < gs := fun z => c (decide_eq_true z)
      refine iteF ?_
      exact ⟨rfl, x03, t3, fun i i0 i1 => absurd i1 (by omega)⟩
  rintro σ' H5 ⟨rfl, x5, t5, al⟩
  exact endW al H5 x5 t5
end
end Rep
namespace Rep
open PySem L2
/-! each_first, wrong -/
def fsts (n : Nat) (ss : List Sy) : List Int := (List.range n).map fun (x : Nat) => fOf (allCuts (n : Int) ss) (x : Int)
theorem fsts_len (n : Nat) (ss : List Sy) : (fsts n ss).length = n := by unfold fsts; rw [List.length_map, List.length_range]
theorem fsts_get {n : Nat} {ss : List Sy} {i : Nat} (h : i < n) : (fsts n ss)[i]? = some (fOf (allCuts (n : Int) ss) (i : Int)) := by
  unfold fsts; rw [List.getElem?_map, List.getElem?_range h]; rfl
def spEach (K : PySem.W.Frag) (P : Addr) : Sp := fun vs H Q _ => ∃ (a : Addr) (xs : List V) (ss : List Sy) (n : Nat), vs = [.int (n : Int), .ref a] ∧ H a = some (.lst xs) ∧ SL H xs ss ∧ TbO P H ∧ (∀ s ∈ ss, Good (n : Int) s) ∧ n ≤ 1000 ∧ ss.length ≤ 1000 ∧
  ∀ H' l, EX H H' → TbO P H' → NewX H l → H' l = some (.lst ((fsts n ss).map V.int)) → Q (.ref l) H'
abbrev nEach : List Str := ["length", "sayings", "classes", "place"]
theorem scEach : FnScope nEach ["length", "sayings"] (defScope sEach_first) := ⟨rfl, rfl, rfl, by decide +kernel, rfl, by decide +kernel, by decide +kernel⟩
structure TEach (Pg : Program) (w : World) (K : PySem.W.Frag) (mg : Str → Option Value) (base : Heap) (P C : Addr) (k : Nat) (fC f1 : Addr) (fdC fd1 : FuncData) : Prop where
  cl : Cls K C
  MC : Mk K C fC
  gC : FnOk Pg w K mg base CX0 k fC fdC ["self", "length", "sayings"] (spInit K P C)
  bC : Binds K fdC ["self", "length", "sayings"] []
  mC : mg "Classes" = some (.ref C)
  m1 : Meth K C "first" f1
  g1 : FnOk Pg w K mg base CX0 k f1 fd1 ["self", "place"] (spMFirst C)
  b1 : Binds K fd1 ["self", "place"] []
  mR : mg "range" = none
section
variable {Pg : Program} {w : World} {K : PySem.W.Frag} {mg : Str → Option Value} {base : Heap}
theorem ok_each {f P C fC f1 : Addr} {fd fdC fd1 : FuncData} {k : Nat} (F : Fun K "each_first" "each_first" sEach_first f fd) (T : TEach Pg w K mg base P C k fC f1 fdC fd1) : FnOk Pg w K mg base CX0 (k + 2) f fd ["length", "sayings"] (spEach K P) := by
  refine F.ok scEach (fun vs H Q E h => ?_) (fun cdv A outer s H vs Q E hr h => ?_)
  · obtain ⟨a, xs, ss, n, rfl, _⟩ := h; rfl
  obtain ⟨a, xs, ss, n, rfl, ea, sl, tb, gd, hn, hl, q⟩ := h
  have r1 : Room k _ := hr.mono (by omega)
  refine ⟨_, (C8.pss_cut (ps_set (i := 2) scEach.nd rfl (.inr rfl) (pe_make T.MC T.gC hr (by rfl) T.mC T.bC .nil pass0 (pa_cons (pv 0) (pa_cons (pv 1) pa_nil))))
    (pss_one (ps_ret (pe_lc (own := [("place", 3)]) (g := (gName 3)) (tt := tYes) rfl scEach.nd (pi_range1 rfl T.mR (pa_cons (pv 0) pa_nil)) (blkOk_by (N := nEach) (sc := defScope sEach_first) (by decide +kernel)) (fun _ _ _ _ _ => (pg_name (i := 3) scEach.nd rfl (.inl rfl))) (fun _ _ _ _ _ => pts_nil) (fun _ _ _ _ _ => (pe_meth (pv 2) T.cl T.m1 T.g1 r1 T.b1 .nil pass0 (pa_cons (pv 3) pa_nil))))))), ?_⟩
  have hcl : (allCuts (n : Int) ss).length ≤ n := by have := all_len (e := (n : Int)) (ss := ss); omega
  refine ⟨fun σ' H' => ∃ (p : Addr) (B : Addr → Prop), σ' = [some (.int (n : Int)), some (.ref a), some (.ref p), none] ∧ EX H H' ∧ TbO P H' ∧ ClsAt C B H' p (n : Int) ss, ?_, ?_⟩
  · refine ⟨.int (n : Int), rfl, .ref a, rfl, fun p dx np ndx ne => ?_⟩
    refine make_cls ea sl tb gd (by omega) (by omega) (by omega) (by omega) np ndx ne (fun H' x t nw ca => ?_)
    exact ⟨p, _, rfl, x, t, ca⟩
  rintro σ' H1 ⟨p, B, rfl, x1, t1, ca⟩
  refine ⟨.int (n : Int), rfl, (n : Int), rfl, by omega, by omega, fun D nD => ?_⟩
  refine lc_range (lo := 0) (n := n) (fun i H5 => Same H1 H5 ∧ H5 D = some (.lst (((fsts n ss).take i).map V.int))) ⟨same_upd nD, upd_same⟩ (fun i H5 hi hP => ?_) (fun H5 hP => ?_)
  · obtain ⟨sm, eD⟩ := hP
    have ca5 := ca.ext (EX.of sm)
    obtain ⟨dx, cA, rA, cv, rv, R, h0, h1, _⟩ := id ca5.ex
    refine ⟨rfl, ?_⟩
    refine tYes_ok ?_
    refine iteT ?_
    refine ⟨.ref p, rfl, p, dx, _, rfl, h1, fldsC_no _ _ _ (by decide +kernel) (by decide +kernel) (by decide +kernel), .int (0 + (i : Int)), rfl, p, B, (n : Int), 0 + (i : Int), ss, rfl, ca5, gd, by omega, by omega, by omega, ?_⟩
    refine ⟨_, eD, by rw [List.length_map, List.length_take]; exact small1000 (by omega), same_over sm nD, ?_⟩
    rw [upd_same, List.take_add_one, fsts_get hi, Option.toList_some, List.map_append, Int.zero_add]
    rfl
  · obtain ⟨sm, eD⟩ := hP
    rw [List.take_of_length_le (by rw [fsts_len]; omega)] at eD
    exact q H5 D (x1.trans (EX.of sm)) (t1.ext sm) (NewX.back x1 (NewX.of nD)) eD
end
/-- the least place that is wrong -/
def badAt (ts fs : List Int) (n : Nat) : Option Nat := (List.range n).find? fun i => decide (¬ ts[i]? = fs[i]?)
def oN : Option Nat → V
  | none => .non
  | some k => .int (k : Int)
theorem bad_some {ts fs : List Int} {n i : Nat} (hi : i < n) (h : ∀ j < i, ts[j]? = fs[j]?) (hb : ¬ ts[i]? = fs[i]?) : badAt ts fs n = some i := by
  unfold badAt
  rw [List.find?_eq_some_iff_getElem]
  refine ⟨decide_eq_true hb, i, by rw [List.length_range]; exact hi, by rw [List.getElem_range], fun j hj => ?_⟩
  rw [List.getElem_range]
  have := h j hj
  simp [this]
theorem bad_none {ts fs : List Int} {n : Nat} (h : ∀ j < n, ts[j]? = fs[j]?) : badAt ts fs n = none := by
  unfold badAt
  rw [List.find?_eq_none]
  intro i hi
  have := h i (List.mem_range.mp hi)
  simp [this]
theorem cut_one {ts : List Int} {i : Nat} {z : Int} (h : ts[i]? = some z) : cutV (ts.map V.int) (some (i : Int)) (some ((i : Int) + 1)) = [.int z] := by
  have hi : i < ts.length := (List.getElem?_eq_some_iff.mp h).1
  unfold cutV
  rw [HT.sIx_nat, show ((i : Int) + 1) = ((i + 1 : Nat) : Int) by omega, HT.sIx_nat, List.length_map, Nat.min_eq_left (by omega), Nat.min_eq_left (by omega), show i + 1 - i = 1 by omega]
  rw [← List.map_drop, List.drop_eq_getElem_cons hi, List.map_cons, List.take_succ_cons, List.take_zero]
  rw [List.getElem?_eq_getElem hi] at h
  rw [Option.some.inj h]
theorem eqv_one (x y : Int) : PyData.eqv (.list [.int x]) (.list [.int y]) = decide (x = y) := by
  have : PyData.eqv (.list [.int x]) (.list [.int y]) = (decide (x = y) && true) := rfl
  rw [this, Bool.and_true]
def spWrong (K : PySem.W.Frag) (P : Addr) : Sp := fun vs H Q _ => ∃ (a c : Addr) (xs : List V) (ss : List Sy) (n : Nat) (ts : List Int), vs = [.int (n : Int), .ref a, .ref c] ∧ H a = some (.lst xs) ∧ SL H xs ss ∧ TbO P H ∧ (∀ s ∈ ss, Good (n : Int) s) ∧ n ≤ 1000 ∧ ss.length ≤ 1000 ∧
  H c = some (.lst (ts.map V.int)) ∧ ts.length = n ∧ ∀ H', EX H H' → TbO P H' → Q (oN (badAt ts (fsts n ss) n)) H'
abbrev nWrong : List Str := ["length", "sayings", "told", "place", "first"]
theorem scWrong : FnScope nWrong ["length", "sayings", "told"] (defScope sWrong) := ⟨rfl, rfl, rfl, by decide +kernel, rfl, by decide +kernel, by decide +kernel⟩
structure TWrong (Pg : Program) (w : World) (K : PySem.W.Frag) (mg : Str → Option Value) (base : Heap) (P : Addr) (k : Nat) (fE : Addr) (fdE : FuncData) : Prop where
  gE : FnOk Pg w K mg base CX0 k fE fdE ["length", "sayings"] (spEach K P)
  bE : Binds K fdE ["length", "sayings"] []
  kE : PySem.W.keepIn K (.ref fE) = true
  mE : mg "each_first" = some (.ref fE)
  menumerate : mg "enumerate" = none
section
variable {Pg : Program} {w : World} {K : PySem.W.Frag} {mg : Str → Option Value} {base : Heap}
theorem ok_wrong {f P fE : Addr} {fd fdE : FuncData} {k : Nat} (F : Fun K "wrong" "wrong" sWrong f fd) (T : TWrong Pg w K mg base P k fE fdE) : FnOk Pg w K mg base CX0 (k + 1) f fd ["length", "sayings", "told"] (spWrong K P) := by
  refine F.ok scWrong (fun vs H Q E h => ?_) (fun cdv A outer s H vs Q E hr h => ?_)
  · obtain ⟨a, c, xs, ss, n, ts, rfl, _⟩ := h; rfl
  obtain ⟨a, c, xs, ss, n, ts, rfl, ea, sl, tb, gd, hn, hl, ec, ht, q⟩ := h
  refine ⟨_, (pss_cons (ps_for PassesOwn.never rfl (pi_enum (by rfl) T.menumerate (pa_cons (pe_call T.gE hr (by rfl) T.mE T.kE T.bE .nil pass0 (pa_cons (pv 0) (pa_cons (pv 1) pa_nil))) pa_nil)) (pg_tup rfl (pgs_cons (pg_name (i := 3) scWrong.nd rfl (.inl rfl)) (pgs_cons (pg_name (i := 4) scWrong.nd rfl (.inl rfl)) pgs_nil)))
      (pss_one (ps_if (pt_cmpR (op_neD hr.units) (pe_slice sl_list (pv 2) (po_some (pv 3)) (po_some (pe_op op_add (pv 3) pe_int))) (pe_lst (pa_cons (pv 4) pa_nil)) (nomark _)) (pss_one (ps_ret (pv 3))) pss_nil)))
    (pss_one (ps_ret pe_non))), ?_⟩
  refine ⟨.int (n : Int), rfl, .ref a, rfl, a, xs, ss, n, rfl, ea, sl, tb, gd, hn, hl, fun H1 l x1 t1 nl el => ?_⟩
  have ec1 : H1 c = some (.lst (ts.map V.int)) := EX.lst x1 ec
  refine ⟨l, _, rfl, .inl (.inl el), ?_⟩
  refine for_it (walk_enum (K := K) (a := l) (xs := (fsts n ss).map V.int)) (fun i σ H3 => ∃ y3 y4, σ = [some (.int (n : Int)), some (.ref a), some (.ref c), y3, y4] ∧ Same H1 H3 ∧ ∀ j < i, ts[j]? = (fsts n ss)[j]?)
    ⟨none, none, rfl, Same.refl _, fun j hj => absurd hj (Nat.not_lt_zero _)⟩ (fun i σ H3 _ hP => ?_) (fun i v σ H3 H4 hi hP hy => ?_) (fun σ H3 hP => ?_)
  · obtain ⟨_, _, _, sm, _⟩ := hP
    exact .inl (.inl (sm _ _ el))
  · obtain ⟨y3, y4, rfl, sm, ok⟩ := hP
    obtain ⟨T', v1, v2, rfl, nT, rfl, g1, g2⟩ := hy
    cases g1
    have hi' : i < n := by rw [List.length_map, fsts_len] at hi; exact hi
    have g2 : ((fsts n ss).map V.int)[i]? = some v2 := g2
    rw [List.getElem?_map, fsts_get hi'] at g2
    cases g2
    have hf := fsts_get (ss := ss) hi'
    generalize fOf (allCuts (n : Int) ss) (i : Int) = f0 at *
    obtain ⟨z, hz⟩ : ∃ z, ts[i]? = some z := ⟨_, List.getElem?_eq_getElem (by omega)⟩
    have sT := same_upd (o := .tup [.int ((i : Nat) : Int), .int f0]) nT
    refine ⟨T', [.int ((i : Nat) : Int), .int f0], rfl, .inl (.inl upd_same), rfl, _, _, rfl, _, _, rfl, rfl, ?_⟩
    refine ⟨.ref c, rfl, .int (i : Int), rfl, (i : Int), rfl, .int (i : Int), rfl, _, 1, rfl, rfl, (i : Int) + 1, rfl, c, _, rfl, .inl (.inl (sT _ _ (sm _ _ ec1))), fun p np => ?_⟩
    rw [cut_one hz]
    have sp := same_upd (o := .lst [.int z]) np
    refine ⟨.int f0, rfl, (by show 1 ≤ sizeLine; decide), fun p2 np2 => ?_⟩
    have sp2 := same_upd (o := .lst [.int f0]) np2
    have sm4 := sm.trans (sT.trans (sp.trans sp2))
    refine ⟨.list [.int z], .list [.int f0], .lst (.inl (.inl (sp2 _ _ upd_same))) (.cons (.int z) .nil), .lst (.inl (.inl upd_same)) (.cons (.int f0) .nil), rfl, rfl, _, rfl, ?_⟩
    rw [eqv_one]
    by_cases c0 : z = f0
    · rw [decide_eq_true c0]
      refine iteF ?_
      refine ⟨_, _, rfl, sm4, fun j hj => ?_⟩
      by_cases ej : j = i
      · subst ej; rw [hz, hf, c0]
      · exact ok j (by omega)
    · rw [decide_eq_false c0]
      refine iteT ?_
      rw [bad_some hi' ok (by rw [hz, hf]; exact fun e => c0 (Option.some.inj e))] at q
      exact ⟨.int (i : Int), rfl, q _ (x1.trans (EX.of sm4)) (t1.ext sm4)⟩
  · obtain ⟨y3, y4, rfl, sm, ok⟩ := hP
    rw [List.length_map, fsts_len] at ok
    rw [bad_none ok] at q
    exact q H3 (x1.trans (EX.of sm)) (t1.ext sm)
end
end Rep
namespace Rep
open PySem L2
def spMir (K : PySem.W.Frag) (P : Addr) : Sp := fun vs H Q _ => ∃ (a : Addr) (e : Int) (ss : List Sy) (x m : Int), vs = [.int e, .ref a, .int x, .int m] ∧ Song P H a e ss ∧ 0 ≤ x ∧ 1 ≤ m ∧ x + m ≤ e ∧
  ∀ H' (b : Bool), EX H H' → TbO P H' → (b = true ↔ ∀ i, 0 ≤ i → i < m → fOf (allCuts e ss) (x + i) = fOf (allCuts e ss) (x + m - 1 - i)) → Q (.bl b) H'
abbrev nMir : List Str := ["length", "sayings", "at", "many"]
theorem scMir : FnScope nMir ["length", "sayings", "at", "many"] (defScope sMirror) := ⟨rfl, rfl, rfl, by decide +kernel, rfl, by decide +kernel, by decide +kernel⟩
section
variable {Pg : Program} {w : World} {K : PySem.W.Frag} {mg : Str → Option Value} {base : Heap}
theorem ok_mir {f P fA : Addr} {fd fdA : FuncData} {k : Nat} (F : Fun K "mirror" "mirror" sMirror f fd) (GA : FnOk Pg w K mg base CX0 k fA fdA ["length", "sayings", "one", "other", "many", "turned"] (spAlk K P)) (kA : PySem.W.keepIn K (.ref fA) = true) (bA : Binds K fdA ["length", "sayings", "one", "other", "many", "turned"] []) (mA : mg "alike" = some (.ref fA)) : FnOk Pg w K mg base CX0 (k + 1) f fd ["length", "sayings", "at", "many"] (spMir K P) := by
  refine F.ok scMir (fun vs H Q E h => ?_) (fun cdv A outer s H vs Q E hr h => ?_)
  · obtain ⟨a, e, ss, x, m, rfl, _⟩ := h; rfl
  obtain ⟨a, e, ss, x, m, rfl, sg, hx, hm, hxm, q⟩ := h
  refine ⟨_, (pss_one (ps_ret (pe_call GA hr (by rfl) mA kA bA .nil pass0 (pa_cons (pv 0) (pa_cons (pv 1) (pa_cons (pv 2) (pa_cons (pv 2) (pa_cons (pv 3) (pa_cons pe_bl pa_nil))))))))), ?_⟩
  refine ⟨.int e, rfl, .ref a, rfl, .int x, rfl, .int x, rfl, .int m, rfl, a, e, ss, ⟨x, x, m, true⟩, rfl, sg, ⟨hx, hx, hm, hxm, hxm⟩, fun H' b x1 t1 hb => ?_⟩
  refine q H' b x1 t1 (hb.trans ⟨fun h i h1 h2 => h (x + i) (x + m - 1 - i) ?_, fun h u v huv => ?_⟩)
  · show says x x m true (x + i) (x + m - 1 - i)
    rw [says_t]; omega
  · have huv : says x x m true u v := huv
    rw [says_t] at huv
    have := h (u - x) (by omega) (by omega)
    rw [show x + (u - x) = u by omega, show x + m - 1 - (u - x) = v by omega] at this
    exact this
end
end Rep
namespace Rep
open PySem L2
abbrev metF (s : Sy) (i : Int) : Int := cpart s i
def turnS (s : Sy) : Sy := ⟨s.hi, s.lo, s.n, s.t⟩
def besF (s : Sy) (p : Int) : List Int := (if s.lo ≤ p ∧ p < s.lo + s.n then [metF s (p - s.lo)] else []) ++ (if s.hi ≤ p ∧ p < s.hi + s.n then [metF (turnS s) (p - s.hi)] else [])
def leadsF (ss : List Sy) : Int → List Pr → Option Int
  | p, [] => some p
  | p, st :: r => if 0 ≤ st.1 ∧ ∃ s, ss[st.1.toNat]? = some s ∧ st.2 ∈ besF s p then leadsF ss st.2 r else none
def spBes : Sp := fun vs H Q _ => ∃ (v : V) (s : Sy) (p : Int), vs = [v, .int p] ∧ IsSy H v s ∧ ∀ H' l, Same H H' → H l = none → H' l = some (.lst ((besF s p).map V.int)) → Q (.ref l) H'
theorem scBes : FnScope ["saying", "place", "one", "other", "many", "turned", "out"] ["saying", "place"] (defScope sBeside) := ⟨rfl, rfl, rfl, by decide +kernel, rfl, by decide +kernel, by decide +kernel⟩
structure TBes (Pg : Program) (w : World) (K : PySem.W.Frag) (mg : Str → Option Value) (base : Heap) (k : Nat) (fM : Addr) (fdM : FuncData) : Prop where
  gM : FnOk Pg w K mg base CX0 k fM fdM ["saying", "i"] spMet
  bM : Binds K fdM ["saying", "i"] []
  kM : PySem.W.keepIn K (.ref fM) = true
  mM : mg "met" = some (.ref fM)
section
variable {Pg : Program} {w : World} {K : PySem.W.Frag} {mg : Str → Option Value} {base : Heap}
theorem ok_bes {f fM : Addr} {fd fdM : FuncData} {k : Nat} (F : Fun K "beside" "beside" sBeside f fd) (T : TBes Pg w K mg base k fM fdM) : FnOk Pg w K mg base CX0 (k + 1) f fd ["saying", "place"] spBes := by
  refine F.ok scBes (fun vs H Q E h => ?_) (fun cdv A outer s H vs Q E hr h => ?_)
  · obtain ⟨v, s, p, rfl, _⟩ := h; rfl
  obtain ⟨v, s, p, rfl, ⟨t, rfl, ht⟩, q⟩ := h
  refine ⟨_, (pss_cons (ps_asg (pv 0) (pg_tup rfl (pgs_cons (pg_name (i := 2) scBes.nd rfl (.inl rfl)) (pgs_cons (pg_name (i := 3) scBes.nd rfl (.inl rfl)) (pgs_cons (pg_name (i := 4) scBes.nd rfl (.inl rfl)) (pgs_cons (pg_name (i := 5) scBes.nd rfl (.inl rfl)) pgs_nil))))))
    (pss_cons (ps_set (i := 6) scBes.nd rfl (.inl rfl) (pe_lst pa_nil))
    (C8.pss_cut (ps_if (pt_chain op_le op_lt (pv 2) (pv 1) (pe_op op_add (pv 2) (pv 4))) (pss_one (ps_expr (pe_bm PySem.F.plainAttrs_list PySem.F.slot_list_append PySem.F.type_list_append mt_append (pv 6) (pa_cons (pe_call T.gM hr (by rfl) T.mM T.kM T.bM .nil pass0 (pa_cons (pv 0) (pa_cons (pe_op op_sub (pv 1) (pv 2)) pa_nil))) pa_nil)))) pss_nil)
    (pss_cons (ps_if (pt_chain op_le op_lt (pv 3) (pv 1) (pe_op op_add (pv 3) (pv 4))) (pss_one (ps_expr (pe_bm PySem.F.plainAttrs_list PySem.F.slot_list_append PySem.F.type_list_append mt_append (pv 6) (pa_cons (pe_call T.gM hr (by rfl) T.mM T.kM T.bM .nil pass0 (pa_cons (pe_tup (pa_cons (pv 3) (pa_cons (pv 2) (pa_cons (pv 4) (pa_cons (pv 5) pa_nil))))) (pa_cons (pe_op op_sub (pv 1) (pv 3)) pa_nil))) pa_nil)))) pss_nil)
    (pss_one (ps_ret (pv 6))))))), ?_⟩
  refine ⟨.ref t, rfl, t, _, rfl, .inl (.inl ht), rfl, _, _, rfl, _, _, rfl, _, _, rfl, _, _, rfl, rfl, ?_⟩
  refine ⟨(by show 0 ≤ sizeLine; decide), fun o no => ?_⟩
  have s1 := same_upd (o := .lst []) no
  refine ⟨fun σ' H' => σ' = [some (.ref t), some (.int p), some (.int s.lo), some (.int s.hi), some (.int s.n), some (.bl s.t), some (.ref o)] ∧ Same H H' ∧ H' o = some (.lst ((if s.lo ≤ p ∧ p < s.lo + s.n then [metF s (p - s.lo)] else []).map V.int)), ?_, ?_⟩
  · have eo : upd H o (.lst []) o = some (.lst []) := upd_same
    generalize upd H o (.lst []) = H1 at s1 eo ⊢
    refine ⟨.int s.lo, rfl, .int p, rfl, _, _, rfl, rfl, _, rfl, ite2 (fun c => ?_) (fun c => ?_)⟩
    · have c := of_decide_eq_true c
      refine ⟨.int s.lo, rfl, .int s.n, rfl, _, _, rfl, rfl, _, _, rfl, rfl, _, rfl, ite2 (fun d => ?_) (fun d => ?_)⟩
      · have d := of_decide_eq_true d
        refine ⟨.ref o, rfl, .inl ⟨rfl, _, .inl (.inl eo)⟩, .ref t, rfl, .int p, rfl, .int s.lo, rfl, _, _, rfl, rfl, .ref t, s, p - s.lo, rfl, ⟨t, rfl, s1 _ _ ht⟩, ?_⟩
        refine ⟨o, _, _, rfl, rfl, eo, (by show 0 < sizeLine; decide), ?_⟩
        rw [if_pos ⟨c, d⟩]
        exact ⟨rfl, same_over s1 no, upd_same⟩
      · have d : ¬ p < s.lo + s.n := fun z => d (decide_eq_true z)
        rw [if_neg fun z => d z.2]
        exact ⟨rfl, s1, eo⟩
    · have c : ¬ s.lo ≤ p := fun z => c (decide_eq_true z)
      refine ⟨false, rfl, ?_⟩
      refine iteF ?_
      rw [if_neg fun z => c z.1]
      exact ⟨rfl, s1, eo⟩
  rintro σ' H2 ⟨rfl, s2, eo⟩
  have ht2 := s2 _ _ ht
  have eb : (besF s p) = (if s.lo ≤ p ∧ p < s.lo + s.n then [metF s (p - s.lo)] else []) ++ (if s.hi ≤ p ∧ p < s.hi + s.n then [metF (turnS s) (p - s.hi)] else []) := rfl
  have hl : (if s.lo ≤ p ∧ p < s.lo + s.n then [metF s (p - s.lo)] else ([] : List Int)).length ≤ 1 := by split <;> simp
  generalize (if s.lo ≤ p ∧ p < s.lo + s.n then [metF s (p - s.lo)] else ([] : List Int)) = l1 at eo eb hl
  refine ⟨.int s.hi, rfl, .int p, rfl, _, _, rfl, rfl, _, rfl, ite2 (fun c => ?_) (fun c => ?_)⟩
  · have c := of_decide_eq_true c
    refine ⟨.int s.hi, rfl, .int s.n, rfl, _, _, rfl, rfl, _, _, rfl, rfl, _, rfl, ite2 (fun d => ?_) (fun d => ?_)⟩
    · have d := of_decide_eq_true d
      refine ⟨.ref o, rfl, .inl ⟨rfl, _, .inl (.inl eo)⟩, .int s.hi, rfl, .int s.lo, rfl, .int s.n, rfl, .bl s.t, rfl, (by show 4 ≤ sizeLine; decide), fun t2 nt2 => ?_⟩
      have s3 := same_upd (o := .tup [.int s.hi, .int s.lo, .int s.n, .bl s.t]) nt2
      refine ⟨.int p, rfl, .int s.hi, rfl, _, _, rfl, rfl, .ref t2, turnS s, p - s.hi, rfl, IsSy.of upd_same, ?_⟩
      refine ⟨o, _, _, rfl, rfl, s3 _ _ eo, by rw [List.length_map]; exact Nat.lt_of_le_of_lt hl (by decide), ?_⟩
      refine ⟨.ref o, rfl, q _ o (same_over (s2.trans s3) no) no ?_⟩
      rw [eb, if_pos ⟨c, d⟩, upd_same, List.map_append]; rfl
    · have d : ¬ p < s.hi + s.n := fun z => d (decide_eq_true z)
      refine ⟨.ref o, rfl, q _ o s2 no ?_⟩
      rw [eb, if_neg fun z => d z.2, List.append_nil]; exact eo
  · have c : ¬ s.hi ≤ p := fun z => c (decide_eq_true z)
    refine ⟨false, rfl, ?_⟩
    refine iteF ?_
    refine ⟨.ref o, rfl, q _ o s2 no ?_⟩
    rw [eb, if_neg fun z => c z.1, List.append_nil]; exact eo
end
theorem in_ints (x : Int) : ∀ l : List Int, inV (.int x) (l.map V.int) = decide (x ∈ l)
  | [] => rfl
  | y :: r => by
    show (eqV (.int y) (.int x) || inV (.int x) (r.map V.int)) = _
    rw [in_ints x r]
    show ((y == x) || decide (x ∈ r)) = decide (x ∈ y :: r)
    by_cases c : x = y
    · subst c
      simp
    · have c' : (y == x) = false := by simp; exact fun z => c z.symm
      rw [c', Bool.false_or, decide_eq_decide, List.mem_cons]
      exact ⟨.inr, fun h => h.resolve_left c⟩
theorem flat_ints : ∀ l : List Int, (l.map V.int).all flatV = true
  | [] => rfl
  | _ :: r => by
    show (true && (r.map V.int).all flatV) = true
    rw [flat_ints r]; rfl
def oV : Option Int → V
  | none => .non
  | some z => .int z
end Rep
namespace Rep
open PySem L2
/-! breadth first: distances, and what came_from keeps -/
inductive Reach (A : Int → Int → Prop) (a : Int) : Nat → Int → Prop
  | zero : Reach A a 0 a
  | step {m : Nat} {p q : Int} : Reach A a m p → A p q → Reach A a (m + 1) q
def Dist (A : Int → Int → Prop) (a z : Int) (m : Nat) : Prop := Reach A a m z ∧ ∀ m', m' < m → ¬ Reach A a m' z
theorem dist_self {A : Int → Int → Prop} {a : Int} : Dist A a a 0 := ⟨.zero, fun m' h => absurd h (Nat.not_lt_zero _)⟩
theorem dist_uniq {A : Int → Int → Prop} {a z : Int} {m m' : Nat} (d : Dist A a z m) (d' : Dist A a z m') : m = m' := by
  rcases Nat.lt_trichotomy m m' with c | c | c
  · exact absurd d.1 (d'.2 m c)
  · exact c
  · exact absurd d'.1 (d.2 m' c)
theorem dist_pred {A : Int → Int → Prop} {a z : Int} {m : Nat} (d : Dist A a z (m + 1)) : ∃ p, Dist A a p m ∧ A p z := by
  obtain ⟨r, no⟩ := d
  cases r with
  | step rp h => exact ⟨_, ⟨rp, fun m' hm r' => no (m' + 1) (by omega) (.step r' h)⟩, h⟩
theorem dist_of {A : Int → Int → Prop} {a z : Int} : ∀ (m : Nat), Reach A a m z → ∃ m', m' ≤ m ∧ Dist A a z m' := by
  intro m
  induction m using Nat.strongRecOn with
  | _ m ih =>
    intro r
    by_cases c : ∃ m', m' < m ∧ Reach A a m' z
    · obtain ⟨m', h, r'⟩ := c
      obtain ⟨m2, h2, d⟩ := ih m' h r'
      exact ⟨m2, by omega, d⟩
    · exact ⟨m, Nat.le_refl _, r, fun m' h r' => c ⟨m', h, r'⟩⟩
theorem dist_upto {A : Int → Int → Prop} {a z : Int} : ∀ {m r : Nat}, Dist A a z m → r ≤ m → ∃ q, Dist A a q r
  | 0, r, d, h => ⟨z, by rw [show r = 0 by omega]; exact d⟩
  | m + 1, r, d, h => by
    by_cases c : r = m + 1
    · exact ⟨z, by rw [c]; exact d⟩
    · obtain ⟨p, dp, _⟩ := dist_pred d
      exact dist_upto dp (by omega)
theorem nodup_le : ∀ (n : Nat) (l : List Int), l.Nodup → (∀ x ∈ l, 0 ≤ x ∧ x < (n : Int)) → l.length ≤ n
  | 0, l, _, h => by
    cases l with
    | nil => exact Nat.le_refl _
    | cons x r => have := h x List.mem_cons_self; omega
  | n + 1, l, nd, h => by
    have ih := nodup_le n (l.filter fun x => decide (x < (n : Int))) (nd.filter _) fun x hx => by
      obtain ⟨h1, h2⟩ := List.mem_filter.mp hx
      exact ⟨(h x h1).1, of_decide_eq_true h2⟩
    have key : ∀ l : List Int, l.Nodup → (∀ x ∈ l, 0 ≤ x ∧ x < ((n + 1 : Nat) : Int)) → l.length ≤ (l.filter fun x => decide (x < (n : Int))).length + 1 := by
      intro l
      induction l with
      | nil => intro _ _; exact Nat.zero_le _
      | cons x r ihr =>
        intro nd h
        obtain ⟨h1, h2⟩ := List.nodup_cons.mp nd
        have hr := ihr h2 fun y hy => h y (List.mem_cons_of_mem _ hy)
        by_cases c : x < (n : Int)
        · rw [List.filter_cons_of_pos (by simpa using c), List.length_cons, List.length_cons]; omega
        · rw [List.filter_cons_of_neg (by simpa using c), List.length_cons]
          have e : r.filter (fun y => decide (y < (n : Int))) = r := List.filter_eq_self.mpr fun y hy => decide_eq_true (by
            have h3 := h x List.mem_cons_self
            have h4 := h y (List.mem_cons_of_mem _ hy)
            have h5 : y ≠ x := fun z => h1 (z ▸ hy)
            push_cast at h3 h4
            omega)
          rw [e]; omega
    have := key l nd h
    omega
def AdjS (ss : List Sy) (p q : Int) : Prop := ∃ s ∈ ss, q ∈ besF s p
theorem bes_in {n : Int} {s : Sy} (g : Good n s) {p q : Int} (h : q ∈ besF s p) : 0 ≤ q ∧ q < n := by
  obtain ⟨g1, g2, g3, g4, g5⟩ := g
  unfold besF metF turnS cpart at h
  rcases List.mem_append.mp h with h | h
  · split at h
    · rw [List.mem_singleton] at h; (try dsimp only at h); split at h <;> omega
    · cases h
  · split at h
    · rw [List.mem_singleton] at h; (try dsimp only at h); split at h <;> omega
    · cases h
/-- a place come to, with the place and the saying that it came from -/
structure Ent where
  pl : Int
  fr : Option (Int × Nat)
def keysE (es : List Ent) : List Int := es.map Ent.pl
def kvE (es : List Ent) (vs : List V) : List (Key × V) := List.zipWith (fun e v => ((Sum.inl e.pl : Key), v)) es vs
def EntAt (H : Hp) (v : V) (e : Ent) : Prop := match e.fr with
  | none => v = .non
  | some (p, k) => ∃ t, v = .ref t ∧ H t = some (.tup [.int p, .int (k : Int)])
theorem EntAt.ts {H H' : Hp} (h : TS H H') {v : V} {e : Ent} (k : EntAt H v e) : EntAt H' v e := by
  unfold EntAt at k ⊢
  split
  · rename_i c; rw [c] at k; exact k
  · rename_i p k' c
    rw [c] at k
    obtain ⟨t, e1, e2⟩ := k
    exact ⟨t, e1, h _ _ e2⟩
def CamAt (H : Hp) (c : Addr) (es : List Ent) : Prop := ∃ vs, H c = some (.dK (kvE es vs)) ∧ LL EntAt H vs es
theorem kvE_len (es : List Ent) (vs : List V) : (kvE es vs).length ≤ es.length := by
  unfold kvE; rw [List.length_zipWith]; omega
theorem kvE_none {q : Int} : ∀ {es : List Ent} {vs : List V}, q ∉ keysE es → valV (kvE es vs) (Sum.inl q) = none
  | [], vs, _ => by unfold kvE; rw [List.zipWith_nil_left]; rfl
  | e :: es, [], _ => rfl
  | e :: es, v :: vs, h => by
    have h1 : ¬ ((Sum.inl e.pl : Key) = Sum.inl q) := fun z => h (List.mem_cons.mpr (.inl (Sum.inl.inj z).symm))
    show valV (((Sum.inl e.pl : Key), v) :: kvE es vs) _ = none
    rw [valV_neg h1]
    exact kvE_none fun z => h (List.mem_cons_of_mem _ z)
theorem kvE_some : ∀ {es : List Ent} {vs : List V} {i : Nat} {e : Ent} {v : V}, (keysE es).Nodup → es[i]? = some e → vs[i]? = some v → valV (kvE es vs) (Sum.inl e.pl) = some v
  | [], _, _, _, _, _, h, _ => by simp at h
  | _ :: _, [], _, _, _, _, _, h => by simp at h
  | e0 :: es, v0 :: vs, 0, e, v, nd, he, hv => by
    cases he; cases hv
    show valV (((Sum.inl e0.pl : Key), v0) :: kvE es vs) _ = _
    rw [valV_pos rfl]
  | e0 :: es, v0 :: vs, i + 1, e, v, nd, he, hv => by
    obtain ⟨h1, h2⟩ := List.nodup_cons.mp (show (e0.pl :: keysE es).Nodup from nd)
    have he : es[i]? = some e := he
    have hv : vs[i]? = some v := hv
    have hn : ¬ ((Sum.inl e0.pl : Key) = Sum.inl e.pl) := fun z => h1 ((Sum.inl.inj z) ▸ List.mem_map.mpr ⟨e, List.mem_of_getElem? he, rfl⟩)
    show valV (((Sum.inl e0.pl : Key), v0) :: kvE es vs) _ = _
    rw [valV_neg hn]
    exact kvE_some h2 he hv
theorem kvE_put {es : List Ent} {vs : List V} {e : Ent} {v : V} (hl : vs.length = es.length) (h : e.pl ∉ keysE es) : kvE (es ++ [e]) (vs ++ [v]) = putK (kvE es vs) (Sum.inl e.pl) v := by
  rw [putK_new v (kvE_none h)]
  unfold kvE
  rw [List.zipWith_append hl.symm]
  rfl
structure Came (ss : List Sy) (o : Int) (es : List Ent) : Prop where
  nd : (keysE es).Nodup
  fr : ∀ e ∈ es, (e.fr = none ∧ e.pl = o) ∨ ∃ (p : Int) (k : Nat) (s : Sy) (m : Nat), e.fr = some (p, k) ∧ ss[k]? = some s ∧ e.pl ∈ besF s p ∧ Dist (AdjS ss) o p m ∧ Dist (AdjS ss) o e.pl (m + 1)
theorem Came.in_ {ss : List Sy} {o : Int} {es : List Ent} {n : Nat} (c : Came ss o es) (gd : ∀ s ∈ ss, Good (n : Int) s) (o0 : 0 ≤ o) (o1 : o < (n : Int)) (q : Int) (h : q ∈ keysE es) : 0 ≤ q ∧ q < (n : Int) := by
  obtain ⟨e, he, rfl⟩ := List.mem_map.mp h
  rcases c.fr e he with ⟨_, z⟩ | ⟨p, k, s, m, _, hs, hq, _⟩
  · rw [z]; exact ⟨o0, o1⟩
  · exact bes_in (gd s (List.mem_of_getElem? hs)) hq
theorem Came.len {ss : List Sy} {o : Int} {es : List Ent} {n : Nat} (c : Came ss o es) (gd : ∀ s ∈ ss, Good (n : Int) s) (o0 : 0 ≤ o) (o1 : o < (n : Int)) : es.length ≤ n := by
  have := nodup_le n (keysE es) c.nd fun x hx => c.in_ gd o0 o1 x hx
  unfold keysE at this
  rw [List.length_map] at this
  exact this
/-- in the middle of a round -/
structure Mid (ss : List Sy) (o : Int) (r : Nat) (rs ks0 fr : List Int) (es : List Ent) : Prop where
  cm : Came ss o es
  keys : keysE es = ks0 ++ fr
  rsD : ∀ q, q ∈ rs ↔ Dist (AdjS ss) o q r
  ks : ∀ q, q ∈ ks0 ↔ ∃ m, m ≤ r ∧ Dist (AdjS ss) o q m
  frD : ∀ q ∈ fr, Dist (AdjS ss) o q (r + 1)
theorem dist_zero {A : Int → Int → Prop} {a z : Int} (d : Dist A a z 0) : z = a := by
  obtain ⟨r, _⟩ := d
  cases r; rfl
theorem Mid.start (ss : List Sy) (o : Int) : Mid ss o 0 [o] [o] [] [⟨o, none⟩] := by
  refine ⟨⟨by simp [keysE], fun e he => .inl ?_⟩, rfl, fun q => ⟨fun h => ?_, fun d => ?_⟩, fun q => ⟨fun h => ?_, fun ⟨m, hm, d⟩ => ?_⟩, fun q h => by cases h⟩
  · rw [List.mem_singleton] at he; subst he; exact ⟨rfl, rfl⟩
  · rw [List.mem_singleton.mp h]; exact dist_self
  · rw [dist_zero d]; exact List.mem_singleton.mpr rfl
  · rw [List.mem_singleton.mp h]; exact ⟨0, Nat.le_refl _, dist_self⟩
  · rw [show m = 0 by omega] at d; rw [dist_zero d]; exact List.mem_singleton.mpr rfl
section
variable {ss : List Sy} {o : Int} {r : Nat} {rs ks0 fr : List Int} {es : List Ent}
theorem Mid.end_ (h : Mid ss o r [] ks0 [] es) (q : Int) : q ∈ keysE es ↔ ∃ m, Dist (AdjS ss) o q m := by
  rw [h.keys, List.append_nil, h.ks]
  constructor
  · rintro ⟨m, _, d⟩; exact ⟨m, d⟩
  · rintro ⟨m, d⟩
    refine ⟨m, ?_, d⟩
    by_cases c : m ≤ r
    · exact c
    · obtain ⟨q', d'⟩ := dist_upto d (show r ≤ m by omega)
      exact absurd ((h.rsD q').mpr d') (by simp)
theorem Mid.visit (h : Mid ss o r rs ks0 fr es) {p to : Int} {j : Nat} {s : Sy} (hp : p ∈ rs) (hs : ss[j]? = some s) (hq : to ∈ besF s p) (hn : to ∉ keysE es) : Mid ss o r rs ks0 (fr ++ [to]) (es ++ [⟨to, some (p, j)⟩]) := by
  have dp := (h.rsD p).mp hp
  have dt : Dist (AdjS ss) o to (r + 1) := by
    refine ⟨.step dp.1 ⟨s, List.mem_of_getElem? hs, hq⟩, fun m' hm rm => hn ?_⟩
    obtain ⟨m2, h2, d2⟩ := dist_of m' rm
    rw [h.keys]
    exact List.mem_append_left _ ((h.ks to).mpr ⟨m2, by omega, d2⟩)
  refine ⟨⟨?_, fun e he => ?_⟩, ?_, h.rsD, h.ks, fun q hq => ?_⟩
  · show ((es ++ [(⟨to, some (p, j)⟩ : Ent)]).map Ent.pl).Nodup
    rw [List.map_append]
    refine List.nodup_append.mpr ⟨h.cm.nd, by simp, fun a ha b hb => ?_⟩
    rintro rfl
    rw [List.map_singleton, List.mem_singleton] at hb
    have hb : a = to := hb
    rw [hb] at ha
    exact hn ha
  · rcases List.mem_append.mp he with he | he
    · exact h.cm.fr e he
    · rw [List.mem_singleton] at he; subst he
      exact .inr ⟨p, j, s, r, rfl, hs, hq, dp, dt⟩
  · show (es ++ [(⟨to, some (p, j)⟩ : Ent)]).map Ent.pl = _
    rw [List.map_append, ← List.append_assoc]
    show keysE es ++ [to] = _
    rw [h.keys]
  · rcases List.mem_append.mp hq with hq | hq
    · exact h.frD q hq
    · rw [List.mem_singleton.mp hq]; exact dt
theorem Mid.over (h : Mid ss o r rs ks0 fr es) (all : ∀ p ∈ rs, ∀ s ∈ ss, ∀ q ∈ besF s p, q ∈ keysE es) : Mid ss o (r + 1) fr (ks0 ++ fr) [] es := by
  have sub : ∀ q, Dist (AdjS ss) o q (r + 1) → q ∈ fr := fun q d => by
    obtain ⟨p, dp, s, hs, hq⟩ := dist_pred d
    have hk := all p ((h.rsD p).mpr dp) s hs q hq
    rw [h.keys] at hk
    rcases List.mem_append.mp hk with hk | hk
    · obtain ⟨m, hm, d'⟩ := (h.ks q).mp hk
      have := dist_uniq d d'
      omega
    · exact hk
  refine ⟨h.cm, by rw [h.keys, List.append_nil], fun q => ⟨h.frD q, sub q⟩, fun q => ?_, fun q hq => by cases hq⟩
  rw [List.mem_append, h.ks]
  constructor
  · rintro (⟨m, hm, d⟩ | hq)
    · exact ⟨m, by omega, d⟩
    · exact ⟨r + 1, Nat.le_refl _, h.frD q hq⟩
  · rintro ⟨m, hm, d⟩
    by_cases c : m ≤ r
    · exact .inl ⟨m, c, d⟩
    · exact .inr (sub q (by rw [show r + 1 = m by omega]; exact d))
end
def spCf (K : PySem.W.Frag) : Sp := fun vs H Q _ => ∃ (a : Addr) (xs : List V) (ss : List Sy) (o : Int) (n : Nat), vs = [.ref a, .int o] ∧ SqL K H a xs ∧ SL H xs ss ∧ (∀ s ∈ ss, Good (n : Int) s) ∧ ss.length ≤ 1000 ∧ n ≤ 1000 ∧ 0 ≤ o ∧ o < (n : Int) ∧
  ∀ H' c es, Same H H' → H c = none → CamAt H' c es → Came ss o es → (∀ q, q ∈ keysE es ↔ ∃ m, Dist (AdjS ss) o q m) → Q (.ref c) H'
end Rep
namespace Rep
open PySem L2
abbrev nCf : List Str := ["sayings", "one", "came", "reached", "fresh", "place", "k", "saying", "to"]
theorem scCf : FnScope nCf ["sayings", "one"] (defScope sCame_from) := ⟨rfl, rfl, rfl, by decide +kernel, rfl, by decide +kernel, by decide +kernel⟩
structure TCf (Pg : Program) (w : World) (K : PySem.W.Frag) (mg : Str → Option Value) (base : Heap) (fB : Addr) (fdB : FuncData) : Prop where
  gB : FnOk Pg w K mg base CX0 7 fB fdB ["saying", "place"] (spBes)
  bB : Binds K fdB ["saying", "place"] []
  kB : PySem.W.keepIn K (.ref fB) = true
  mB : mg "beside" = some (.ref fB)
  menumerate : mg "enumerate" = none
section
variable {Pg : Program} {w : World} {K : PySem.W.Frag} {mg : Str → Option Value} {base : Heap}
theorem ok_cf {f fB : Addr} {fd fdB : FuncData} (F : Fun K "came_from" "came_from" sCame_from f fd) (T : TCf Pg w K mg base fB fdB) : FnOk Pg w K mg base CX0 8 f fd ["sayings", "one"] (spCf K) := by
  refine F.ok scCf (fun vs H Q E h => ?_) (fun cdv A outer s H vs Q E hr h => ?_)
  · obtain ⟨a, xs, ss, o, n, rfl, _⟩ := h; rfl
  obtain ⟨a, xs, ss, o, n, rfl, hX, sl, gd, hl, hn, o0, o1, q⟩ := h
  have hu := hu_of hr
  refine ⟨_, (C8.pss_cut (ps_set (i := 2) scCf.nd rfl (.inl rfl) (pe_disp (pps_cons (pv 1) pe_non pps_nil) rfl rfl (by simp) (by decide)))
    (C8.pss_cut (ps_set (i := 3) scCf.nd rfl (.inl rfl) (pe_lst (pa_cons (pv 1) pa_nil)))
    (pss_cons (ps_while PassesOwn.never (pt_truth (pv 3) (by intro _; rfl))
      (pss_cons (ps_set (i := 4) scCf.nd rfl (.inl rfl) (pe_lst pa_nil))
    (C8.pss_cut (ps_for PassesOwn.never rfl (pi_list (pv 3)) (pg_name (i := 5) scCf.nd rfl (.inl rfl))
      (pss_one (ps_for PassesOwn.never rfl (pi_enum (by rfl) T.menumerate (pa_cons (pv 0) pa_nil)) (pg_tup rfl (pgs_cons (pg_name (i := 6) scCf.nd rfl (.inl rfl)) (pgs_cons (pg_name (i := 7) scCf.nd rfl (.inl rfl)) pgs_nil)))
      (pss_one (ps_for PassesOwn.never rfl (pi_list (pe_call T.gB hr (by rfl) T.mB T.kB T.bB .nil pass0 (pa_cons (pv 7) (pa_cons (pv 5) pa_nil)))) (pg_name (i := 8) scCf.nd rfl (.inl rfl))
      (pss_one (ps_if (pt_cmp (pc_dnotin hu (pv 8) (pv 2))) (pss_cons (ps_dput hu (pv 2) (pv 8) (pe_tup (pa_cons (pv 5) (pa_cons (pv 6) pa_nil))) rfl)
    (pss_one (ps_expr (pe_bm PySem.F.plainAttrs_list PySem.F.slot_list_append PySem.F.type_list_append mt_append (pv 4) (pa_cons (pv 8) pa_nil))))) pss_nil)))))))
    (pss_one (ps_set (i := 3) scCf.nd rfl (.inl rfl) (pv 4))))))
    (pss_one (ps_ret (pv 2)))))), ?_⟩
  -- the dict
  refine ⟨fun σ' H' => ∃ c, σ' = [some (.ref a), some (.int o), some (.ref c), none, none, none, none, none, none] ∧ Same H H' ∧ H c = none ∧ H' c = some (.dK (kvE [⟨o, none⟩] [.non])), ?_, ?_⟩
  · intro c nc
    refine ⟨.int o, rfl, ?_⟩
    refine ⟨upd_same, [(Sum.inl o, .non)], rfl, by show 1 ≤ 15; decide, ?_⟩
    exact ⟨c, rfl, same_over (same_upd nc) nc, nc, upd_same⟩
  rintro σ' H1 ⟨c, rfl, s1, nc, ec⟩
  refine ⟨fun σ' H' => ∃ rA, σ' = [some (.ref a), some (.int o), some (.ref c), some (.ref rA), none, none, none, none, none] ∧ Same H1 H' ∧ H' rA = some (.lst ([o].map V.int)), ?_, ?_⟩
  · refine ⟨.int o, rfl, ?_⟩
    refine ⟨szN 1 rfl, fun rA n_rA => ?_⟩
    generalize e_rA : upd H1 rA _ = H2
    have s2 := new_same e_rA n_rA
    have z2 := new_at e_rA
    clear e_rA
    exact ⟨rA, rfl, s2, z2⟩
  rintro σ' H2 ⟨rA, rfl, s2, er⟩
  replace s1 := s1.trans s2
  replace ec := s2 _ _ ec
  refine ⟨fun m σ H' => ∃ (r : Nat) (rA : Addr) (rs ks0 : List Int) (es : List Ent) (y4 y5 y6 y7 y8 : Option V), σ = [some (.ref a), some (.int o), some (.ref c), some (.ref rA), y4, y5, y6, y7, y8] ∧ Same H H' ∧ CamAt H' c es ∧ H' rA = some (.lst (rs.map V.int)) ∧ Mid ss o r rs ks0 [] es ∧ rs.length ≤ n ∧ m = 2 * (n - es.length) + (if rs = [] then 0 else 1),
    ⟨_, 0, rA, [o], [o], [⟨o, none⟩], none, none, none, none, none, rfl, s1, ⟨[.non], ec, .one rfl⟩, er, Mid.start ss o, by show 1 ≤ n; omega, rfl⟩, ?_⟩
  rintro m σ H3 ⟨r, rA, rs, ks0, es, y4, y5, y6, y7, y8, rfl, s3, ca, er, md, lr, rfl⟩
  refine ⟨.ref rA, rfl, !(rs.map V.int).isEmpty, .inl ⟨_, .inl (.inl er), rfl⟩, ?_⟩
  have eL := md.cm.len gd o0 o1
  cases hrs : rs with
  | nil =>
    subst hrs
    refine iteF ?_
    exact ⟨.ref c, rfl, q H3 c es s3 nc ca md.cm md.end_⟩
  | cons x0 rs0 =>
    refine iteT ?_
    rw [← hrs]
    have v1 : (if rs = [] then 0 else 1) = 1 := by rw [if_neg (by rw [hrs]; simp)]
    rw [v1]
    clear hrs
    refine ⟨fun σ' H' => ∃ (rB : Addr) (fr : List Int) (es' : List Ent) (y4 y5 y6 y7 y8 : Option V), σ' = [some (.ref a), some (.int o), some (.ref c), some (.ref rB), y4, y5, y6, y7, y8] ∧ Same H H' ∧ CamAt H' c es' ∧ H' rB = some (.lst (fr.map V.int)) ∧ Mid ss o (r + 1) fr (ks0 ++ fr) [] es' ∧ es'.length = es.length + fr.length, fun σ' H' hN => ?_, ?_⟩
    · obtain ⟨rB, fr, es', y4, y5, y6, y7, y8, e1, e2, e3, e4, e5, e6⟩ := hN
      have eL' := e5.cm.len gd o0 o1
      refine ⟨_, ?_, r + 1, rB, fr, ks0 ++ fr, es', y4, y5, y6, y7, y8, e1, e2, e3, e4, e5, by omega, rfl⟩
      split
      · omega
      · rename_i z
        have : 0 < fr.length := List.length_pos_iff.mpr z
        omega
    refine ⟨szN 0 rfl, fun fA n_fA => ?_⟩
    generalize e_fA : upd H3 fA _ = H4
    have s4 := new_same e_fA n_fA
    have z4 := new_at e_fA
    clear e_fA
    have nf : H fA = none := by
      cases e : H fA with
      | none => rfl
      | some u => rw [s3 _ _ e] at n_fA; cases n_fA
    have cf : c ≠ fA := fun z => by
      obtain ⟨vs, h1, _⟩ := ca
      rw [z, n_fA] at h1; cases h1
    have ca4 : CamAt H4 c es := by
      obtain ⟨vs, h1, h2⟩ := ca
      exact ⟨vs, s4 _ _ h1, h2.imp fun _ _ z => z.ts (TS.of s4)⟩
    have md0 : Mid ss o r rs ks0 [] es := md
    have er4 := s4 _ _ er
    have hX4 := (s3.trans s4).seq hX
    have sl4 := SL.ts (TS.of (s3.trans s4)) sl
    -- what a round keeps
    let Rd : Hp → List Int → List Ent → Prop := fun H' fr es' => (∀ b u, H4 b = some u → b ≠ c → b ≠ fA → H' b = some u) ∧ CamAt H' c es' ∧ H' fA = some (.lst (fr.map V.int)) ∧ Mid ss o r rs ks0 fr es' ∧ es'.length = es.length + fr.length
    let Dn : Nat → List Ent → Prop := fun i es' => ∀ i', i' < i → ∀ p, rs[i']? = some p → ∀ s ∈ ss, ∀ q ∈ besF s p, q ∈ keysE es'
    have rd0 : Rd H4 [] es := ⟨fun b u e _ _ => e, ca4, z4, md, rfl⟩
    have fin : ∀ H' fr es', Rd H' fr es' → Same H H' := fun H' fr es' h b u e => h.1 b u (s4 _ _ (s3 _ _ e)) (fun z => by rw [z, nc] at e; cases e) (fun z => by rw [z, nf] at e; cases e)
    refine ⟨fun σ' H' => ∃ fr es' y5 y6 y7 y8, σ' = [some (.ref a), some (.int o), some (.ref c), some (.ref rA), some (.ref fA), y5, y6, y7, y8] ∧ Rd H' fr es' ∧ Dn rs.length es', ?_, ?_⟩
    · refine ⟨.ref rA, rfl, rA, rfl, ⟨_, .inl (.inl er4)⟩, for_list (xs := rs.map V.int) (fun i σ' H' => ∃ fr es' y5 y6 y7 y8, σ' = [some (.ref a), some (.int o), some (.ref c), some (.ref rA), some (.ref fA), y5, y6, y7, y8] ∧ Rd H' fr es' ∧ Dn i es') ⟨[], es, y5, y6, y7, y8, rfl, rd0, fun i' hi => absurd hi (Nat.not_lt_zero _)⟩ (fun i σ' H' _ hP => ?_) (fun i v σ' H5 hv hP => ?_) (fun σ' H' hP => by rw [List.length_map] at hP; exact hP)⟩
      · obtain ⟨_, _, _, _, _, _, _, rd, _⟩ := hP
        exact .inl (.inl (rd.1 _ _ er4 (fun z => by
          obtain ⟨vs, h1, _⟩ := ca4
          rw [z, h1] at er4; cases er4) fun z => by rw [z, n_fA] at er; cases er))
      · obtain ⟨fr, es', y5, y6, y7, y8, rfl, rd, dn⟩ := hP
        rw [List.getElem?_map] at hv
        obtain ⟨p, hp, rfl⟩ := Option.map_eq_some_iff.mp hv
        have hpm := List.mem_of_getElem? hp
        let D2 : Nat → List Ent → Prop := fun j es' => ∀ j', j' < j → ∀ s, ss[j']? = some s → ∀ q ∈ besF s p, q ∈ keysE es'
        have hX5 : ∀ H' fr es', Rd H' fr es' → SqL K H' a xs := fun H' fr es' h => (fin _ _ _ h).seq hX
        refine ⟨.ref a, rfl, a, xs, rfl, hX5 _ _ _ rd, ?_⟩
        refine for_it (walk_enum (K := K) (a := a) (xs := xs)) (fun j σ' H' => ∃ fr es' y6 y7 y8, σ' = [some (.ref a), some (.int o), some (.ref c), some (.ref rA), some (.ref fA), some (.int p), y6, y7, y8] ∧ Rd H' fr es' ∧ Dn i es' ∧ D2 j es') ⟨fr, es', y6, y7, y8, rfl, rd, dn, fun j' hj => absurd hj (Nat.not_lt_zero _)⟩ (fun j σ' H' _ hP => ?_) (fun j v σ' H6 H7 hj hP hy => ?_) (fun σ' H' hP => ?_)
        · obtain ⟨_, _, _, _, _, _, rd, _⟩ := hP
          exact hX5 _ _ _ rd
        · obtain ⟨fr, es', y6, y7, y8, rfl, rd, dn, d2⟩ := hP
          obtain ⟨T', v1, v2, rfl, nT, rfl, g1, g2⟩ := hy
          cases g1
          have g2 : xs[j]? = some v2 := g2
          obtain ⟨u, hu_, iu⟩ := sl.get g2
          have hum := List.mem_of_getElem? hu_
          have sT := same_upd (o := .tup [.int ((j : Nat) : Int), v2]) nT
          have eT : upd H6 T' (.tup [.int ((j : Nat) : Int), v2]) T' = some (.tup [.int ((j : Nat) : Int), v2]) := upd_same
          generalize upd H6 T' (.tup [.int ((j : Nat) : Int), v2]) = H7 at sT eT ⊢
          have rdS : ∀ {A B : Hp} {fr es'}, Rd A fr es' → Same A B → Rd B fr es' := fun {A B fr es'} h sm => ⟨fun b w e n1 n2 => sm _ _ (h.1 b w e n1 n2), (by
            obtain ⟨vs, h1, h2⟩ := h.2.1
            exact ⟨vs, sm _ _ h1, h2.imp fun _ _ z => z.ts (TS.of sm)⟩), sm _ _ h.2.2.1, h.2.2.2.1, h.2.2.2.2⟩
          replace rd := rdS rd sT
          refine ⟨T', _, rfl, .inl (.inl eT), rfl, _, _, rfl, _, _, rfl, rfl, ?_⟩
          refine ⟨v2, rfl, .int p, rfl, v2, u, p, rfl, iu.ts (TS.of (fin _ _ _ rd)), fun H8 l s8 nl el => ?_⟩
          have lf : l ≠ fA := fun z => by rw [z, rd.2.2.1] at nl; cases nl
          replace rd := rdS rd s8
          have lc : l ≠ c := fun z => by
            obtain ⟨vs, h1, _⟩ := rd.2.1
            rw [z, h1] at el; cases el
          refine ⟨l, rfl, ⟨_, .inl (.inl el)⟩, for_list (xs := (besF u p).map V.int) (fun t σ' H' => ∃ fr es' y8, σ' = [some (.ref a), some (.int o), some (.ref c), some (.ref rA), some (.ref fA), some (.int p), some (.int ((j : Nat) : Int)), some v2, y8] ∧ Rd H' fr es' ∧ Dn i es' ∧ D2 j es' ∧ (∀ t', t' < t → ∀ q, (besF u p)[t']? = some q → q ∈ keysE es') ∧ H' l = some (.lst ((besF u p).map V.int))) ⟨fr, es', y8, rfl, rd, dn, d2, fun t' ht => absurd ht (Nat.not_lt_zero _), el⟩ (fun t σ' H' _ hP => ?_) (fun t v σ' H9 hv hP => ?_) (fun σ' H' hP => ?_)⟩
          · obtain ⟨_, _, _, _, _, _, _, _, el⟩ := hP
            exact .inl (.inl el)
          · obtain ⟨fr, es', y8, rfl, rd, dn, d2, d3, el⟩ := hP
            rw [List.getElem?_map] at hv
            obtain ⟨to, hto, rfl⟩ := Option.map_eq_some_iff.mp hv
            have hq := List.mem_of_getElem? hto
            obtain ⟨k1, ⟨vs, ec, ll⟩, ef, md', ln⟩ := id rd
            refine ⟨.int to, rfl, .ref c, rfl, c, _, rfl, DGet.k (k := Sum.inl to) ec, _, rfl, ?_⟩
            by_cases c1 : to ∈ keysE es'
            · obtain ⟨e, he, ee⟩ := List.mem_map.mp c1
              obtain ⟨ie, hie⟩ := List.mem_iff_getElem?.mp he
              obtain ⟨v, hv, _⟩ := ll.get' hie
              have hval := kvE_some md'.cm.nd hie hv
              rw [ee] at hval
              rw [hval]
              refine iteF ?_
              refine ⟨fr, es', _, rfl, rd, dn, d2, fun t' ht q hq' => ?_, el⟩
              by_cases ct : t' < t
              · exact d3 t' ct q hq'
              · have e : t' = t := by omega
                subst e; rw [hto] at hq'; cases hq'; exact c1
            · rw [kvE_none c1]
              refine iteT ?_
              have eL' := md'.cm.len gd o0 o1
              have hsz : (kvE es' vs).length < sizeLine := Nat.lt_of_le_of_lt (Nat.le_trans (kvE_len es' vs) (show es'.length ≤ 1000 by omega)) (by decide)
              refine ⟨.int p, rfl, .int ((j : Nat) : Int), rfl, ?_⟩
              refine ⟨szN 2 rfl, fun t2 n_t2 => ?_⟩
              generalize e_t2 : upd H9 t2 _ = HA
              have sA := new_same e_t2 n_t2
              have zA := new_at e_t2
              clear e_t2
              refine ⟨.ref c, rfl, .int to, rfl, c, _, rfl, DPut.k (k := Sum.inl to) (sA _ _ ec) hsz, ?_⟩
              have md2 := md'.visit hpm hu_ hq c1
              have grow : ∀ {q : Int}, q ∈ keysE es' → q ∈ keysE (es' ++ [(⟨to, some (p, j)⟩ : Ent)]) := fun h => by
                show _ ∈ (es' ++ [(⟨to, some (p, j)⟩ : Ent)]).map Ent.pl
                rw [List.map_append]; exact List.mem_append_left _ h
              have c_t2 : t2 ≠ c := fun z => by rw [z, ec] at n_t2; cases n_t2
              have ef1 : upd HA c (.dK (putK (kvE es' vs) (Sum.inl to) (.ref t2))) fA = some (.lst (fr.map V.int)) := by rw [upd_ne (Ne.symm cf)]; exact sA _ _ ef
              refine ⟨.ref fA, rfl, .inl ⟨rfl, _, .inl (.inl ef1)⟩, .int to, rfl, fA, _, _, rfl, rfl, ef1, ?_, ?_⟩
              · rw [List.length_map]
                have : fr.length ≤ 1000 := by omega
                exact Nat.lt_of_le_of_lt this (by decide)
              · refine ⟨fr ++ [to], es' ++ [(⟨to, some (p, j)⟩ : Ent)], _, rfl, ⟨fun b w e n1 n2 => ?_, ⟨vs ++ [.ref t2], ?_, ?_⟩, ?_, md2, by rw [List.length_append, List.length_append]; show es'.length + 1 = es.length + (fr.length + 1); omega⟩, fun i' hi p' hp' s hs q hq => grow (dn i' hi p' hp' s hs q hq), fun j' hj s hs q hq => grow (d2 j' hj s hs q hq), fun t' ht q hq' => ?_, ?_⟩
                · rw [upd_ne n2, upd_ne n1]; exact sA _ _ (k1 b w e n1 n2)
                · rw [upd_ne cf, upd_same, ← kvE_put (e := ⟨to, some (p, j)⟩) (by rw [ll.len]) c1]
                · have tsx : ∀ {v : V} {e : Ent}, EntAt H9 v e → EntAt (upd (upd HA c (.dK (putK (kvE es' vs) (Sum.inl to) (.ref t2)))) fA (.lst (fr.map V.int ++ [.int to]))) v e := fun h => h.ts fun b ts e => by
                    have h1 : b ≠ c := fun z => by rw [z, ec] at e; cases e
                    have h2 : b ≠ fA := fun z => by rw [z, ef] at e; cases e
                    rw [upd_ne h2, upd_ne h1]; exact sA _ _ e
                  refine (ll.imp fun _ _ z => tsx z).snoc ⟨t2, rfl, ?_⟩
                  have h2 : t2 ≠ fA := fun z => by rw [z, ef] at n_t2; cases n_t2
                  rw [upd_ne h2, upd_ne c_t2]; exact zA
                · rw [upd_same, List.map_append]; rfl
                · by_cases ct : t' < t
                  · exact grow (d3 t' ct q hq')
                  · have e : t' = t := by omega
                    subst e; rw [hto] at hq'; cases hq'
                    show to ∈ (es' ++ [(⟨to, some (p, j)⟩ : Ent)]).map Ent.pl
                    rw [List.map_append]; exact List.mem_append_right _ List.mem_cons_self
                · rw [upd_ne lf, upd_ne lc]; exact sA _ _ el
          · obtain ⟨fr, es', y8, rfl, rd, dn, d2, d3, el⟩ := hP
            refine ⟨fr, es', _, _, _, rfl, rd, dn, fun j' hj s hs q hq => ?_⟩
            by_cases cj : j' < j
            · exact d2 j' cj s hs q hq
            · have e : j' = j := by omega
              subst e; rw [hu_] at hs; cases hs
              obtain ⟨t', ht'⟩ := List.mem_iff_getElem?.mp hq
              exact d3 t' (by rw [List.length_map]; exact (List.getElem?_eq_some_iff.mp ht').1) q ht'
        · obtain ⟨fr, es', y6, y7, y8, rfl, rd, dn, d2⟩ := hP
          refine ⟨fr, es', _, _, _, _, rfl, rd, fun i' hi p' hp' s hs q hq => ?_⟩
          by_cases ci : i' < i
          · exact dn i' ci p' hp' s hs q hq
          · have e : i' = i := by omega
            subst e
            rw [hp] at hp'
            cases hp'
            obtain ⟨j, hj⟩ := List.mem_iff_getElem?.mp hs
            exact d2 j (by have := (List.getElem?_eq_some_iff.mp hj).1; rw [sl.len]; exact this) s hj q hq
    rintro σ' H5 ⟨fr, es', y5, y6, y7, y8, rfl, rd, dn⟩
    obtain ⟨k1, k2, k3, k4, k5⟩ := id rd
    exact ⟨.ref fA, rfl, fA, fr, es', _, _, _, _, _, rfl, fin _ _ _ rd, k2, k3, k4.over fun p hp => by
      obtain ⟨i, hi⟩ := List.mem_iff_getElem?.mp hp
      exact dn i (List.getElem?_eq_some_iff.mp hi).1 p hi, k5⟩

end
end Rep
namespace Rep
open PySem L2 L2H RepHot
/-- what is told of a way -/
def WayV (H0 H : Hp) (ss : List Sy) (o z : Int) (v : V) : Prop := (v = .non ∧ ∀ m, ¬ Dist (AdjS ss) o z m) ∨ ∃ (l : Addr) (ys : List V) (sts : List Pr), v = .ref l ∧ H0 l = none ∧ H l = some (.lst ys) ∧ PL H ys sts ∧ leadsF ss o sts = some z ∧ Dist (AdjS ss) o z sts.length ∧ sts.length ≤ 1000
def spPthX (K : PySem.W.Frag) (NP : Addr) : Sp := fun vs H Q E => ∃ (a : Addr) (xs : List V) (ss : List Sy) (o z : Int) (n : Nat), vs = [.int (n : Int), .ref a, .int o, .int z] ∧ SqL K H a xs ∧ SL H xs ss ∧ (∀ s ∈ ss, Good (n : Int) s) ∧ ss.length ≤ 1000 ∧ n ≤ 1000 ∧
  (0 ≤ o ∧ o < (n : Int) ∧ 0 ≤ z ∧ z < (n : Int) → ∀ H' v, Same H H' → WayV H H' ss o z v → Q v H') ∧ (¬ (0 ≤ o ∧ o < (n : Int) ∧ 0 ≤ z ∧ z < (n : Int)) → E (.ref NP) none H)
/-- one more step ahead of the others -/
theorem leads_cons {ss : List Sy} {p q z : Int} {k : Nat} {s : Sy} {r : List Pr} (hs : ss[k]? = some s) (hq : q ∈ besF s p) (h : leadsF ss q r = some z) : leadsF ss p (((k : Int), q) :: r) = some z := by
  show (if 0 ≤ ((k : Int)) ∧ ∃ s, ss[((k : Int)).toNat]? = some s ∧ q ∈ besF s p then leadsF ss q r else none) = some z
  rw [if_pos ⟨by omega, s, by rw [Int.toNat_natCast]; exact hs, hq⟩]
  exact h
theorem dist_list {A : Int → Int → Prop} {a : Int} : ∀ (L : Nat) {z : Int}, Dist A a z L → ∃ l : List Int, l.length = L + 1 ∧ l.Nodup ∧ ∀ x ∈ l, ∃ m, m ≤ L ∧ Dist A a x m
  | 0, z, d => ⟨[z], rfl, by simp, fun x hx => by rw [List.mem_singleton.mp hx]; exact ⟨0, Nat.le_refl _, d⟩⟩
  | L + 1, z, d => by
    obtain ⟨p, dp, _⟩ := dist_pred d
    obtain ⟨l, h1, h2, h3⟩ := dist_list L dp
    refine ⟨z :: l, by simp [h1], List.nodup_cons.mpr ⟨fun hz => ?_, h2⟩, fun x hx => ?_⟩
    · obtain ⟨m, hm, dm⟩ := h3 z hz
      have := dist_uniq d dm
      omega
    · rcases List.mem_cons.mp hx with rfl | hx
      · exact ⟨L + 1, Nat.le_refl _, d⟩
      · obtain ⟨m, hm, dm⟩ := h3 x hx
        exact ⟨m, by omega, dm⟩
theorem dist_len {A : Int → Int → Prop} {a z : Int} {L n : Nat} (inn : ∀ q m, Dist A a q m → 0 ≤ q ∧ q < (n : Int)) (d : Dist A a z L) : L < n := by
  obtain ⟨l, h1, h2, h3⟩ := dist_list L d
  have := nodup_le n l h2 fun x hx => by obtain ⟨m, _, dm⟩ := h3 x hx; exact inn x m dm
  omega
theorem pl_rev {H : Hp} {vs : List V} {ps : List Pr} (h : PL H vs ps) : PL H vs.reverse ps.reverse := ⟨fun v hv => h.all v (List.mem_reverse.mp hv), by rw [List.map_reverse, h.eq]⟩
abbrev nPth : List Str := ["length", "sayings", "one", "other", "came", "steps", "place", "ahead", "k"]
theorem scPth : FnScope nPth ["length", "sayings", "one", "other"] (defScope sPath) := ⟨rfl, rfl, rfl, by decide +kernel, rfl, by decide +kernel, by decide +kernel⟩
structure TPth (Pg : Program) (w : World) (K : PySem.W.Frag) (mg : Str → Option Value) (base : Heap) (NP fL fS fP fC : Addr) (fdL fdS fdP fdC : FuncData) : Prop where
  gL : FnOk Pg w K mg base CX0 7 fL fdL ["length"] (spChkl)
  bL : Binds K fdL ["length"] []
  kL : PySem.W.keepIn K (.ref fL) = true
  mL : mg "check_length" = some (.ref fL)
  gS : FnOk Pg w K mg base CX0 7 fS fdS ["length", "sayings"] (spChkss K)
  bS : Binds K fdS ["length", "sayings"] []
  kS : PySem.W.keepIn K (.ref fS) = true
  mS : mg "check_sayings" = some (.ref fS)
  gP : FnOk Pg w K mg base (L2N.CX Pg w) 7 fP fdP ["length", "place"] (spChkpX NP)
  bP : Binds K fdP ["length", "place"] []
  kP : PySem.W.keepIn K (.ref fP) = true
  mP : mg "check_place" = some (.ref fP)
  gC : FnOk Pg w K mg base CX0 8 fC fdC ["sayings", "one"] (spCf K)
  bC : Binds K fdC ["sayings", "one"] []
  kC : PySem.W.keepIn K (.ref fC) = true
  mC : mg "came_from" = some (.ref fC)
section
variable {Pg : Program} {w : World} {K : PySem.W.Frag} {mg : Str → Option Value} {base : Heap}
theorem ok_pth {f NP fL fS fP fC : Addr} {fd fdL fdS fdP fdC : FuncData} (F : Fun K "path" "path" sPath f fd) (T : TPth Pg w K mg base NP fL fS fP fC fdL fdS fdP fdC) : FnOk Pg w K mg base (L2N.CX Pg w) 9 f fd ["length", "sayings", "one", "other"] (spPthX K NP) := by
  refine okN F scPth (fun vs H Q E h => ?_) (fun cdv A outer s H vs Q E hr h => ?_)
  · obtain ⟨a, xs, ss, o, z, n, rfl, _⟩ := h; rfl
  obtain ⟨a, xs, ss, o, z, n, rfl, hX, sl, gd, hl, hn, qq, qe⟩ := h
  have hu := hu_of hr
  have r7 : Room 7 _ := hr.mono (by decide)
  have nB : (n : Int) < 10 ^ 40 := Int.lt_of_le_of_lt (show (n : Int) ≤ 1000 by omega) (by decide)
  refine ⟨_, (C8.pss_cut (ps_expr (pe_call T.gL r7 (by rfl) T.mL T.kL T.bL .nil pass0 (pa_cons (pv 0) pa_nil)))
    (C8.pss_cut (ps_expr (pe_call T.gS r7 (by rfl) T.mS T.kS T.bS .nil pass0 (pa_cons (pv 0) (pa_cons (pv 1) pa_nil))))
    (C8.pss_cut (ps_expr (pe_call T.gP r7 (by rfl) T.mP T.kP T.bP .nil (L2N.passes_call (L2N.takes_of rfl rfl rfl rfl) (fun _ _ _ _ h => h)) (pa_cons (pv 0) (pa_cons (pv 2) pa_nil))))
    (C8.pss_cut (ps_expr (pe_call T.gP r7 (by rfl) T.mP T.kP T.bP .nil (L2N.passes_call (L2N.takes_of rfl rfl rfl rfl) (fun _ _ _ _ h => h)) (pa_cons (pv 0) (pa_cons (pv 3) pa_nil))))
    (C8.pss_cut (ps_set (i := 4) scPth.nd rfl (.inl rfl) (pe_call T.gC hr (by rfl) T.mC T.kC T.bC .nil pass0 (pa_cons (pv 1) (pa_cons (pv 2) pa_nil))))
    (C8.pss_cut (ps_if (pt_cmp (pc_dnotin hu (pv 3) (pv 4))) (pss_one (ps_ret pe_non)) pss_nil)
    (C8.pss_cut (ps_set (i := 5) scPth.nd rfl (.inl rfl) (pe_lst pa_nil))
    (C8.pss_cut (ps_set (i := 6) scPth.nd rfl (.inl rfl) (pv 3))
    (C8.pss_cut (ps_while (passes_of rfl) (pt_cmpR op_ne (pv 6) (pv 2) (nomark _))
      (pss_cons (ps_asg (pe_dget hu (pv 4) (pv 6) (fun _ _ => rfl)) (pg_tup rfl (pgs_cons (pg_name (i := 7) scPth.nd rfl (.inl rfl)) (pgs_cons (pg_name (i := 8) scPth.nd rfl (.inl rfl)) pgs_nil))))
    (pss_cons (ps_expr (pe_bm PySem.F.plainAttrs_list PySem.F.slot_list_append PySem.F.type_list_append mt_append (pv 5) (pa_cons (pe_tup (pa_cons (pv 8) (pa_cons (pv 6) pa_nil))) pa_nil)))
    (pss_one (ps_set (i := 6) scPth.nd rfl (.inl rfl) (pv 7))))))
    (C8.pss_cut (ps_expr (pe_bm0 PySem.F.plainAttrs_list PySem.F.slot_list_reverse PySem.F.type_list_reverse mt_reverse (pv 5)))
    (pss_one (ps_ret (pv 5))))))))))))), ?_⟩
  refine ⟨fun σ' H' => σ' = [some (.int (n : Int)), some (.ref a), some (.int o), some (.int z), none, none, none, none, none] ∧ H' = H, ?_, ?_⟩
  · exact ⟨.int (n : Int), rfl, (n : Int), rfl, by omega, nB, rfl, rfl⟩
  rintro σ' Ha ⟨rfl, eH⟩
  subst eH
  refine ⟨fun σ' H1 => σ' = [some (.int (n : Int)), some (.ref a), some (.int o), some (.int z), none, none, none, none, none] ∧ H1 = Ha, ?_, ?_⟩
  · exact ⟨.int (n : Int), rfl, .ref a, rfl, (n : Int), a, xs, ss, rfl, hX, sl, gd, rfl, rfl⟩
  rintro σ' Hb ⟨rfl, eH⟩
  subst eH
  refine ⟨fun σ' H1 => σ' = [some (.int (n : Int)), some (.ref a), some (.int o), some (.int z), none, none, none, none, none] ∧ H1 = Hb ∧ 0 ≤ o ∧ o < (n : Int), ?_, ?_⟩
  · exact ⟨.int (n : Int), rfl, .int o, rfl, (n : Int), o, rfl, fun g => ⟨rfl, rfl, g.1, g.2⟩, fun g => qe fun y => g ⟨y.1, y.2.1⟩⟩
  rintro σ' Hc ⟨rfl, eH, o0, o1⟩
  subst eH
  refine ⟨fun σ' H1 => σ' = [some (.int (n : Int)), some (.ref a), some (.int o), some (.int z), none, none, none, none, none] ∧ H1 = Hc ∧ 0 ≤ z ∧ z < (n : Int), ?_, ?_⟩
  · exact ⟨.int (n : Int), rfl, .int z, rfl, (n : Int), z, rfl, fun g => ⟨rfl, rfl, g.1, g.2⟩, fun g => qe fun y => g ⟨y.2.2.1, y.2.2.2⟩⟩
  rintro σ' H' ⟨rfl, eH, z0, z1⟩
  subst eH
  have q := qq ⟨o0, o1, z0, z1⟩
  clear qq qe
  -- what came from what
  refine ⟨fun σ' H1 => ∃ (c : Addr) (es : List Ent), σ' = [some (.int (n : Int)), some (.ref a), some (.int o), some (.int z), some (.ref c), none, none, none, none] ∧ Same H' H1 ∧ CamAt H1 c es ∧ Came ss o es ∧ (∀ q, q ∈ keysE es ↔ ∃ m, Dist (AdjS ss) o q m), ?_, ?_⟩
  · exact ⟨.ref a, rfl, .int o, rfl, a, xs, ss, o, n, rfl, hX, sl, gd, hl, hn, o0, o1, fun H1 c es s1 nc ca cm all => ⟨c, es, rfl, s1, ca, cm, all⟩⟩
  rintro σ' H1 ⟨c, es, rfl, s1, ca, cm, all⟩
  obtain ⟨vs, ec, ll⟩ := id ca
  refine ⟨fun σ' H2 => σ' = [some (.int (n : Int)), some (.ref a), some (.int o), some (.int z), some (.ref c), none, none, none, none] ∧ H2 = H1 ∧ z ∈ keysE es, ?_, ?_⟩
  · refine ⟨.int z, rfl, .ref c, rfl, c, _, rfl, DGet.k (k := Sum.inl z) ec, _, rfl, ?_⟩
    by_cases c1 : z ∈ keysE es
    · obtain ⟨e, he, ee⟩ := List.mem_map.mp c1
      obtain ⟨ie, hie⟩ := List.mem_iff_getElem?.mp he
      obtain ⟨v, hv, _⟩ := ll.get' hie
      have hval := kvE_some cm.nd hie hv
      rw [ee] at hval
      rw [hval]
      exact iteF ⟨rfl, rfl, c1⟩
    · rw [kvE_none c1]
      exact iteT (q H1 .non s1 (.inl ⟨rfl, fun m d => c1 ((all z).mpr ⟨m, d⟩)⟩))
  rintro σ' H2 ⟨rfl, eH, zin⟩
  subst eH
  obtain ⟨L, dL⟩ := (all z).mp zin
  refine ⟨fun σ' H3 => ∃ l, σ' = [some (.int (n : Int)), some (.ref a), some (.int o), some (.int z), some (.ref c), some (.ref l), none, none, none] ∧ Same H2 H3 ∧ H2 l = none ∧ H3 l = some (.lst []), ?_, ?_⟩
  · refine ⟨szN 0 rfl, fun l n_l => ?_⟩
    generalize e_l : upd H2 l _ = H3
    have s3 := new_same e_l n_l
    have z3 := new_at e_l
    clear e_l
    exact ⟨l, rfl, s3, n_l, z3⟩
  rintro σ' H3 ⟨l, rfl, s3, nl, el⟩
  have nl0 : H' l = none := by
    cases e : H' l with
    | none => rfl
    | some u => rw [s1 _ _ e] at nl; cases nl
  refine ⟨fun σ' H4 => σ' = [some (.int (n : Int)), some (.ref a), some (.int o), some (.int z), some (.ref c), some (.ref l), some (.int z), none, none] ∧ H4 = H3, ?_, ?_⟩
  · exact ⟨.int z, rfl, rfl, rfl⟩
  rintro σ' H4 ⟨rfl, eH⟩
  subst eH
  -- back from there
  refine ⟨fun σ' H5 => ∃ (y7 y8 : Option V) (ys : List V) (sts : List Pr), σ' = [some (.int (n : Int)), some (.ref a), some (.int o), some (.int z), some (.ref c), some (.ref l), some (.int o), y7, y8] ∧ Same H2 H5 ∧ H5 l = some (.lst ys) ∧ PL H5 ys sts ∧ leadsF ss o sts.reverse = some z ∧ sts.length = L, ?_, ?_⟩
  · refine ⟨fun m σ H5 => ∃ (p : Int) (y7 y8 : Option V) (ys : List V) (sts : List Pr), σ = [some (.int (n : Int)), some (.ref a), some (.int o), some (.int z), some (.ref c), some (.ref l), some (.int p), y7, y8] ∧ Same H2 H5 ∧ H5 l = some (.lst ys) ∧ PL H5 ys sts ∧ leadsF ss p sts.reverse = some z ∧ Dist (AdjS ss) o p m ∧ sts.length + m = L,
      ⟨L, z, none, none, [], [], rfl, s3, el, .nil, rfl, dL, by simp⟩, ?_⟩
    rintro m σ H5 ⟨p, y7, y8, ys, sts, rfl, s5, el, pl, ld, dp, lm⟩
    refine ⟨.int p, rfl, .int o, rfl, rfl, _, rfl, ?_⟩
    have lL : L < n := dist_len (fun q m d => cm.in_ gd o0 o1 q ((all q).mpr ⟨m, d⟩)) dL
    by_cases c1 : p = o
    · have m0 : m = 0 := by rw [c1] at dp; exact dist_uniq dp dist_self
      rw [show (!decide (V.int p = V.int o)) = false by rw [decide_eq_true (congrArg V.int c1)]; rfl]
      refine iteF ?_
      rw [c1] at ld ⊢
      exact ⟨y7, y8, ys, sts, rfl, s5, el, pl, ld, by omega⟩
    · rw [show (!decide (V.int p = V.int o)) = true by rw [decide_eq_false fun e => c1 (V.int.inj e)]; rfl]
      refine iteT ?_
      obtain ⟨e, he, ee⟩ := List.mem_map.mp ((all p).mpr ⟨m, dp⟩)
      obtain ⟨ie, hie⟩ := List.mem_iff_getElem?.mp he
      obtain ⟨v, hv, ev⟩ := ll.get' hie
      have hval := kvE_some cm.nd hie hv
      rw [ee] at hval
      have ec5 := s5 _ _ ec
      rcases cm.fr e he with ⟨_, z⟩ | ⟨p', k, u, m', efr, hs, hq, dp', dq⟩
      · rw [ee] at z; exact absurd z c1
      unfold EntAt at ev
      rw [efr] at ev
      obtain ⟨t, rfl, ht⟩ := ev
      rw [ee] at hq dq
      have em : m = m' + 1 := dist_uniq dp dq
      subst em
      refine ⟨fun σ' H' => ∃ (p : Int) (y7 y8 : Option V) (ys : List V) (sts : List Pr), σ' = [some (.int (n : Int)), some (.ref a), some (.int o), some (.int z), some (.ref c), some (.ref l), some (.int p), y7, y8] ∧ Same H2 H' ∧ H' l = some (.lst ys) ∧ PL H' ys sts ∧ leadsF ss p sts.reverse = some z ∧ Dist (AdjS ss) o p m' ∧ sts.length + m' = L, fun σ' H' hN => ⟨m', by omega, hN⟩, ?_⟩
      refine ⟨.ref c, rfl, .int p, rfl, c, .ref t, rfl, hval ▸ DGet.k (k := Sum.inl p) ec5, ?_⟩
      refine ⟨t, _, rfl, .inl (.inl (s5 _ _ ht)), rfl, _, _, rfl, _, _, rfl, rfl, ?_⟩
      refine ⟨.ref l, rfl, .inl ⟨rfl, _, .inl (.inl el)⟩, .int (k : Int), rfl, .int p, rfl, ?_⟩
      refine ⟨szN 2 rfl, fun t2 n_t2 => ?_⟩
      generalize e_t2 : upd H5 t2 _ = H6
      have s6 := new_same e_t2 n_t2
      have z6 := new_at e_t2
      clear e_t2
      refine ⟨l, _, _, rfl, rfl, s6 _ _ el, ?_, ?_⟩
      · rw [pl.len]
        exact Nat.lt_of_le_of_lt (show sts.length ≤ 1000 by omega) (by decide)
      refine ⟨.int p', rfl, p', _, _, _, sts ++ [((k : Int), p)], rfl, ?_, upd_same, ?_, ?_, dp', by rw [List.length_append]; show sts.length + 1 + m' = L; omega⟩
      · exact same_over (s5.trans s6) nl
      · have ts : TS H5 (upd H6 l (.lst (ys ++ [.ref t2]))) := fun b xs e => by
          have h1 : b ≠ l := fun y => by rw [y, el] at e; cases e
          rw [upd_ne h1]; exact s6 _ _ e
        have h2 : t2 ≠ l := fun y => by rw [y, el] at n_t2; cases n_t2
        exact (PL.ts ts pl).snoc (by rw [upd_ne h2]; exact z6)
      · rw [List.reverse_append]
        exact leads_cons hs hq ld
  rintro σ' H5 ⟨y7, y8, ys, sts, rfl, s5, el, pl, ld, lL⟩
  refine ⟨fun σ' H6 => σ' = [some (.int (n : Int)), some (.ref a), some (.int o), some (.int z), some (.ref c), some (.ref l), some (.int o), y7, y8] ∧ Same H2 H6 ∧ H6 l = some (.lst ys.reverse) ∧ PL H6 ys.reverse sts.reverse, ?_, ?_⟩
  · refine ⟨.ref l, rfl, .inl ⟨rfl, _, .inl (.inl el)⟩, l, ys, rfl, rfl, el, ?_⟩
    refine ⟨rfl, same_over s5 nl, upd_same, ?_⟩
    have ts : TS H5 (upd H5 l (.lst ys.reverse)) := fun b xs e => by
      have h1 : b ≠ l := fun y => by rw [y, el] at e; cases e
      rw [upd_ne h1]; exact e
    exact pl_rev (PL.ts ts pl)
  rintro σ' H6 ⟨rfl, s6, el6, pl6⟩
  have lL2 : L < n := dist_len (fun q m d => cm.in_ gd o0 o1 q ((all q).mpr ⟨m, d⟩)) dL
  exact ⟨.ref l, rfl, q H6 _ (s1.trans s6) (.inr ⟨l, _, _, rfl, nl0, el6, pl6, ld, by rw [List.length_reverse, lL]; exact dL, by rw [List.length_reverse]; omega⟩)⟩

end
end Rep
namespace Rep
open PySem L2
def spLdsX (K : PySem.W.Frag) (NP : Addr) : Sp := fun vs H Q E => ∃ (e x : Int) (a c : Addr) (xs ys : List V) (ss : List Sy) (sts : List Pr), vs = [.int e, .ref a, .int x, .ref c] ∧ SqL K H a xs ∧ SL H xs ss ∧ (∀ s ∈ ss, Good e s) ∧ 0 ≤ e ∧ e < 10 ^ 40 ∧ SqL K H c ys ∧ PL H ys sts ∧
  (0 ≤ x ∧ x < e → ∀ H', Same H H' → Q (oV (leadsF ss x sts)) H') ∧ (¬ (0 ≤ x ∧ x < e) → E (.ref NP) none H)
end Rep
namespace Rep
open PySem L2 L2H RepHot
abbrev nLx : List Str := ["length", "sayings", "one", "steps", "place", "k", "to"]
theorem scLx : FnScope nLx ["length", "sayings", "one", "steps"] (defScope sLeads) := ⟨rfl, rfl, rfl, by decide +kernel, rfl, by decide +kernel, by decide +kernel⟩
structure TLx (Pg : Program) (w : World) (K : PySem.W.Frag) (mg : Str → Option Value) (base : Heap) (NP fL fS fP fB : Addr) (fdL fdS fdP fdB : FuncData) : Prop where
  gL : FnOk Pg w K mg base CX0 7 fL fdL ["length"] (spChkl)
  bL : Binds K fdL ["length"] []
  kL : PySem.W.keepIn K (.ref fL) = true
  mL : mg "check_length" = some (.ref fL)
  gS : FnOk Pg w K mg base CX0 7 fS fdS ["length", "sayings"] (spChkss K)
  bS : Binds K fdS ["length", "sayings"] []
  kS : PySem.W.keepIn K (.ref fS) = true
  mS : mg "check_sayings" = some (.ref fS)
  gP : FnOk Pg w K mg base (L2N.CX Pg w) 7 fP fdP ["length", "place"] (spChkpX NP)
  bP : Binds K fdP ["length", "place"] []
  kP : PySem.W.keepIn K (.ref fP) = true
  mP : mg "check_place" = some (.ref fP)
  gB : FnOk Pg w K mg base CX0 7 fB fdB ["saying", "place"] (spBes)
  bB : Binds K fdB ["saying", "place"] []
  kB : PySem.W.keepIn K (.ref fB) = true
  mB : mg "beside" = some (.ref fB)
  ml : mg "len" = none
section
variable {Pg : Program} {w : World} {K : PySem.W.Frag} {mg : Str → Option Value} {base : Heap}
theorem ok_lx {f NP fL fS fP fB : Addr} {fd fdL fdS fdP fdB : FuncData} (F : Fun K "leads" "leads" sLeads f fd) (T : TLx Pg w K mg base NP fL fS fP fB fdL fdS fdP fdB) : FnOk Pg w K mg base (L2N.CX Pg w) 8 f fd ["length", "sayings", "one", "steps"] (spLdsX K NP) := by
  refine okN F scLx (fun vs H Q E h => ?_) (fun cdv A outer s H vs Q E hr h => ?_)
  · obtain ⟨e, x, a, c, xs, ys, ss, sts, rfl, _⟩ := h; rfl
  obtain ⟨e, x, a, c, xs, ys, ss, sts, rfl, hX, sl, gd, he0, he, hY, pl, q, qe⟩ := h
  have r7 := hr
  refine ⟨_, (pss_cons (ps_expr (pe_call T.gL r7 (by rfl) T.mL T.kL T.bL .nil pass0 (pa_cons (pv 0) pa_nil)))
    (pss_cons (ps_expr (pe_call T.gS r7 (by rfl) T.mS T.kS T.bS .nil pass0 (pa_cons (pv 0) (pa_cons (pv 1) pa_nil))))
    (pss_cons (ps_expr (pe_call T.gP r7 (by rfl) T.mP T.kP T.bP .nil (L2N.passes_call (L2N.takes_of rfl rfl rfl rfl) (fun _ _ _ _ h => h)) (pa_cons (pv 0) (pa_cons (pv 2) pa_nil))))
    (pss_cons (ps_set (i := 4) scLx.nd rfl (.inl rfl) (pv 2))
    (pss_cons (ps_for (passes_of rfl) rfl (pi_list (pv 3)) (pg_tup rfl (pgs_cons (pg_name (i := 5) scLx.nd rfl (.inl rfl)) (pgs_cons (pg_name (i := 6) scLx.nd rfl (.inl rfl)) pgs_nil)))
      (pss_cons (ps_if (PW.pt (pw_or (pt_cmpR op_lt (pv 5) pe_int (nomark _)) (pw_or (pt_cmpR op_ge (pv 5) (pe_callB call_len_seq (by rfl) T.ml PySem.boot_len (pa_cons (pv 1) pa_nil)) (nomark _)) (pw_or1 (pt_cmpR op_notIn_seq (pv 6) (pe_call T.gB r7 (by rfl) T.mB T.kB T.bB .nil pass0 (pa_cons (pe_ix ix_list (pv 1) (pv 5) (fun _ _ => rfl)) (pa_cons (pv 4) pa_nil))) (by rfl)))))) (pss_one (ps_ret pe_non)) pss_nil)
    (pss_one (ps_set (i := 4) scLx.nd rfl (.inl rfl) (pv 6)))))
    (pss_one (ps_ret (pv 4)))))))), ?_⟩
  refine ⟨.int e, rfl, e, rfl, by omega, he, ?_⟩
  refine ⟨.int e, rfl, .ref a, rfl, e, a, xs, ss, rfl, hX, sl, gd, ?_⟩
  refine ⟨.int e, rfl, .int x, rfl, e, x, rfl, fun g => ?_, fun g => qe g⟩
  replace q := q g
  clear qe
  refine ⟨.int x, rfl, ?_⟩
  refine ⟨.ref c, rfl, c, rfl, ⟨_, hY⟩, for_list (xs := ys) (fun i σ H3 => ∃ p y5 y6, σ = [some (.int e), some (.ref a), some (.int x), some (.ref c), some (.int p), y5, y6] ∧ Same H H3 ∧ leadsF ss x sts = leadsF ss p (sts.drop i)) ⟨x, none, none, rfl, Same.refl _, rfl⟩ (fun i σ H3 _ hP => ?_) (fun i v σ H3 hv hP => ?_) (fun σ H3 hP => ?_)⟩
  · obtain ⟨_, _, _, _, sm, _⟩ := hP
    exact sm.seq hY
  · obtain ⟨p, y5, y6, rfl, sm, el⟩ := hP
    obtain ⟨tp, st, rfl, htp, hst⟩ := pl.get hv
    obtain ⟨hi, est⟩ := List.getElem?_eq_some_iff.mp hst
    have ed : sts.drop i = st :: sts.drop (i + 1) := by rw [List.drop_eq_getElem_cons hi, est]
    rw [ed] at el
    have es : leadsF ss p (st :: sts.drop (i + 1)) = if 0 ≤ st.1 ∧ ∃ s, ss[st.1.toNat]? = some s ∧ st.2 ∈ besF s p then leadsF ss st.2 (sts.drop (i + 1)) else none := rfl
    refine ⟨tp, [.int st.1, .int st.2], rfl, .inl (.inl (sm _ _ htp)), rfl, _, _, rfl, _, _, rfl, rfl, ?_⟩
    refine ⟨.int st.1, rfl, _, 0, rfl, rfl, _, rfl, ite2 (fun c1 => ?_) (fun c1 => ?_)⟩
    · have c1 := of_decide_eq_true c1
      refine iteT ?_
      rw [el, es, if_neg (fun z => by have := z.1; omega)] at q
      exact q H3 sm
    have c1 : ¬ st.1 < 0 := fun z => c1 (decide_eq_true z)
    refine ⟨.int st.1, rfl, .ref a, rfl, a, xs, rfl, .inl (sm.seq hX), _, _, rfl, rfl, _, rfl, ite2 (fun c2 => ?_) (fun c2 => ?_)⟩
    · have c2 : st.1 ≥ (xs.length : Int) := of_decide_eq_true c2
      refine iteT ?_
      rw [el, es, if_neg (fun ⟨_, s, z, _⟩ => by
        have := (List.getElem?_eq_some_iff.mp z).1
        rw [sl.len] at c2
        omega)] at q
      exact q H3 sm
    have c2 : ¬ st.1 ≥ (xs.length : Int) := fun z => c2 (decide_eq_true z)
    obtain ⟨j, hj⟩ : ∃ j : Nat, st.1 = (j : Int) := ⟨st.1.toNat, by omega⟩
    have hjx : j < xs.length := by omega
    have gx : xs[j]? = some xs[j] := List.getElem?_eq_getElem hjx
    generalize xs[j] = sv at gx
    obtain ⟨s, hs, is_⟩ := sl.get gx
    refine ⟨.int st.2, rfl, .ref a, rfl, .int st.1, rfl, a, xs, st.1, sv, rfl, rfl, sm.seq hX, by rw [hj]; exact atI_nat gx, .int p, rfl, sv, s, p, rfl, is_.ts (TS.of sm), fun H4 l s4 nl el4 => ?_⟩
    refine ⟨l, _, rfl, .inl (.inl (.inl el4)), rfl, flat_ints _, _, rfl, ?_⟩
    show if (!inV (.int st.2) ((besF s p).map V.int)) = true then _ else _
    rw [in_ints]
    by_cases c3 : st.2 ∈ besF s p
    · rw [decide_eq_true c3]
      refine iteF ?_
      refine ⟨.int st.2, rfl, st.2, _, _, rfl, sm.trans s4, ?_⟩
      rw [el, es, if_pos ⟨by omega, s, by rw [hj, Int.toNat_natCast]; exact hs, c3⟩]
    · rw [decide_eq_false c3]
      refine iteT ?_
      rw [el, es, if_neg (fun ⟨_, s', z, w⟩ => by
        rw [hj, Int.toNat_natCast, hs] at z
        cases z
        exact c3 w)] at q
      exact q H4 (sm.trans s4)
  · obtain ⟨p, y5, y6, rfl, sm, el⟩ := hP
    rw [pl.len, List.drop_length] at el
    rw [el] at q
    exact ⟨.int p, rfl, q H3 sm⟩

end
end Rep
namespace Rep
open PySem L2 L2H RepHot
/-! songs that are refused -/
def In40 (e : Int) : Prop := 0 ≤ e ∧ e < 10 ^ 40
instance {e : Int} : Decidable (In40 e) := inferInstanceAs (Decidable (0 ≤ e ∧ e < 10 ^ 40))
/-- which refusal of a bad song -/
def badC (BL BS : Addr) (e : Int) : Addr := if In40 e then BS else BL
def BadS (e : Int) (ss : List Sy) : Prop := ¬ (In40 e ∧ ∀ s ∈ ss, Good e s)
theorem pss_never {X : Cx} {ss : List Stmt} : PSs X ss (fun _ _ _ => False) := ⟨fun _ _ _ _ _ _ h => h.elim⟩
theorem fn_hot {P : Program} {w : World} {K : PySem.W.Frag} {mg : Str → Option Value} {base : Heap} {k : Nat} {f : Addr} {fd : FuncData} {ps : List Str} {sp : Sp} (F : FnOk P w K mg base CX0 k f fd ps sp) : FnOk P w K mg base (L2N.CX P w) k f fd ps sp := by
  refine ⟨F.len, fun A outer s H args us vs Q E hr e0 hb r h => codeAny_mono (F.run A outer s H args us vs Q E hr e0 hb r h) fun r s' hq => ?_⟩
  cases r with
  | error e => exact hq.elim
  | ok fl =>
    cases fl with
    | ret u => exact hq
    | next => exact hq.elim
    | brk => exact hq.elim
    | cont => exact hq.elim
def orS (a b : Sp) : Sp := fun vs H Q E => a vs H Q E ∨ b vs H Q E
theorem fn_or {P : Program} {w : World} {K : PySem.W.Frag} {mg : Str → Option Value} {base : Heap} {CX : CXT} {k : Nat} {f : Addr} {fd : FuncData} {ps : List Str} {a b : Sp} (F : FnOk P w K mg base CX k f fd ps a) (G : FnOk P w K mg base CX k f fd ps b) : FnOk P w K mg base CX k f fd ps (orS a b) := by
  refine ⟨fun vs H Q E h => ?_, fun A outer s H args us vs Q E hr e0 hb r h => ?_⟩
  · rcases h with h | h
    · exact F.len _ _ _ _ h
    · exact G.len _ _ _ _ h
  · rcases h with h | h
    · exact F.run A outer s H args us vs Q E hr e0 hb r h
    · exact G.run A outer s H args us vs Q E hr e0 hb r h
def spChklX (BL : Addr) : Sp := fun vs H Q E => ∃ e : Int, vs = [.int e] ∧ (In40 e → Q .non H) ∧ (¬ In40 e → E (.ref BL) none H)
def spChkssX (K : PySem.W.Frag) (BS : Addr) : Sp := fun vs H Q E => ∃ (e : Int) (a : Addr) (xs : List V) (ss : List Sy), vs = [.int e, .ref a] ∧ SqL K H a xs ∧ SL H xs ss ∧ ((∀ s ∈ ss, St_ s.lo s.n e ∧ St_ s.hi s.n e) → Q .non H) ∧ (¬ (∀ s ∈ ss, St_ s.lo s.n e ∧ St_ s.hi s.n e) → E (.ref BS) none H)
def spInitB (K : PySem.W.Frag) (C BL BS : Addr) : Sp := fun vs H _ E => ∃ (p dx a : Addr) (xs : List V) (ss : List Sy) (e : Int), vs = [.ref p, .int e, .ref a] ∧ H p = some (.ins C dx []) ∧ SqL K H a xs ∧ SL H xs ss ∧ BadS e ss ∧ E (.ref (badC BL BS e)) none H
def spBad (K : PySem.W.Frag) (BL BS : Addr) (n : Nat) : Sp := fun vs H _ E => ∃ (e : Int) (a : Addr) (xs : List V) (ss : List Sy) (r : List V), vs = .int e :: .ref a :: r ∧ r.length = n ∧ SqL K H a xs ∧ SL H xs ss ∧ BadS e ss ∧ ∀ H', Same H H' → E (.ref (badC BL BS e)) none H'
theorem good_st4 {e : Int} {s : Sy} : Good e s ↔ St_ s.lo s.n e ∧ St_ s.hi s.n e := by
  unfold Good St_; omega
section
variable {Pg : Program} {w : World} {K : PySem.W.Frag} {mg : Str → Option Value} {base : Heap} {BL BS NN FU : Addr}
structure TCl (Pg : Program) (w : World) (K : PySem.W.Frag) (mg : Str → Option Value) (base : Heap) (BL BS : Addr) (k : Nat) (fL fS : Addr) (fdL fdS : FuncData) : Prop where
  gL : FnOk Pg w K mg base (L2N.CX Pg w) k fL fdL ["length"] (spChklX BL)
  bL : Binds K fdL ["length"] []
  kL : PySem.W.keepIn K (.ref fL) = true
  mL : mg "check_length" = some (.ref fL)
  gS : FnOk Pg w K mg base (L2N.CX Pg w) k fS fdS ["length", "sayings"] (spChkssX K BS)
  bS : Binds K fdS ["length", "sayings"] []
  kS : PySem.W.keepIn K (.ref fS) = true
  mS : mg "check_sayings" = some (.ref fS)
theorem ok_chklX {f : Addr} {fd : FuncData} {k : Nat} (F : Fun K "check_length" "check_length" sCheck_length f fd) (X : ExT K mg "BadLength" BL) (mT : ∃ u, mg "TOO_LONG" = some u ∧ RelV (.int (10 ^ 40)) u) : FnOk Pg w K mg base (L2N.CX Pg w) (k + 1) f fd ["length"] (spChklX BL) := by
  refine okN F scChkl (fun vs H Q E h => ?_) (fun cdv A outer s H vs Q E hr h => ?_)
  · obtain ⟨e, rfl, _⟩ := h; rfl
  obtain ⟨e, rfl, q, qe⟩ := h
  refine ⟨_, (pss_one (ps_if (PW.pt (pw_or (pt_cmpR op_lt (pv 0) pe_int (nomark _)) (pw_or1 (pt_cmpR op_ge (pv 0) (C8.pe_gc (by rfl) mT) (nomark _))))) (pss_one (L2N.ps_raise rfl (L2N.takes_of rfl rfl rfl rfl) (L2N.pmk_own PySem.F.excBase_ValueError X.x X.g X.k (raises_own X.b X.t) rfl))) pss_nil)), ?_⟩
  refine ⟨.int e, rfl, _, 0, rfl, rfl, _, rfl, ite2 (fun c => ?_) (fun c => ?_)⟩
  · have c := of_decide_eq_true c
    refine iteT ?_
    exact qe fun z => by have := z.1; omega
  · have c : ¬ e < 0 := fun z => c (decide_eq_true z)
    refine ⟨.int e, rfl, _, _, rfl, rfl, _, rfl, ite2 (fun d => ?_) (fun d => ?_)⟩
    · have d := of_decide_eq_true d
      exact qe fun z => by have := z.2; omega
    · have d : ¬ e ≥ 10 ^ 40 := fun z => d (decide_eq_true z)
      exact q ⟨by omega, by omega⟩
theorem ok_chkssX {f fCt : Addr} {fd fdCt : FuncData} {k : Nat} (F : Fun K "check_sayings" "check_sayings" sCheck_sayings f fd) (gCt : FnOk Pg w K mg base (L2N.CX Pg w) k fCt fdCt ["length", "at", "many"] (spChksX BS)) (bCt : Binds K fdCt ["length", "at", "many"] []) (kCt : PySem.W.keepIn K (.ref fCt) = true) (mCt : mg "check_stretch" = some (.ref fCt)) : FnOk Pg w K mg base (L2N.CX Pg w) (k + 1) f fd ["length", "sayings"] (spChkssX K BS) := by
  refine okN F scChkss (fun vs H Q E h => ?_) (fun cdv A outer s H vs Q E hr h => ?_)
  · obtain ⟨e, a, xs, ss, rfl, _⟩ := h; rfl
  obtain ⟨e, a, xs, ss, rfl, hX, sl, q, qe⟩ := h
  refine ⟨_, (pss_one (ps_for (passes_of rfl) rfl (pi_list (pv 1)) (pg_tup rfl (pgs_cons (pg_name (i := 2) scChkss.nd rfl (.inl rfl)) (pgs_cons (pg_name (i := 3) scChkss.nd rfl (.inl rfl)) (pgs_cons (pg_name (i := 4) scChkss.nd rfl (.inl rfl)) (pgs_cons (pg_name (i := 5) scChkss.nd rfl (.inl rfl)) pgs_nil)))))
      (pss_cons (ps_expr (pe_call gCt hr (by rfl) mCt kCt bCt .nil (L2N.passes_call (L2N.takes_of rfl rfl rfl rfl) (fun _ _ _ _ h => h)) (pa_cons (pv 0) (pa_cons (pv 2) (pa_cons (pv 4) pa_nil)))))
    (pss_one (ps_expr (pe_call gCt hr (by rfl) mCt kCt bCt .nil (L2N.passes_call (L2N.takes_of rfl rfl rfl rfl) (fun _ _ _ _ h => h)) (pa_cons (pv 0) (pa_cons (pv 3) (pa_cons (pv 4) pa_nil))))))))), ?_⟩
  refine ⟨.ref a, rfl, a, rfl, ⟨_, hX⟩, for_list (xs := xs) (fun i σ H2 => H2 = H ∧ (∃ y2 y3 y4 y5, σ = [some (.int e), some (.ref a), y2, y3, y4, y5]) ∧ ∀ s ∈ ss.take i, St_ s.lo s.n e ∧ St_ s.hi s.n e) ⟨rfl, ⟨_, _, _, _, rfl⟩, fun s hs => nomatch hs⟩ (fun i σ H2 _ h => by rw [h.1]; exact hX) ?_ ?_⟩
  · rintro i y σ H2 hi ⟨rfl, ⟨y2, y3, y4, y5, rfl⟩, hg⟩
    obtain ⟨u, hu, t, rfl, ht⟩ := sl.get hi
    refine ⟨t, _, rfl, .inl (.inl ht), rfl, _, _, rfl, _, _, rfl, _, _, rfl, _, _, rfl, rfl, ?_⟩
    refine ⟨.int e, rfl, .int u.lo, rfl, .int u.n, rfl, e, u.lo, u.n, rfl, fun g1 => ?_, fun g1 => qe fun z => g1 (z u (List.mem_of_getElem? hu)).1⟩
    refine ⟨.int e, rfl, .int u.hi, rfl, .int u.n, rfl, e, u.hi, u.n, rfl, fun g2 => ?_, fun g2 => qe fun z => g2 (z u (List.mem_of_getElem? hu)).2⟩
    refine ⟨rfl, ⟨_, _, _, _, rfl⟩, fun s hs => ?_⟩
    rw [List.take_add_one, hu] at hs
    rcases List.mem_append.mp hs with hs | hs
    · exact hg s hs
    · rw [List.mem_singleton.mp hs]; exact ⟨g1, g2⟩
  · rintro σ H2 ⟨rfl, _, hg⟩
    rw [sl.len, List.take_length] at hg
    exact q hg
theorem ok_initB {f C fL fS : Addr} {fd fdL fdS : FuncData} {k : Nat} (F : Fun K "__init__" "Classes.__init__" sInit f fd) (T : TCl Pg w K mg base BL BS k fL fS fdL fdS) : FnOk Pg w K mg base (L2N.CX Pg w) (k + 1) f fd ["self", "length", "sayings"] (spInitB K C BL BS) := by
  refine okN F scInit (fun vs H Q E h => ?_) (fun cdv A outer s H vs Q E hr h => ?_)
  · obtain ⟨p, dx, a, xs, ss, e, rfl, _⟩ := h; rfl
  obtain ⟨p, dx, a, xs, ss, e, rfl, hp, hS, sl, bad, qe⟩ := h
  refine ⟨_, (pss_cons (ps_expr (pe_call T.gL hr (by rfl) T.mL T.kL T.bL .nil (L2N.passes_call (L2N.takes_of rfl rfl rfl rfl) (fun _ _ _ _ h => h)) (pa_cons (pv 1) pa_nil)))
    (pss_cons (ps_expr (pe_call T.gS hr (by rfl) T.mS T.kS T.bS .nil (L2N.passes_call (L2N.takes_of rfl rfl rfl rfl) (fun _ _ _ _ h => h)) (pa_cons (pv 1) (pa_cons (pv 2) pa_nil)))) pss_never)), ?_⟩
  refine ⟨.int e, rfl, e, rfl, fun g1 => ?_, fun g1 => ?_⟩
  · refine ⟨.int e, rfl, .ref a, rfl, e, a, xs, ss, rfl, hS, sl, fun g2 => ?_, fun _ => ?_⟩
    · exact (bad ⟨g1, fun s hs => good_st4.mpr (g2 s hs)⟩).elim
    · have e1 : badC BL BS e = BS := if_pos g1
      rw [e1] at qe
      exact qe
  · have e1 : badC BL BS e = BL := if_neg g1
    rw [e1] at qe
    exact qe
theorem ok_pthB {f fL fS : Addr} {fd fdL fdS : FuncData} {k : Nat} (F : Fun K "path" "path" sPath f fd) (T : TCl Pg w K mg base BL BS k fL fS fdL fdS) : FnOk Pg w K mg base (L2N.CX Pg w) (k + 1) f fd ["length", "sayings", "one", "other"] (spBad K BL BS 2) := by
  refine okN F scPth (fun vs H Q E h => ?_) (fun cdv A outer s H vs Q E hr h => ?_)
  · obtain ⟨e, a, xs, ss, r, rfl, hl, _⟩ := h; simp [hl]
  obtain ⟨e, a, xs, ss, r, rfl, hl, hS, sl, bad, qe⟩ := h
  match r, hl with
  | [v0, v1], _ =>
  refine ⟨_, (pss_cons (ps_expr (pe_call T.gL hr (by rfl) T.mL T.kL T.bL .nil (L2N.passes_call (L2N.takes_of rfl rfl rfl rfl) (fun _ _ _ _ h => h)) (pa_cons (pv 0) pa_nil)))
    (pss_cons (ps_expr (pe_call T.gS hr (by rfl) T.mS T.kS T.bS .nil (L2N.passes_call (L2N.takes_of rfl rfl rfl rfl) (fun _ _ _ _ h => h)) (pa_cons (pv 0) (pa_cons (pv 1) pa_nil)))) pss_never)), ?_⟩
  refine ⟨.int e, rfl, e, rfl, fun g1 => ?_, fun g1 => ?_⟩
  · refine ⟨.int e, rfl, .ref a, rfl, e, a, xs, ss, rfl, hS, sl, fun g2 => ?_, fun _ => ?_⟩
    · exact (bad ⟨g1, fun s hs => good_st4.mpr (g2 s hs)⟩).elim
    · have e1 : badC BL BS e = BS := if_pos g1
      rw [e1] at qe
      exact qe _ (Same.refl _)
  · have e1 : badC BL BS e = BL := if_neg g1
    rw [e1] at qe
    exact qe _ (Same.refl _)
theorem ok_lxB {f fL fS : Addr} {fd fdL fdS : FuncData} {k : Nat} (F : Fun K "leads" "leads" sLeads f fd) (T : TCl Pg w K mg base BL BS k fL fS fdL fdS) : FnOk Pg w K mg base (L2N.CX Pg w) (k + 1) f fd ["length", "sayings", "one", "steps"] (spBad K BL BS 2) := by
  refine okN F scLx (fun vs H Q E h => ?_) (fun cdv A outer s H vs Q E hr h => ?_)
  · obtain ⟨e, a, xs, ss, r, rfl, hl, _⟩ := h; simp [hl]
  obtain ⟨e, a, xs, ss, r, rfl, hl, hS, sl, bad, qe⟩ := h
  match r, hl with
  | [v0, v1], _ =>
  refine ⟨_, (pss_cons (ps_expr (pe_call T.gL hr (by rfl) T.mL T.kL T.bL .nil (L2N.passes_call (L2N.takes_of rfl rfl rfl rfl) (fun _ _ _ _ h => h)) (pa_cons (pv 0) pa_nil)))
    (pss_cons (ps_expr (pe_call T.gS hr (by rfl) T.mS T.kS T.bS .nil (L2N.passes_call (L2N.takes_of rfl rfl rfl rfl) (fun _ _ _ _ h => h)) (pa_cons (pv 0) (pa_cons (pv 1) pa_nil)))) pss_never)), ?_⟩
  refine ⟨.int e, rfl, e, rfl, fun g1 => ?_, fun g1 => ?_⟩
  · refine ⟨.int e, rfl, .ref a, rfl, e, a, xs, ss, rfl, hS, sl, fun g2 => ?_, fun _ => ?_⟩
    · exact (bad ⟨g1, fun s hs => good_st4.mpr (g2 s hs)⟩).elim
    · have e1 : badC BL BS e = BS := if_pos g1
      rw [e1] at qe
      exact qe _ (Same.refl _)
  · have e1 : badC BL BS e = BL := if_neg g1
    rw [e1] at qe
    exact qe _ (Same.refl _)
structure TMk (Pg : Program) (w : World) (K : PySem.W.Frag) (mg : Str → Option Value) (base : Heap) (C BL BS : Addr) (k : Nat) (fC : Addr) (fdC : FuncData) : Prop where
  cl : Cls K C
  MC : Mk K C fC
  gC : FnOk Pg w K mg base (L2N.CX Pg w) k fC fdC ["self", "length", "sayings"] (spInitB K C BL BS)
  bC : Binds K fdC ["self", "length", "sayings"] []
  mC : mg "Classes" = some (.ref C)
theorem ok_alkB {f C fC : Addr} {fd fdC : FuncData} {k : Nat} (F : Fun K "alike" "alike" sAlike f fd) (T : TMk Pg w K mg base C BL BS k fC fdC) : FnOk Pg w K mg base (L2N.CX Pg w) (k + 2) f fd ["length", "sayings", "one", "other", "many", "turned"] (spBad K BL BS 4) := by
  refine okN F scAlk (fun vs H Q E h => ?_) (fun cdv A outer s H vs Q E hr h => ?_)
  · obtain ⟨e, a, xs, ss, r, rfl, hl, _⟩ := h; simp [hl]
  obtain ⟨e, a, xs, ss, r, rfl, hl, hS, sl, bad, qe⟩ := h
  match r, hl with
  | [v0, v1, v2, v3], _ =>
  refine ⟨_, (pss_cons (ps_set (i := 6) scAlk.nd rfl (.inl rfl) (pe_make T.MC T.gC hr (by rfl) T.mC T.bC .nil (L2N.passes_call (L2N.takes_of rfl rfl rfl rfl) (fun _ _ _ _ h => h)) (pa_cons (pv 0) (pa_cons (pv 1) pa_nil)))) pss_never), ?_⟩
  refine ⟨.int e, rfl, .ref a, rfl, fun p dx np ndx ne => ?_⟩
  have n2 : upd H dx (.own p) p = none := by rw [upd_ne ne.symm]; exact np
  have s1 : Same H (upd (upd H dx (.own p)) p (.ins C dx [])) := (same_upd ndx).trans (same_upd n2)
  exact ⟨p, dx, a, xs, ss, e, rfl, upd_same, s1.seq hS, SL.ts (TS.of s1) sl, bad, qe _ s1⟩
theorem ok_ptB {f C fC c : Addr} {fd fdC : FuncData} {k : Nat} (F : FunT K "parted" "parted" sParted f fd c) (T : TMk Pg w K mg base C BL BS k fC fdC) : FnOk Pg w K mg base (L2N.CX Pg w) (k + 2) f fd ["length", "sayings", "one", "other", "many", "turned"] (spBad K BL BS 4) := by
  obtain ⟨oc, od, kV, doc, pm, an, ct, osl, rfl, lk, hcd⟩ := F.ex
  refine fn_of lk hcd scPd (fun vs H Q E h => ?_) (fun A outer s H vs Q E hr h => ?_)
  · obtain ⟨e, a, xs, ss, r, rfl, hl, _⟩ := h; simp [hl]
  obtain ⟨e, a, xs, ss, r, rfl, hl, hS, sl, bad, qe⟩ := h
  match r, hl with
  | [v0, v1, v2, v3], _ =>
  refine ⟨_, (pss_cons (ps_set (i := 6) scPd.nd rfl (.inr rfl) (pe_make T.MC T.gC hr (by rfl) T.mC T.bC .nil (L2N.passes_call (L2N.takes_of rfl rfl rfl rfl) (fun _ _ _ _ h => h)) (pa_cons (pv 0) (pa_cons (pv 1) pa_nil)))) pss_never), ?_⟩
  refine ⟨.int e, rfl, .ref a, rfl, fun p dx np ndx ne => ?_⟩
  have n2 : upd H dx (.own p) p = none := by rw [upd_ne ne.symm]; exact np
  have s1 : Same H (upd (upd H dx (.own p)) p (.ins C dx [])) := (same_upd ndx).trans (same_upd n2)
  exact ⟨p, dx, a, xs, ss, e, rfl, upd_same, s1.seq hS, SL.ts (TS.of s1) sl, bad, qe _ s1⟩
theorem ok_btB {f C fC : Addr} {fd fdC : FuncData} {k : Nat} (F : Fun K "beat" "beat" sBeat f fd) (T : TMk Pg w K mg base C BL BS k fC fdC) : FnOk Pg w K mg base (L2N.CX Pg w) (k + 2) f fd ["length", "sayings", "at", "many", "step"] (spBad K BL BS 3) := by
  refine okN F scBt (fun vs H Q E h => ?_) (fun cdv A outer s H vs Q E hr h => ?_)
  · obtain ⟨e, a, xs, ss, r, rfl, hl, _⟩ := h; simp [hl]
  obtain ⟨e, a, xs, ss, r, rfl, hl, hS, sl, bad, qe⟩ := h
  match r, hl with
  | [v0, v1, v2], _ =>
  refine ⟨_, (pss_cons (ps_set (i := 5) scBt.nd rfl (.inl rfl) (pe_make T.MC T.gC hr (by rfl) T.mC T.bC .nil (L2N.passes_call (L2N.takes_of rfl rfl rfl rfl) (fun _ _ _ _ h => h)) (pa_cons (pv 0) (pa_cons (pv 1) pa_nil)))) pss_never), ?_⟩
  refine ⟨.int e, rfl, .ref a, rfl, fun p dx np ndx ne => ?_⟩
  have n2 : upd H dx (.own p) p = none := by rw [upd_ne ne.symm]; exact np
  have s1 : Same H (upd (upd H dx (.own p)) p (.ins C dx [])) := (same_upd ndx).trans (same_upd n2)
  exact ⟨p, dx, a, xs, ss, e, rfl, upd_same, s1.seq hS, SL.ts (TS.of s1) sl, bad, qe _ s1⟩
theorem ok_eachB {f C fC : Addr} {fd fdC : FuncData} {k : Nat} (F : Fun K "each_first" "each_first" sEach_first f fd) (T : TMk Pg w K mg base C BL BS k fC fdC) : FnOk Pg w K mg base (L2N.CX Pg w) (k + 2) f fd ["length", "sayings"] (spBad K BL BS 0) := by
  refine okN F scEach (fun vs H Q E h => ?_) (fun cdv A outer s H vs Q E hr h => ?_)
  · obtain ⟨e, a, xs, ss, r, rfl, hl, _⟩ := h; simp [hl]
  obtain ⟨e, a, xs, ss, r, rfl, hl, hS, sl, bad, qe⟩ := h
  match r, hl with
  | [], _ =>
  refine ⟨_, (pss_cons (ps_set (i := 2) scEach.nd rfl (.inr rfl) (pe_make T.MC T.gC hr (by rfl) T.mC T.bC .nil (L2N.passes_call (L2N.takes_of rfl rfl rfl rfl) (fun _ _ _ _ h => h)) (pa_cons (pv 0) (pa_cons (pv 1) pa_nil)))) pss_never), ?_⟩
  refine ⟨.int e, rfl, .ref a, rfl, fun p dx np ndx ne => ?_⟩
  have n2 : upd H dx (.own p) p = none := by rw [upd_ne ne.symm]; exact np
  have s1 : Same H (upd (upd H dx (.own p)) p (.ins C dx [])) := (same_upd ndx).trans (same_upd n2)
  exact ⟨p, dx, a, xs, ss, e, rfl, upd_same, s1.seq hS, SL.ts (TS.of s1) sl, bad, qe _ s1⟩
theorem ok_mirB {f fA : Addr} {fd fdA : FuncData} {k : Nat} (F : Fun K "mirror" "mirror" sMirror f fd) (gA : FnOk Pg w K mg base (L2N.CX Pg w) k fA fdA ["length", "sayings", "one", "other", "many", "turned"] (spBad K BL BS 4)) (bA : Binds K fdA ["length", "sayings", "one", "other", "many", "turned"] []) (kA : PySem.W.keepIn K (.ref fA) = true) (mA : mg "alike" = some (.ref fA)) (me : mg "enumerate" = none) : FnOk Pg w K mg base (L2N.CX Pg w) (k + 1) f fd ["length", "sayings", "at", "many"] (spBad K BL BS 2) := by
  refine okN F scMir (fun vs H Q E h => ?_) (fun cdv A outer s H vs Q E hr h => ?_)
  · obtain ⟨e, a, xs, ss, r, rfl, hl, _⟩ := h; simp [hl]
  obtain ⟨e, a, xs, ss, r, rfl, hl, hS, sl, bad, qe⟩ := h
  match r, hl with
  | [v0, v1], _ =>
  refine ⟨_, (pss_one (ps_ret (pe_call gA hr (by rfl) mA kA bA .nil (L2N.passes_call (L2N.takes_of rfl rfl rfl rfl) (fun _ _ _ _ h => h)) (pa_cons (pv 0) (pa_cons (pv 1) (pa_cons (pv 2) (pa_cons (pv 2) (pa_cons (pv 3) (pa_cons pe_bl pa_nil))))))))), ?_⟩
  exact ⟨.int e, rfl, .ref a, rfl, v0, rfl, v0, rfl, v1, rfl, e, a, xs, ss, [v0, v0, v1, .bl true], rfl, rfl, hS, sl, bad, qe⟩
theorem ok_wrongB {f fA : Addr} {fd fdA : FuncData} {k : Nat} (F : Fun K "wrong" "wrong" sWrong f fd) (gA : FnOk Pg w K mg base (L2N.CX Pg w) k fA fdA ["length", "sayings"] (spBad K BL BS 0)) (bA : Binds K fdA ["length", "sayings"] []) (kA : PySem.W.keepIn K (.ref fA) = true) (mA : mg "each_first" = some (.ref fA)) (me : mg "enumerate" = none) : FnOk Pg w K mg base (L2N.CX Pg w) (k + 1) f fd ["length", "sayings", "told"] (spBad K BL BS 1) := by
  refine okN F scWrong (fun vs H Q E h => ?_) (fun cdv A outer s H vs Q E hr h => ?_)
  · obtain ⟨e, a, xs, ss, r, rfl, hl, _⟩ := h; simp [hl]
  obtain ⟨e, a, xs, ss, r, rfl, hl, hS, sl, bad, qe⟩ := h
  match r, hl with
  | [v0], _ =>
  refine ⟨_, (pss_cons (ps_for (passes_of rfl) rfl (pi_enum (by rfl) me (pa_cons (pe_call gA hr (by rfl) mA kA bA .nil (L2N.passes_call (L2N.takes_of rfl rfl rfl rfl) (fun _ _ _ _ h => h)) (pa_cons (pv 0) (pa_cons (pv 1) pa_nil))) pa_nil)) (pg_tup rfl (pgs_cons (pg_name (i := 3) scWrong.nd rfl (.inl rfl)) (pgs_cons (pg_name (i := 4) scWrong.nd rfl (.inl rfl)) pgs_nil))) pss_never) pss_never), ?_⟩
  exact ⟨.int e, rfl, .ref a, rfl, e, a, xs, ss, [], rfl, rfl, hS, sl, bad, qe⟩
end
end Rep
namespace RepHot
open PySem PySem.Spec PyProof.Rows L2 L2H HotX
/-! an object made within a try -/
section
variable {X : Cx} {CX : CXT} {k : Nat} {f C : Addr} {fd : FuncData} {ps : List Str} {x : Str} {p pos : Pos} {e : Expr} {es : List Expr} {t : TA} {sp : Sp} {E : St → XK}
/-- C(e, ..): what the new object's __init__ raises is wished for at the caller's slots -/
def tMakeS (C : Addr) (sp : Sp) (E : St → XK) (t : TA) : TE := fun σ H Q => t σ H fun vs H1 => ∀ z d, H1 z = none → H1 d = none → d ≠ z → sp (.ref z :: vs) (upd (upd H1 d (.own z)) z (.ins C d [])) (fun v H2 => v = .non ∧ Q (.ref z) H2) (E σ)
theorem pe_makeS (M : Mk X.K C f) (F : FnOk X.prog X.w X.K X.mg X.base CX k f fd ps sp) (hr : Room (k + 1) X.A) (hg : Gl X x) (hm : X.mg x = some (.ref C)) (hb : Binds X.K fd ps []) (hx : ∀ σ, PassesAt CX X σ (E σ)) (ha : PA X (e :: es) t) (hdb : (x == ("__debug__" : Str)) = false := by decide)
    (he : starEach (e :: es) X.env = (false, eval e X.env) :: starEach es X.env := by rfl) (hpl : (backTo pos (starEach es X.env)).any (·.1) = false := by rfl) : PE X (.Call (.Name x p) (e :: es) [] pos) (tMakeS C sp E t) := by
  refine ⟨fun pins s σ H Q I h => wpAny_Call_Name_kw (ld_glob I hg hm (PySem.W.callWith_K (h₀ := X.base) I.ok.mod.kin M.kp (thn (ha.run pos pins s σ H _ I h) fun us s1 ⟨vs, H1, I1, r, q⟩ => ⟨I1.kIn, ?_⟩) he hpl) hdb)⟩
  have wish := q (s1.heap.objs.size + 1) s1.heap.objs.size (I1.hok.fresh (Nat.le_succ _)) (I1.hok.fresh (Nat.le_refl _)) (Nat.ne_of_lt (Nat.lt_succ_self _))
  have J := Inv.made (C := C) I1
  have rr : Vals (V.ref (s1.heap.objs.size + 1) :: vs) (Value.ref (s1.heap.objs.size + 1) :: us) := .cons rfl r
  have len : (Value.ref (s1.heap.objs.size + 1) :: us ++ []).length = ps.length := by
    rw [List.append_nil, ← rr.length]
    exact F.len _ _ _ _ wish
  have bound := hb _ (Value.ref (s1.heap.objs.size + 1) :: us) J.kIn len
  rw [List.append_nil] at bound
  refine wpAny_call (make_map (f := f) I1.kIn M.makes M.init (beq_iff_eq.mp M.fn) (codeAny_mono (F.run _ X.stack _ _ ⟨Value.ref (s1.heap.objs.size + 1) :: us, []⟩ _ _ _ (E σ) (hr.make C us []) (J.env0.make C us []) bound rr wish) fun res s2 hw => ?_))
  rcases res with er | fl
  · exact hx σ pins _ _ er s2 J hw
  cases fl with
  | ret u =>
    obtain ⟨v, H2, I2, rv, ev, w2⟩ := J.after hw
    subst ev
    exact ⟨rv, .ref _, H2, I2, rfl, w2⟩
  | next => exact hw.elim
  | brk => exact hw.elim
  | cont => exact hw.elim
end
end RepHot
namespace Rep
open PySem L2 L2H RepHot
def WordOk (e : Int) (ss : List Sy) (d : Nat) (z : Str) : Prop := (¬ In40 e → z = "BadLength") ∧ (In40 e → ¬ (∀ s ∈ ss, Good e s) → z = "BadStretch") ∧ (In40 e → (∀ s ∈ ss, Good e s) → z = if 7 < d ∧ d < 11 then "NoPlace" else "done")
def spTr (P BL BS : Addr) : Sp := fun vs H Q _ => ∃ (d : Nat) (e : Int) (a : Addr) (xs : List V) (ss : List Sy), vs = [.int (d : Int), .int e, .ref a] ∧ d < 12 ∧ H a = some (.lst xs) ∧ SL H xs ss ∧ TbO P H ∧ ss.length ≤ 4 ∧ (¬ BadS e ss → 1 ≤ e ∧ e ≤ 12) ∧ ∀ H' z, EX H H' → TbO P H' → WordOk e ss d z → Q (.str z) H'
def spSpo (K : PySem.W.Frag) : Sp := fun vs H Q _ => ∃ (a1 : Addr) (ns : List Int) (kk L : Int) (v : V) (s : Sy), vs = [.ref a1, .int kk, .int L, v] ∧ SqL K H a1 (ns.map V.int) ∧ ns.length ≤ 63 ∧ IsSy H v s ∧ ∀ H' t s', Same H H' → IsSy H' (.ref t) s' → Q (.ref t) H'
def spFt : Sp := fun vs H Q _ => ∃ (L : Int) (v : V) (s : Sy) , vs = [.int L, v] ∧ IsSy H v s ∧ ∀ b : Bool, (b = true ↔ Good L s) → Q (.bl b) H
theorem p44 : CPow 10 44 := ⟨by decide, by decide, by decide⟩
theorem dg44 : Dg ((10 : Int) ^ (44 : Int).toNat) := ⟨by decide +kernel, by decide +kernel⟩
def spSaysE (K : PySem.W.Frag) : Sp := fun vs H Q _ => ∃ (a : Addr) (ns : List Int) (k L : Int) (m : Nat), vs = [.ref a, .int k, .int L, .int (m : Int)] ∧ SqL K H a (ns.map V.int) ∧ ns.length ≤ 63 ∧ 0 ≤ L ∧ L ≤ 10 ^ 41 ∧ m ≤ 1000 ∧
  ∀ H' o xs ss, Same H H' → H o = none → H' o = some (.lst xs) → SL H' xs ss → (∀ s ∈ ss, Good L s) → ss.length ≤ m → (1 ≤ L → ss.length = m) → Q (.ref o) H'
section
variable {P : Program} {w : World} {K : PySem.W.Frag} {mg : Str → Option Value} {base : Heap}
theorem ok_saysE {f fS : Addr} {fd fdS : FuncData} {k : Nat} (F : Fun K "_law_sayings" "_law_sayings" s_law_sayings f fd) (GS : FnOk P w K mg base CX0 k fS fdS ["_law_script", "_law_k", "_law_length"] (spSay K)) (kS : PySem.W.keepIn K (.ref fS) = true) (bS : Binds K fdS ["_law_script", "_law_k", "_law_length"] []) (mS_ : mg "_law_saying" = some (.ref fS)) (mR : mg "range" = none) : FnOk P w K mg base CX0 (k + 1) f fd ["_law_script", "_law_k", "_law_length", "_law_many"] (spSaysE K) := by
  refine F.ok scSays (fun vs H Q E h => ?_) (fun cdv A outer s H vs Q E hr h => ?_)
  · obtain ⟨a, ns, z, L, m, rfl, _⟩ := h; rfl
  obtain ⟨a, ns, z, L, m, rfl, hS, h63, hL0, hL2, hm, q⟩ := h
  refine ⟨_, (pss_cons (ps_if (pt_cmpR op_lt (pv 2) pe_int (nomark _)) (pss_one (ps_ret (pe_lst pa_nil))) pss_nil)
    (pss_one (ps_ret (pe_lc (own := [("_law_at", 4)]) (g := (gName 4)) (tt := tYes) rfl scSays.nd (pi_range1 rfl mR (pa_cons (pv 3) pa_nil)) (blkOk_by (N := nSays) (sc := defScope s_law_sayings) (by decide +kernel)) (fun _ _ _ _ _ => (pg_name (i := 4) scSays.nd rfl (.inl rfl))) (fun _ _ _ _ _ => pts_nil) (fun _ _ _ _ _ => (pe_call GS hr (by rfl) mS_ kS bS .nil pass0 (pa_cons (pv 0) (pa_cons (pe_op op_add (pv 1) (pv 4)) (pa_cons (pv 2) pa_nil))))))))), ?_⟩
  refine ⟨.int L, rfl, _, 1, rfl, rfl, _, rfl, ite2 (fun c => ?_) (fun c => ?_)⟩
  · refine ⟨(by show 0 ≤ sizeLine; decide), fun o no => ?_⟩
    exact q _ o [] [] (same_upd no) no upd_same .nil (fun s hs => by cases hs) (Nat.zero_le _) (fun z => absurd (of_decide_eq_true c) (by omega))
  have c1 : ¬ L < 1 := fun e => c (decide_eq_true e)
  refine ⟨.int (m : Int), rfl, (m : Int), rfl, by omega, by omega, fun D nD => ?_⟩
  refine lc_range (n := m) (fun i H3 => ∃ xs ss, Same H H3 ∧ H3 D = some (.lst xs) ∧ SL H3 xs ss ∧ (∀ s ∈ ss, Good L s) ∧ ss.length = i) ⟨[], [], same_upd nD, upd_same, .nil, (fun s hs => by cases hs), rfl⟩ (fun i H3 hi hP => ?_) (fun H3 hP => ?_)
  · obtain ⟨xs, ss, sm, eD, sl, gd, hl⟩ := hP
    refine ⟨rfl, ?_⟩
    refine tYes_ok ?_
    refine iteT ?_
    refine ⟨.ref a, rfl, .int z, rfl, .int (0 + (i : Int)), rfl, _, _, rfl, rfl, .int L, rfl, a, ns, _, L, rfl, sm.seq hS, h63, by omega, hL2, fun H4 v s4 sm4 is4 g4 => ?_⟩
    refine ⟨xs, sm4 _ _ eD, ?_, xs ++ [v], ss ++ [s4], same_over (sm.trans sm4) nD, upd_same, SL.ts (TS.lst (sm4 _ _ eD)) ((SL.ts (TS.of sm4) sl).snoc is4), fun s hs => ?_, ?_⟩
    · rw [sl.len]; exact small1000 (by omega)
    · rcases List.mem_append.mp hs with hs | hs
      · exact gd s hs
      · rw [List.mem_singleton.mp hs]; exact g4
    · rw [List.length_append, List.length_singleton]; omega
  · obtain ⟨xs, ss, sm, eD, sl, gd, hl⟩ := hP
    exact q H3 D xs ss sm nD eD sl gd (by omega) (fun _ => hl)
end

theorem LL.set {α : Type} {D : Hp → V → α → Prop} {H : Hp} {vs : List V} {as : List α} (h : LL D H vs as) {k : Nat} {v : V} {a : α} (d : D H v a) : LL D H (vs.set k v) (as.set k a) := by
  refine ⟨by rw [List.length_set, List.length_set, h.len], fun i w b h1 h2 => ?_⟩
  by_cases c : k = i
  · subst c
    rw [List.getElem?_set_self' ] at h1 h2
    cases e1 : vs[k]? with
    | none => rw [e1] at h1; cases h1
    | some x =>
      cases e2 : as[k]? with
      | none => rw [e2] at h2; cases h2
      | some y =>
        rw [e1] at h1; rw [e2] at h2
        cases h1; cases h2
        exact d
  · rw [List.getElem?_set_ne c] at h1 h2
    exact h.at_ i w b h1 h2
theorem cuts_nil0 (n : Nat) : cutsF n 0 [] = [] := by
  cases n <;> rfl
theorem all_none (e : Int) : allCuts e [] = [] ∨ allCuts e [] = [⟨0, e, 0, false⟩] := by
  show cutsF e.toNat e [] = [] ∨ cutsF e.toNat e [] = [⟨0, e, 0, false⟩]
  cases h : e.toNat with
  | zero => exact .inl rfl
  | succ n =>
    unfold cutsF
    rw [if_neg (by omega), if_pos (show gE [] < e by show (0 : Int) < e; omega)]
    exact .inr (congrArg _ (cuts_nil0 n))
theorem f_none (e x : Int) : fOf (allCuts e []) x = x := by
  rcases all_none e with h | h
  · rw [h]; rfl
  · rw [h]
    show (if (0 : Int) ≤ x then (if (0 : Int) < 0 then _ else x) else x) = x
    split <;> rfl
theorem len_none (e : Int) : (allCuts e []).length ≤ 1 := by
  rcases all_none e with h | h <;> rw [h] <;> simp
theorem fst_none {e : Int} (h0 : 0 ≤ e) {R : List Pr} (r : FstOk e [] R) : wid R = e := by
  have hc : ∀ x, cov R x ↔ 0 ≤ x ∧ x < e := fun x => by
    rw [r.cov x, f_none]
    constructor
    · rintro ⟨a, b, _⟩; exact ⟨a, b⟩
    · rintro ⟨a, b⟩; exact ⟨a, b, rfl⟩
  by_cases c : e = 0
  · have e1 : R = [] := Tdy.uniq r.tdy ⟨(fun p hp => by cases hp), List.Pairwise.nil⟩ fun x => by
      rw [hc]
      constructor
      · intro z; omega
      · rintro ⟨p, hp, _⟩; cases hp
    rw [e1, c]; rfl
  · have e1 : R = [(0, e)] := Tdy.uniq r.tdy ⟨fun p hp => by rw [List.mem_singleton.mp hp]; show (0 : Int) < e; omega, List.pairwise_singleton _ _⟩ fun x => by
      rw [hc, cov_cons]
      constructor
      · intro z; exact .inl z
      · rintro (z | ⟨p, hp, _⟩)
        · exact z
        · cases hp
    rw [e1]
    show (e - 0) + 0 = e
    omega
end Rep
namespace Rep
open PySem L2 L2H RepHot
abbrev nTr : List Str := ["_law_door", "_law_length", "_law_sayings_here", "_law_word", "_law_e"]
theorem scTr : FnScope nTr ["_law_door", "_law_length", "_law_sayings_here"] (defScope s_law_tried) := ⟨rfl, rfl, rfl, by decide +kernel, rfl, by decide +kernel, by decide +kernel⟩
structure TTr (Pg : Program) (w : World) (K : PySem.W.Frag) (mg : Str → Option Value) (base : Heap) (P C BL BS NP RE : Addr) (cs : List Addr) (fA fP fB fI fF fH fD fW fK fC : Addr) (fdA fdP fdB fdI fdF fdH fdD fdW fdK fdC : FuncData) : Prop where
  gA : FnOk Pg w K mg base (L2N.CX Pg w) 12 fA fdA ["length", "sayings", "one", "other", "many", "turned"] (orS (spAlk K P) (spBad K BL BS 4))
  bA : Binds K fdA ["length", "sayings", "one", "other", "many", "turned"] []
  kA : PySem.W.keepIn K (.ref fA) = true
  mA : mg "alike" = some (.ref fA)
  gP : FnOk Pg w K mg base (L2N.CX Pg w) 12 fP fdP ["length", "sayings", "one", "other", "many", "turned"] (orS (spPt K P) (spBad K BL BS 4))
  bP : Binds K fdP ["length", "sayings", "one", "other", "many", "turned"] []
  kP : PySem.W.keepIn K (.ref fP) = true
  mP : mg "parted" = some (.ref fP)
  gB : FnOk Pg w K mg base (L2N.CX Pg w) 12 fB fdB ["length", "sayings", "at", "many", "step"] (orS (spBt K P) (spBad K BL BS 3))
  bB : Binds K fdB ["length", "sayings", "at", "many", "step"] []
  kB : PySem.W.keepIn K (.ref fB) = true
  mB : mg "beat" = some (.ref fB)
  gI : FnOk Pg w K mg base (L2N.CX Pg w) 12 fI fdI ["length", "sayings", "at", "many"] (orS (spMir K P) (spBad K BL BS 2))
  bI : Binds K fdI ["length", "sayings", "at", "many"] []
  kI : PySem.W.keepIn K (.ref fI) = true
  mI : mg "mirror" = some (.ref fI)
  gF : FnOk Pg w K mg base (L2N.CX Pg w) 12 fF fdF ["length", "sayings"] (orS (spEach K P) (spBad K BL BS 0))
  bF : Binds K fdF ["length", "sayings"] []
  kF : PySem.W.keepIn K (.ref fF) = true
  mF : mg "each_first" = some (.ref fF)
  gH : FnOk Pg w K mg base (L2N.CX Pg w) 12 fH fdH ["length", "sayings", "one", "other"] (orS (spPthX K NP) (spBad K BL BS 2))
  bH : Binds K fdH ["length", "sayings", "one", "other"] []
  kH : PySem.W.keepIn K (.ref fH) = true
  mH : mg "path" = some (.ref fH)
  gD : FnOk Pg w K mg base (L2N.CX Pg w) 12 fD fdD ["length", "sayings", "one", "steps"] (orS (spLdsX K NP) (spBad K BL BS 2))
  bD : Binds K fdD ["length", "sayings", "one", "steps"] []
  kD : PySem.W.keepIn K (.ref fD) = true
  mD : mg "leads" = some (.ref fD)
  gW : FnOk Pg w K mg base (L2N.CX Pg w) 12 fW fdW ["length", "sayings", "told"] (orS (spWrong K P) (spBad K BL BS 1))
  bW : Binds K fdW ["length", "sayings", "told"] []
  kW : PySem.W.keepIn K (.ref fW) = true
  mW : mg "wrong" = some (.ref fW)
  gK : FnP Pg w K mg base CX0 7 fK fdK ["_law_e"] (spKin K cs)
  bK : Binds K fdK ["_law_e"] []
  kK : PySem.W.keepIn K (.ref fK) = true
  mK : mg "_law_kin" = some (.ref fK)
  cl : Cls K C
  MC : Mk K C fC
  gC : FnOk Pg w K mg base (L2N.CX Pg w) 11 fC fdC ["self", "length", "sayings"] (orS (spInit K P C) (spInitB K C BL BS))
  bC : Binds K fdC ["self", "length", "sayings"] []
  mC : mg "Classes" = some (.ref C)
  mm : mg "min" = none
  mM : mg "max" = none
  mR : mg "range" = none
  mL : mg "list" = none
  gR : mg "RepriseError" = some (.ref RE)
  exN : PySem.W.exmOne K (.ref NP) (.ref RE) = some true
  kdN : KinD K cs NP 2
  exS : PySem.W.exmOne K (.ref BS) (.ref RE) = some true
  kdS : KinD K cs BS 1
  exL : PySem.W.exmOne K (.ref BL) (.ref RE) = some true
  kdL : KinD K cs BL 0
section
variable {Pg : Program} {w : World} {K : PySem.W.Frag} {mg : Str → Option Value} {base : Heap}
theorem ok_tr {f P C BL BS NP RE : Addr} {cs : List Addr} {fA fP fB fI fF fH fD fW fK fC : Addr} {fd fdA fdP fdB fdI fdF fdH fdD fdW fdK fdC : FuncData} (F : Fun K "_law_tried" "_law_tried" s_law_tried f fd) (T : TTr Pg w K mg base P C BL BS NP RE cs fA fP fB fI fF fH fD fW fK fC fdA fdP fdB fdI fdF fdH fdD fdW fdK fdC) : FnOk Pg w K mg base CX0 13 f fd ["_law_door", "_law_length", "_law_sayings_here"] (spTr P BL BS) := by
  refine F.ok scTr (fun vs H Q E h => ?_) (fun cdv A outer s H vs Q E hr h => ?_)
  · obtain ⟨d, e, a, xs, ss, rfl, _⟩ := h; rfl
  obtain ⟨d, e, a, xs, ss, rfl, hd, ha, sl, tb, hl, hgood, q⟩ := h
  have r12 : Room 12 _ := hr
  have r7 : Room 7 _ := hr.mono (by decide)
  refine ⟨_, (C8.pss_cut (ps_set (i := 3) scTr.nd rfl (.inl rfl) pe_str)
    (C8.pss_cut (L2N.ps_try_as (i := 4) rfl rfl scTr.nd rfl rfl ⟨rfl, by decide, .inl T.gR⟩ takesN
      (fun W pn xe tk _ => (pss_one (ps_if (pt_cmpR op_eq (pv 0) pe_int (nomark _)) (pss_one (ps_expr (pe_makeS T.MC T.gC r12 (by rfl) T.mC T.bC (fun σ => L2N.passAt tk σ) (pa_cons (pv 1) (pa_cons (pv 2) pa_nil))))) (pss_one (ps_if (pt_cmpR op_eq (pv 0) pe_int (nomark _)) (pss_one (ps_expr (pe_callS T.gA r12 (by rfl) T.mA T.kA T.bA (fun σ => L2N.passAt tk σ) (pa_cons (pv 1) (pa_cons (pv 2) (pa_cons pe_int (pa_cons pe_int (pa_cons pe_int (pa_cons pe_bl pa_nil))))))))) (pss_one (ps_if (pt_cmpR op_eq (pv 0) pe_int (nomark _)) (pss_one (ps_expr (pe_callS T.gP r12 (by rfl) T.mP T.kP T.bP (fun σ => L2N.passAt tk σ) (pa_cons (pv 1) (pa_cons (pv 2) (pa_cons pe_int (pa_cons pe_int (pa_cons pe_int (pa_cons pe_bl pa_nil))))))))) (pss_one (ps_if (pt_cmpR op_eq (pv 0) pe_int (nomark _)) (pss_one (ps_expr (pe_callS T.gB r12 (by rfl) T.mB T.kB T.bB (fun σ => L2N.passAt tk σ) (pa_cons (pv 1) (pa_cons (pv 2) (pa_cons pe_int (pa_cons pe_int (pa_cons pe_int pa_nil)))))))) (pss_one (ps_if (pt_cmpR op_eq (pv 0) pe_int (nomark _)) (pss_one (ps_expr (pe_callS T.gI r12 (by rfl) T.mI T.kI T.bI (fun σ => L2N.passAt tk σ) (pa_cons (pv 1) (pa_cons (pv 2) (pa_cons pe_int (pa_cons pe_int pa_nil))))))) (pss_one (ps_if (pt_cmpR op_eq (pv 0) pe_int (nomark _)) (pss_one (ps_expr (pe_callS T.gF r12 (by rfl) T.mF T.kF T.bF (fun σ => L2N.passAt tk σ) (pa_cons (pv 1) (pa_cons (pv 2) pa_nil))))) (pss_one (ps_if (pt_cmpR op_eq (pv 0) pe_int (nomark _)) (pss_one (ps_expr (pe_callS T.gH r12 (by rfl) T.mH T.kH T.bH (fun σ => L2N.passAt tk σ) (pa_cons (pv 1) (pa_cons (pv 2) (pa_cons pe_int (pa_cons pe_int pa_nil))))))) (pss_one (ps_if (pt_cmpR op_eq (pv 0) pe_int (nomark _)) (pss_one (ps_expr (pe_callS T.gD r12 (by rfl) T.mD T.kD T.bD (fun σ => L2N.passAt tk σ) (pa_cons (pv 1) (pa_cons (pv 2) (pa_cons pe_int (pa_cons (pe_lst pa_nil) pa_nil))))))) (pss_one (ps_if (pt_cmpR op_eq (pv 0) pe_int (nomark _)) (pss_one (ps_expr (pe_callS T.gH r12 (by rfl) T.mH T.kH T.bH (fun σ => L2N.passAt tk σ) (pa_cons (pv 1) (pa_cons (pv 2) (pa_cons (pe_un un_neg pe_int) (pa_cons pe_int pa_nil))))))) (pss_one (ps_if (pt_cmpR op_eq (pv 0) pe_int (nomark _)) (pss_one (ps_expr (pe_callS T.gH r12 (by rfl) T.mH T.kH T.bH (fun σ => L2N.passAt tk σ) (pa_cons (pv 1) (pa_cons (pv 2) (pa_cons pe_int (pa_cons (pe_un un_neg pe_int) pa_nil))))))) (pss_one (ps_if (pt_cmpR op_eq (pv 0) pe_int (nomark _)) (pss_one (ps_expr (pe_callS T.gD r12 (by rfl) T.mD T.kD T.bD (fun σ => L2N.passAt tk σ) (pa_cons (pv 1) (pa_cons (pv 2) (pa_cons (pe_un un_neg pe_int) (pa_cons (pe_lst pa_nil) pa_nil))))))) (pss_one (ps_expr (pe_callS T.gW r12 (by rfl) T.mW T.kW T.bW (fun σ => L2N.passAt tk σ) (pa_cons (pv 1) (pa_cons (pv 2) (pa_cons (pe_listRg rfl (by rfl) T.mL (prg_1 (by rfl) T.mR (pe_callB (call_min2 rfl) (by rfl) T.mm (by decide +kernel) (pa_cons pe_int (pa_cons (pe_callB (call_max2 rfl) (by rfl) T.mM (by decide +kernel) (pa_cons pe_int (pa_cons (pv 1) pa_nil))) pa_nil))))) pa_nil)))))))))))))))))))))))))))))
      (fun a oe cls d pn hz hf => (pss_one (ps_set (i := 3) scTr.nd rfl (.inl rfl) (pe_callP T.gK (room_suite r7) (hot_of hz hf) List.mem_cons_self hz.zc (by rfl) T.mK T.kK T.bK (pa_cons (pv 4) pa_nil))))))
    (pss_one (ps_ret (pv 3))))), ?_⟩
  refine ⟨fun σ' H' => σ' = [some (.int (d : Int)), some (.int e), some (.ref a), some (.str "done"), none] ∧ H' = H, ⟨rfl, rfl⟩, ?_⟩
  rintro σ' H2 ⟨rfl, eH⟩
  subst eH
  refine ⟨fun σ' H' => ∃ (z : Str) (y4 : Option V), σ' = [some (.int (d : Int)), some (.int e), some (.ref a), some (.str z), y4] ∧ EX H2 H' ∧ TbO P H' ∧ WordOk e ss d z, ?_, fun σ' H' ⟨z, y4, e1, x, t, w⟩ => ?_⟩
  rotate_left
  · subst e1
    exact ⟨.str z, rfl, q H' z x t w⟩
  clear q
  have rgk : RgOk 0 (if (if e > 0 then e else 0) < 12 then (if e > 0 then e else 0) else 12) := RgOk.of_le (by decide) (by split <;> split <;> omega) (by decide) (by split <;> split <;> omega)
  by_cases bad : BadS e ss
  · have eb : ∃ (c : Addr) (j : Nat), badC BL BS e = c ∧ PySem.W.exmOne K (.ref c) (.ref RE) = some true ∧ KinD K cs c j ∧ WordOk e ss d (kinWord j) := by
      by_cases i40 : In40 e
      · exact ⟨BS, 1, if_pos i40, T.exS, T.kdS, fun h => absurd i40 h, fun _ _ => rfl, fun _ h => absurd ⟨i40, h⟩ bad⟩
      · exact ⟨BL, 0, if_neg i40, T.exL, T.kdL, fun _ => rfl, fun h => absurd h i40, fun h => absurd h i40⟩
    obtain ⟨c, j, ec, exm, kd, wok⟩ := eb
    clear hgood
    match d, hd with
    | 0, _ =>
      refine ⟨.int ((0 : Nat) : Int), rfl, rfl, true, rfl, iteT ?_⟩
      refine ⟨.int e, rfl, .ref a, rfl, fun p dx np ndx ne => ?_⟩
      have n2 : upd H2 dx (.own p) p = none := by rw [upd_ne ne.symm]; exact np
      have s1 : Same H2 (upd (upd H2 dx (.own p)) p (.ins C dx [])) := (same_upd ndx).trans (same_upd n2)
      refine .inr ⟨p, dx, a, xs, ss, e, rfl, upd_same, .inl (.inl (s1 _ _ ha)), SL.ts (TS.of s1) sl, bad, ?_⟩
      rw [ec]
      exact ⟨true, exm, fun _ x9 na => ⟨.ref x9, rfl, c, j, rfl, rfl, kd, rfl, fun H5 s5 => ⟨_, _, rfl, (EX.of s1).trans (EX.of s5), (tb.ext s1).ext s5, wok⟩⟩, fun z => nomatch z⟩
    | 1, _ =>
      refine ⟨.int ((1 : Nat) : Int), rfl, rfl, false, rfl, iteF ?_⟩
      refine ⟨.int ((1 : Nat) : Int), rfl, rfl, true, rfl, iteT ?_⟩
      refine ⟨.int e, rfl, .ref a, rfl, .inr ⟨e, a, xs, ss, [.int 0, .int 0, .int 1, .bl false], rfl, rfl, .inl (.inl ha), sl, bad, fun H4 s4 => ?_⟩⟩
      rw [ec]
      exact ⟨true, exm, fun _ x9 na => ⟨.ref x9, rfl, c, j, rfl, rfl, kd, rfl, fun H5 s5 => ⟨_, _, rfl, (EX.of s4).trans (EX.of s5), (tb.ext s4).ext s5, wok⟩⟩, fun z => nomatch z⟩
    | 2, _ =>
      refine ⟨.int ((2 : Nat) : Int), rfl, rfl, false, rfl, iteF ?_⟩
      refine ⟨.int ((2 : Nat) : Int), rfl, rfl, false, rfl, iteF ?_⟩
      refine ⟨.int ((2 : Nat) : Int), rfl, rfl, true, rfl, iteT ?_⟩
      refine ⟨.int e, rfl, .ref a, rfl, .inr ⟨e, a, xs, ss, [.int 0, .int 0, .int 1, .bl true], rfl, rfl, .inl (.inl ha), sl, bad, fun H4 s4 => ?_⟩⟩
      rw [ec]
      exact ⟨true, exm, fun _ x9 na => ⟨.ref x9, rfl, c, j, rfl, rfl, kd, rfl, fun H5 s5 => ⟨_, _, rfl, (EX.of s4).trans (EX.of s5), (tb.ext s4).ext s5, wok⟩⟩, fun z => nomatch z⟩
    | 3, _ =>
      refine ⟨.int ((3 : Nat) : Int), rfl, rfl, false, rfl, iteF ?_⟩
      refine ⟨.int ((3 : Nat) : Int), rfl, rfl, false, rfl, iteF ?_⟩
      refine ⟨.int ((3 : Nat) : Int), rfl, rfl, false, rfl, iteF ?_⟩
      refine ⟨.int ((3 : Nat) : Int), rfl, rfl, true, rfl, iteT ?_⟩
      refine ⟨.int e, rfl, .ref a, rfl, .inr ⟨e, a, xs, ss, [.int 0, .int 1, .int 1], rfl, rfl, .inl (.inl ha), sl, bad, fun H4 s4 => ?_⟩⟩
      rw [ec]
      exact ⟨true, exm, fun _ x9 na => ⟨.ref x9, rfl, c, j, rfl, rfl, kd, rfl, fun H5 s5 => ⟨_, _, rfl, (EX.of s4).trans (EX.of s5), (tb.ext s4).ext s5, wok⟩⟩, fun z => nomatch z⟩
    | 4, _ =>
      refine ⟨.int ((4 : Nat) : Int), rfl, rfl, false, rfl, iteF ?_⟩
      refine ⟨.int ((4 : Nat) : Int), rfl, rfl, false, rfl, iteF ?_⟩
      refine ⟨.int ((4 : Nat) : Int), rfl, rfl, false, rfl, iteF ?_⟩
      refine ⟨.int ((4 : Nat) : Int), rfl, rfl, false, rfl, iteF ?_⟩
      refine ⟨.int ((4 : Nat) : Int), rfl, rfl, true, rfl, iteT ?_⟩
      refine ⟨.int e, rfl, .ref a, rfl, .inr ⟨e, a, xs, ss, [.int 0, .int 1], rfl, rfl, .inl (.inl ha), sl, bad, fun H4 s4 => ?_⟩⟩
      rw [ec]
      exact ⟨true, exm, fun _ x9 na => ⟨.ref x9, rfl, c, j, rfl, rfl, kd, rfl, fun H5 s5 => ⟨_, _, rfl, (EX.of s4).trans (EX.of s5), (tb.ext s4).ext s5, wok⟩⟩, fun z => nomatch z⟩
    | 5, _ =>
      refine ⟨.int ((5 : Nat) : Int), rfl, rfl, false, rfl, iteF ?_⟩
      refine ⟨.int ((5 : Nat) : Int), rfl, rfl, false, rfl, iteF ?_⟩
      refine ⟨.int ((5 : Nat) : Int), rfl, rfl, false, rfl, iteF ?_⟩
      refine ⟨.int ((5 : Nat) : Int), rfl, rfl, false, rfl, iteF ?_⟩
      refine ⟨.int ((5 : Nat) : Int), rfl, rfl, false, rfl, iteF ?_⟩
      refine ⟨.int ((5 : Nat) : Int), rfl, rfl, true, rfl, iteT ?_⟩
      refine ⟨.int e, rfl, .ref a, rfl, .inr ⟨e, a, xs, ss, [], rfl, rfl, .inl (.inl ha), sl, bad, fun H4 s4 => ?_⟩⟩
      rw [ec]
      exact ⟨true, exm, fun _ x9 na => ⟨.ref x9, rfl, c, j, rfl, rfl, kd, rfl, fun H5 s5 => ⟨_, _, rfl, (EX.of s4).trans (EX.of s5), (tb.ext s4).ext s5, wok⟩⟩, fun z => nomatch z⟩
    | 6, _ =>
      refine ⟨.int ((6 : Nat) : Int), rfl, rfl, false, rfl, iteF ?_⟩
      refine ⟨.int ((6 : Nat) : Int), rfl, rfl, false, rfl, iteF ?_⟩
      refine ⟨.int ((6 : Nat) : Int), rfl, rfl, false, rfl, iteF ?_⟩
      refine ⟨.int ((6 : Nat) : Int), rfl, rfl, false, rfl, iteF ?_⟩
      refine ⟨.int ((6 : Nat) : Int), rfl, rfl, false, rfl, iteF ?_⟩
      refine ⟨.int ((6 : Nat) : Int), rfl, rfl, false, rfl, iteF ?_⟩
      refine ⟨.int ((6 : Nat) : Int), rfl, rfl, true, rfl, iteT ?_⟩
      refine ⟨.int e, rfl, .ref a, rfl, .inr ⟨e, a, xs, ss, [.int 0, .int 0], rfl, rfl, .inl (.inl ha), sl, bad, fun H4 s4 => ?_⟩⟩
      rw [ec]
      exact ⟨true, exm, fun _ x9 na => ⟨.ref x9, rfl, c, j, rfl, rfl, kd, rfl, fun H5 s5 => ⟨_, _, rfl, (EX.of s4).trans (EX.of s5), (tb.ext s4).ext s5, wok⟩⟩, fun z => nomatch z⟩
    | 7, _ =>
      refine ⟨.int ((7 : Nat) : Int), rfl, rfl, false, rfl, iteF ?_⟩
      refine ⟨.int ((7 : Nat) : Int), rfl, rfl, false, rfl, iteF ?_⟩
      refine ⟨.int ((7 : Nat) : Int), rfl, rfl, false, rfl, iteF ?_⟩
      refine ⟨.int ((7 : Nat) : Int), rfl, rfl, false, rfl, iteF ?_⟩
      refine ⟨.int ((7 : Nat) : Int), rfl, rfl, false, rfl, iteF ?_⟩
      refine ⟨.int ((7 : Nat) : Int), rfl, rfl, false, rfl, iteF ?_⟩
      refine ⟨.int ((7 : Nat) : Int), rfl, rfl, false, rfl, iteF ?_⟩
      refine ⟨.int ((7 : Nat) : Int), rfl, rfl, true, rfl, iteT ?_⟩
      refine ⟨.int e, rfl, .ref a, rfl, ?_⟩
      refine ⟨szN 0 rfl, fun l n_l => ?_⟩
      generalize e_l : upd H2 l _ = H3
      have s3 := new_same e_l n_l
      have z3 := new_at e_l
      clear e_l
      refine .inr ⟨e, a, xs, ss, [.int 0, .ref l], rfl, rfl, .inl (.inl (s3 _ _ ha)), SL.ts (TS.of s3) sl, bad, fun H4 s4 => ?_⟩
      rw [ec]
      exact ⟨true, exm, fun _ x9 na => ⟨.ref x9, rfl, c, j, rfl, rfl, kd, rfl, fun H5 s5 => ⟨_, _, rfl, (EX.of (s3.trans s4)).trans (EX.of s5), (tb.ext (s3.trans s4)).ext s5, wok⟩⟩, fun z => nomatch z⟩
    | 8, _ =>
      refine ⟨.int ((8 : Nat) : Int), rfl, rfl, false, rfl, iteF ?_⟩
      refine ⟨.int ((8 : Nat) : Int), rfl, rfl, false, rfl, iteF ?_⟩
      refine ⟨.int ((8 : Nat) : Int), rfl, rfl, false, rfl, iteF ?_⟩
      refine ⟨.int ((8 : Nat) : Int), rfl, rfl, false, rfl, iteF ?_⟩
      refine ⟨.int ((8 : Nat) : Int), rfl, rfl, false, rfl, iteF ?_⟩
      refine ⟨.int ((8 : Nat) : Int), rfl, rfl, false, rfl, iteF ?_⟩
      refine ⟨.int ((8 : Nat) : Int), rfl, rfl, false, rfl, iteF ?_⟩
      refine ⟨.int ((8 : Nat) : Int), rfl, rfl, false, rfl, iteF ?_⟩
      refine ⟨.int ((8 : Nat) : Int), rfl, rfl, true, rfl, iteT ?_⟩
      refine ⟨.int e, rfl, .ref a, rfl, 1, rfl, .inr ⟨e, a, xs, ss, [.int (-1), .int 0], rfl, rfl, .inl (.inl ha), sl, bad, fun H4 s4 => ?_⟩⟩
      rw [ec]
      exact ⟨true, exm, fun _ x9 na => ⟨.ref x9, rfl, c, j, rfl, rfl, kd, rfl, fun H5 s5 => ⟨_, _, rfl, (EX.of s4).trans (EX.of s5), (tb.ext s4).ext s5, wok⟩⟩, fun z => nomatch z⟩
    | 9, _ =>
      refine ⟨.int ((9 : Nat) : Int), rfl, rfl, false, rfl, iteF ?_⟩
      refine ⟨.int ((9 : Nat) : Int), rfl, rfl, false, rfl, iteF ?_⟩
      refine ⟨.int ((9 : Nat) : Int), rfl, rfl, false, rfl, iteF ?_⟩
      refine ⟨.int ((9 : Nat) : Int), rfl, rfl, false, rfl, iteF ?_⟩
      refine ⟨.int ((9 : Nat) : Int), rfl, rfl, false, rfl, iteF ?_⟩
      refine ⟨.int ((9 : Nat) : Int), rfl, rfl, false, rfl, iteF ?_⟩
      refine ⟨.int ((9 : Nat) : Int), rfl, rfl, false, rfl, iteF ?_⟩
      refine ⟨.int ((9 : Nat) : Int), rfl, rfl, false, rfl, iteF ?_⟩
      refine ⟨.int ((9 : Nat) : Int), rfl, rfl, false, rfl, iteF ?_⟩
      refine ⟨.int ((9 : Nat) : Int), rfl, rfl, true, rfl, iteT ?_⟩
      refine ⟨.int e, rfl, .ref a, rfl, 1, rfl, .inr ⟨e, a, xs, ss, [.int 0, .int (-1)], rfl, rfl, .inl (.inl ha), sl, bad, fun H4 s4 => ?_⟩⟩
      rw [ec]
      exact ⟨true, exm, fun _ x9 na => ⟨.ref x9, rfl, c, j, rfl, rfl, kd, rfl, fun H5 s5 => ⟨_, _, rfl, (EX.of s4).trans (EX.of s5), (tb.ext s4).ext s5, wok⟩⟩, fun z => nomatch z⟩
    | 10, _ =>
      refine ⟨.int ((10 : Nat) : Int), rfl, rfl, false, rfl, iteF ?_⟩
      refine ⟨.int ((10 : Nat) : Int), rfl, rfl, false, rfl, iteF ?_⟩
      refine ⟨.int ((10 : Nat) : Int), rfl, rfl, false, rfl, iteF ?_⟩
      refine ⟨.int ((10 : Nat) : Int), rfl, rfl, false, rfl, iteF ?_⟩
      refine ⟨.int ((10 : Nat) : Int), rfl, rfl, false, rfl, iteF ?_⟩
      refine ⟨.int ((10 : Nat) : Int), rfl, rfl, false, rfl, iteF ?_⟩
      refine ⟨.int ((10 : Nat) : Int), rfl, rfl, false, rfl, iteF ?_⟩
      refine ⟨.int ((10 : Nat) : Int), rfl, rfl, false, rfl, iteF ?_⟩
      refine ⟨.int ((10 : Nat) : Int), rfl, rfl, false, rfl, iteF ?_⟩
      refine ⟨.int ((10 : Nat) : Int), rfl, rfl, false, rfl, iteF ?_⟩
      refine ⟨.int ((10 : Nat) : Int), rfl, rfl, true, rfl, iteT ?_⟩
      refine ⟨.int e, rfl, .ref a, rfl, 1, rfl, ?_⟩
      refine ⟨szN 0 rfl, fun l n_l => ?_⟩
      generalize e_l : upd H2 l _ = H3
      have s3 := new_same e_l n_l
      have z3 := new_at e_l
      clear e_l
      refine .inr ⟨e, a, xs, ss, [.int (-1), .ref l], rfl, rfl, .inl (.inl (s3 _ _ ha)), SL.ts (TS.of s3) sl, bad, fun H4 s4 => ?_⟩
      rw [ec]
      exact ⟨true, exm, fun _ x9 na => ⟨.ref x9, rfl, c, j, rfl, rfl, kd, rfl, fun H5 s5 => ⟨_, _, rfl, (EX.of (s3.trans s4)).trans (EX.of s5), (tb.ext (s3.trans s4)).ext s5, wok⟩⟩, fun z => nomatch z⟩
    | 11, _ =>
      refine ⟨.int ((11 : Nat) : Int), rfl, rfl, false, rfl, iteF ?_⟩
      refine ⟨.int ((11 : Nat) : Int), rfl, rfl, false, rfl, iteF ?_⟩
      refine ⟨.int ((11 : Nat) : Int), rfl, rfl, false, rfl, iteF ?_⟩
      refine ⟨.int ((11 : Nat) : Int), rfl, rfl, false, rfl, iteF ?_⟩
      refine ⟨.int ((11 : Nat) : Int), rfl, rfl, false, rfl, iteF ?_⟩
      refine ⟨.int ((11 : Nat) : Int), rfl, rfl, false, rfl, iteF ?_⟩
      refine ⟨.int ((11 : Nat) : Int), rfl, rfl, false, rfl, iteF ?_⟩
      refine ⟨.int ((11 : Nat) : Int), rfl, rfl, false, rfl, iteF ?_⟩
      refine ⟨.int ((11 : Nat) : Int), rfl, rfl, false, rfl, iteF ?_⟩
      refine ⟨.int ((11 : Nat) : Int), rfl, rfl, false, rfl, iteF ?_⟩
      refine ⟨.int ((11 : Nat) : Int), rfl, rfl, false, rfl, iteF ?_⟩
      refine ⟨.int e, rfl, .ref a, rfl, .int e, rfl, 0, e, rfl, 12, _, rfl, _, rfl, rgk, ?_⟩
      intro l n_l
      generalize e_l : upd H2 l _ = H3
      have s3 := new_same e_l n_l
      have z3 := new_at e_l
      clear e_l
      refine .inr ⟨e, a, xs, ss, [.ref l], rfl, rfl, .inl (.inl (s3 _ _ ha)), SL.ts (TS.of s3) sl, bad, fun H4 s4 => ?_⟩
      rw [ec]
      exact ⟨true, exm, fun _ x9 na => ⟨.ref x9, rfl, c, j, rfl, rfl, kd, rfl, fun H5 s5 => ⟨_, _, rfl, (EX.of (s3.trans s4)).trans (EX.of s5), (tb.ext (s3.trans s4)).ext s5, wok⟩⟩, fun z => nomatch z⟩
    | d + 12, hd => omega
  · obtain ⟨e1, e12⟩ := hgood bad
    have i40 : In40 e := Classical.byContradiction fun z => bad fun y => z y.1
    have gd : ∀ s ∈ ss, Good e s := Classical.byContradiction fun z => bad fun y => z y.2
    clear bad
    obtain ⟨n, rfl⟩ : ∃ n : Nat, e = (n : Int) := ⟨e.toNat, by omega⟩
    have sg : Song P H2 a (n : Int) ss := ⟨⟨xs, ha, sl⟩, gd, tb, by omega, i40.2, by omega, (by have := all_len (e := (n : Int)) (ss := ss); omega), fun s _ => (by have := all_len (e := (n : Int)) (ss := ss ++ [s]); omega)⟩
    match d, hd with
    | 0, _ =>
      have wok : WordOk ((n : Nat) : Int) ss 0 "done" := ⟨fun h => absurd i40 h, fun _ h => absurd gd h, fun _ _ => by decide +kernel⟩
      refine ⟨.int ((0 : Nat) : Int), rfl, rfl, true, rfl, iteT ?_⟩
      refine ⟨.int (n : Int), rfl, .ref a, rfl, fun p dx np ndx ne => .inl ?_⟩
      refine make_cls ha sl tb gd sg.h0 sg.h1 (by omega) sg.ct np ndx ne (fun H5 x t nw ca => ?_)
      exact ⟨_, _, rfl, x, t, wok⟩
    | 1, _ =>
      have wok : WordOk ((n : Nat) : Int) ss 1 "done" := ⟨fun h => absurd i40 h, fun _ h => absurd gd h, fun _ _ => by decide +kernel⟩
      refine ⟨.int ((1 : Nat) : Int), rfl, rfl, false, rfl, iteF ?_⟩
      refine ⟨.int ((1 : Nat) : Int), rfl, rfl, true, rfl, iteT ?_⟩
      refine ⟨.int (n : Int), rfl, .ref a, rfl, .inl ⟨a, (n : Int), ss, ⟨0, 0, 1, false⟩, rfl, sg, (by show 0 ≤ (0 : Int) ∧ 0 ≤ (0 : Int) ∧ 1 ≤ (1 : Int) ∧ 0 + 1 ≤ (n : Int) ∧ 0 + 1 ≤ (n : Int); omega), fun H5 b x t hb => ?_⟩⟩
      exact ⟨_, _, rfl, x, t, wok⟩
    | 2, _ =>
      have wok : WordOk ((n : Nat) : Int) ss 2 "done" := ⟨fun h => absurd i40 h, fun _ h => absurd gd h, fun _ _ => by decide +kernel⟩
      refine ⟨.int ((2 : Nat) : Int), rfl, rfl, false, rfl, iteF ?_⟩
      refine ⟨.int ((2 : Nat) : Int), rfl, rfl, false, rfl, iteF ?_⟩
      refine ⟨.int ((2 : Nat) : Int), rfl, rfl, true, rfl, iteT ?_⟩
      refine ⟨.int (n : Int), rfl, .ref a, rfl, .inl ⟨a, (n : Int), ss, ⟨0, 0, 1, true⟩, rfl, sg, (by show 0 ≤ (0 : Int) ∧ 0 ≤ (0 : Int) ∧ 1 ≤ (1 : Int) ∧ 0 + 1 ≤ (n : Int) ∧ 0 + 1 ≤ (n : Int); omega), fun H5 b x t hb => ?_⟩⟩
      exact ⟨_, _, rfl, x, t, wok⟩
    | 3, _ =>
      have wok : WordOk ((n : Nat) : Int) ss 3 "done" := ⟨fun h => absurd i40 h, fun _ h => absurd gd h, fun _ _ => by decide +kernel⟩
      refine ⟨.int ((3 : Nat) : Int), rfl, rfl, false, rfl, iteF ?_⟩
      refine ⟨.int ((3 : Nat) : Int), rfl, rfl, false, rfl, iteF ?_⟩
      refine ⟨.int ((3 : Nat) : Int), rfl, rfl, false, rfl, iteF ?_⟩
      refine ⟨.int ((3 : Nat) : Int), rfl, rfl, true, rfl, iteT ?_⟩
      refine ⟨.int (n : Int), rfl, .ref a, rfl, .inl ⟨a, (n : Int), ss, 0, 1, 1, rfl, sg, by omega, by omega, by omega, by omega, fun H5 b x t hb => ?_⟩⟩
      exact ⟨_, _, rfl, x, t, wok⟩
    | 4, _ =>
      have wok : WordOk ((n : Nat) : Int) ss 4 "done" := ⟨fun h => absurd i40 h, fun _ h => absurd gd h, fun _ _ => by decide +kernel⟩
      refine ⟨.int ((4 : Nat) : Int), rfl, rfl, false, rfl, iteF ?_⟩
      refine ⟨.int ((4 : Nat) : Int), rfl, rfl, false, rfl, iteF ?_⟩
      refine ⟨.int ((4 : Nat) : Int), rfl, rfl, false, rfl, iteF ?_⟩
      refine ⟨.int ((4 : Nat) : Int), rfl, rfl, false, rfl, iteF ?_⟩
      refine ⟨.int ((4 : Nat) : Int), rfl, rfl, true, rfl, iteT ?_⟩
      refine ⟨.int (n : Int), rfl, .ref a, rfl, .inl ⟨a, (n : Int), ss, 0, 1, rfl, sg, by omega, by omega, by omega, fun H5 b x t hb => ?_⟩⟩
      exact ⟨_, _, rfl, x, t, wok⟩
    | 5, _ =>
      have wok : WordOk ((n : Nat) : Int) ss 5 "done" := ⟨fun h => absurd i40 h, fun _ h => absurd gd h, fun _ _ => by decide +kernel⟩
      refine ⟨.int ((5 : Nat) : Int), rfl, rfl, false, rfl, iteF ?_⟩
      refine ⟨.int ((5 : Nat) : Int), rfl, rfl, false, rfl, iteF ?_⟩
      refine ⟨.int ((5 : Nat) : Int), rfl, rfl, false, rfl, iteF ?_⟩
      refine ⟨.int ((5 : Nat) : Int), rfl, rfl, false, rfl, iteF ?_⟩
      refine ⟨.int ((5 : Nat) : Int), rfl, rfl, false, rfl, iteF ?_⟩
      refine ⟨.int ((5 : Nat) : Int), rfl, rfl, true, rfl, iteT ?_⟩
      refine ⟨.int (n : Int), rfl, .ref a, rfl, .inl ⟨a, xs, ss, n, rfl, ha, sl, tb, gd, by omega, by omega, fun H5 l x t nl el => ?_⟩⟩
      exact ⟨_, _, rfl, x, t, wok⟩
    | 6, _ =>
      have wok : WordOk ((n : Nat) : Int) ss 6 "done" := ⟨fun h => absurd i40 h, fun _ h => absurd gd h, fun _ _ => by decide +kernel⟩
      refine ⟨.int ((6 : Nat) : Int), rfl, rfl, false, rfl, iteF ?_⟩
      refine ⟨.int ((6 : Nat) : Int), rfl, rfl, false, rfl, iteF ?_⟩
      refine ⟨.int ((6 : Nat) : Int), rfl, rfl, false, rfl, iteF ?_⟩
      refine ⟨.int ((6 : Nat) : Int), rfl, rfl, false, rfl, iteF ?_⟩
      refine ⟨.int ((6 : Nat) : Int), rfl, rfl, false, rfl, iteF ?_⟩
      refine ⟨.int ((6 : Nat) : Int), rfl, rfl, false, rfl, iteF ?_⟩
      refine ⟨.int ((6 : Nat) : Int), rfl, rfl, true, rfl, iteT ?_⟩
      refine ⟨.int (n : Int), rfl, .ref a, rfl, .inl ⟨a, xs, ss, 0, 0, n, rfl, .inl (.inl ha), sl, gd, by omega, by omega, fun _ H4 v s4 wv => ?_, fun z => absurd ⟨by omega, by omega, by omega, by omega⟩ z⟩⟩
      exact ⟨_, _, rfl, EX.of s4, tb.ext s4, wok⟩
    | 7, _ =>
      have wok : WordOk ((n : Nat) : Int) ss 7 "done" := ⟨fun h => absurd i40 h, fun _ h => absurd gd h, fun _ _ => by decide +kernel⟩
      refine ⟨.int ((7 : Nat) : Int), rfl, rfl, false, rfl, iteF ?_⟩
      refine ⟨.int ((7 : Nat) : Int), rfl, rfl, false, rfl, iteF ?_⟩
      refine ⟨.int ((7 : Nat) : Int), rfl, rfl, false, rfl, iteF ?_⟩
      refine ⟨.int ((7 : Nat) : Int), rfl, rfl, false, rfl, iteF ?_⟩
      refine ⟨.int ((7 : Nat) : Int), rfl, rfl, false, rfl, iteF ?_⟩
      refine ⟨.int ((7 : Nat) : Int), rfl, rfl, false, rfl, iteF ?_⟩
      refine ⟨.int ((7 : Nat) : Int), rfl, rfl, false, rfl, iteF ?_⟩
      refine ⟨.int ((7 : Nat) : Int), rfl, rfl, true, rfl, iteT ?_⟩
      refine ⟨.int (n : Int), rfl, .ref a, rfl, ?_⟩
      refine ⟨szN 0 rfl, fun l n_l => ?_⟩
      generalize e_l : upd H2 l _ = H3
      have s3 := new_same e_l n_l
      have z3 := new_at e_l
      clear e_l
      refine .inl ⟨(n : Int), 0, a, l, xs, [], ss, [], rfl, .inl (.inl (s3 _ _ ha)), SL.ts (TS.of s3) sl, gd, by omega, i40.2, .inl (.inl z3), PL.nil, fun _ H4 s4 => ?_, fun z => absurd ⟨by omega, by omega⟩ z⟩
      exact ⟨_, _, rfl, EX.of (s3.trans s4), tb.ext (s3.trans s4), wok⟩
    | 8, _ =>
      have wok : WordOk ((n : Nat) : Int) ss 8 (kinWord 2) := ⟨fun h => absurd i40 h, fun _ h => absurd gd h, fun _ _ => by decide +kernel⟩
      refine ⟨.int ((8 : Nat) : Int), rfl, rfl, false, rfl, iteF ?_⟩
      refine ⟨.int ((8 : Nat) : Int), rfl, rfl, false, rfl, iteF ?_⟩
      refine ⟨.int ((8 : Nat) : Int), rfl, rfl, false, rfl, iteF ?_⟩
      refine ⟨.int ((8 : Nat) : Int), rfl, rfl, false, rfl, iteF ?_⟩
      refine ⟨.int ((8 : Nat) : Int), rfl, rfl, false, rfl, iteF ?_⟩
      refine ⟨.int ((8 : Nat) : Int), rfl, rfl, false, rfl, iteF ?_⟩
      refine ⟨.int ((8 : Nat) : Int), rfl, rfl, false, rfl, iteF ?_⟩
      refine ⟨.int ((8 : Nat) : Int), rfl, rfl, false, rfl, iteF ?_⟩
      refine ⟨.int ((8 : Nat) : Int), rfl, rfl, true, rfl, iteT ?_⟩
      refine ⟨.int (n : Int), rfl, .ref a, rfl, 1, rfl, .inl ⟨a, xs, ss, (-1), 0, n, rfl, .inl (.inl ha), sl, gd, by omega, by omega, fun z => absurd z (by omega), fun _ => ?_⟩⟩
      exact ⟨true, T.exN, fun _ x9 na => ⟨.ref x9, rfl, NP, 2, rfl, rfl, T.kdN, rfl, fun H5 s5 => ⟨_, _, rfl, (EX.of (Same.refl H2)).trans (EX.of s5), (tb.ext (Same.refl H2)).ext s5, wok⟩⟩, fun z => nomatch z⟩
    | 9, _ =>
      have wok : WordOk ((n : Nat) : Int) ss 9 (kinWord 2) := ⟨fun h => absurd i40 h, fun _ h => absurd gd h, fun _ _ => by decide +kernel⟩
      refine ⟨.int ((9 : Nat) : Int), rfl, rfl, false, rfl, iteF ?_⟩
      refine ⟨.int ((9 : Nat) : Int), rfl, rfl, false, rfl, iteF ?_⟩
      refine ⟨.int ((9 : Nat) : Int), rfl, rfl, false, rfl, iteF ?_⟩
      refine ⟨.int ((9 : Nat) : Int), rfl, rfl, false, rfl, iteF ?_⟩
      refine ⟨.int ((9 : Nat) : Int), rfl, rfl, false, rfl, iteF ?_⟩
      refine ⟨.int ((9 : Nat) : Int), rfl, rfl, false, rfl, iteF ?_⟩
      refine ⟨.int ((9 : Nat) : Int), rfl, rfl, false, rfl, iteF ?_⟩
      refine ⟨.int ((9 : Nat) : Int), rfl, rfl, false, rfl, iteF ?_⟩
      refine ⟨.int ((9 : Nat) : Int), rfl, rfl, false, rfl, iteF ?_⟩
      refine ⟨.int ((9 : Nat) : Int), rfl, rfl, true, rfl, iteT ?_⟩
      refine ⟨.int (n : Int), rfl, .ref a, rfl, 1, rfl, .inl ⟨a, xs, ss, 0, (-1), n, rfl, .inl (.inl ha), sl, gd, by omega, by omega, fun z => absurd z (by omega), fun _ => ?_⟩⟩
      exact ⟨true, T.exN, fun _ x9 na => ⟨.ref x9, rfl, NP, 2, rfl, rfl, T.kdN, rfl, fun H5 s5 => ⟨_, _, rfl, (EX.of (Same.refl H2)).trans (EX.of s5), (tb.ext (Same.refl H2)).ext s5, wok⟩⟩, fun z => nomatch z⟩
    | 10, _ =>
      have wok : WordOk ((n : Nat) : Int) ss 10 (kinWord 2) := ⟨fun h => absurd i40 h, fun _ h => absurd gd h, fun _ _ => by decide +kernel⟩
      refine ⟨.int ((10 : Nat) : Int), rfl, rfl, false, rfl, iteF ?_⟩
      refine ⟨.int ((10 : Nat) : Int), rfl, rfl, false, rfl, iteF ?_⟩
      refine ⟨.int ((10 : Nat) : Int), rfl, rfl, false, rfl, iteF ?_⟩
      refine ⟨.int ((10 : Nat) : Int), rfl, rfl, false, rfl, iteF ?_⟩
      refine ⟨.int ((10 : Nat) : Int), rfl, rfl, false, rfl, iteF ?_⟩
      refine ⟨.int ((10 : Nat) : Int), rfl, rfl, false, rfl, iteF ?_⟩
      refine ⟨.int ((10 : Nat) : Int), rfl, rfl, false, rfl, iteF ?_⟩
      refine ⟨.int ((10 : Nat) : Int), rfl, rfl, false, rfl, iteF ?_⟩
      refine ⟨.int ((10 : Nat) : Int), rfl, rfl, false, rfl, iteF ?_⟩
      refine ⟨.int ((10 : Nat) : Int), rfl, rfl, false, rfl, iteF ?_⟩
      refine ⟨.int ((10 : Nat) : Int), rfl, rfl, true, rfl, iteT ?_⟩
      refine ⟨.int (n : Int), rfl, .ref a, rfl, 1, rfl, ?_⟩
      refine ⟨szN 0 rfl, fun l n_l => ?_⟩
      generalize e_l : upd H2 l _ = H3
      have s3 := new_same e_l n_l
      have z3 := new_at e_l
      clear e_l
      refine .inl ⟨(n : Int), -1, a, l, xs, [], ss, [], rfl, .inl (.inl (s3 _ _ ha)), SL.ts (TS.of s3) sl, gd, by omega, i40.2, .inl (.inl z3), PL.nil, fun z => absurd z (by omega), fun _ => ?_⟩
      exact ⟨true, T.exN, fun _ x9 na => ⟨.ref x9, rfl, NP, 2, rfl, rfl, T.kdN, rfl, fun H5 s5 => ⟨_, _, rfl, (EX.of s3).trans (EX.of s5), (tb.ext s3).ext s5, wok⟩⟩, fun z => nomatch z⟩
    | 11, _ =>
      have wok : WordOk ((n : Nat) : Int) ss 11 "done" := ⟨fun h => absurd i40 h, fun _ h => absurd gd h, fun _ _ => by decide +kernel⟩
      refine ⟨.int ((11 : Nat) : Int), rfl, rfl, false, rfl, iteF ?_⟩
      refine ⟨.int ((11 : Nat) : Int), rfl, rfl, false, rfl, iteF ?_⟩
      refine ⟨.int ((11 : Nat) : Int), rfl, rfl, false, rfl, iteF ?_⟩
      refine ⟨.int ((11 : Nat) : Int), rfl, rfl, false, rfl, iteF ?_⟩
      refine ⟨.int ((11 : Nat) : Int), rfl, rfl, false, rfl, iteF ?_⟩
      refine ⟨.int ((11 : Nat) : Int), rfl, rfl, false, rfl, iteF ?_⟩
      refine ⟨.int ((11 : Nat) : Int), rfl, rfl, false, rfl, iteF ?_⟩
      refine ⟨.int ((11 : Nat) : Int), rfl, rfl, false, rfl, iteF ?_⟩
      refine ⟨.int ((11 : Nat) : Int), rfl, rfl, false, rfl, iteF ?_⟩
      refine ⟨.int ((11 : Nat) : Int), rfl, rfl, false, rfl, iteF ?_⟩
      refine ⟨.int ((11 : Nat) : Int), rfl, rfl, false, rfl, iteF ?_⟩
      refine ⟨.int (n : Int), rfl, .ref a, rfl, .int (n : Int), rfl, 0, (n : Int), rfl, 12, _, rfl, _, rfl, rgk, ?_⟩
      intro l n_l
      generalize e_l : upd H2 l _ = H3
      have s3 := new_same e_l n_l
      have z3 := new_at e_l
      clear e_l
      have er : rgV 0 (if (if (n : Int) > 0 then (n : Int) else 0) < 12 then (if (n : Int) > 0 then (n : Int) else 0) else 12) = ((List.range n).map fun (i : Nat) => (0 : Int) + (i : Int)).map V.int := by
        have e1 : (if (if (n : Int) > 0 then (n : Int) else 0) < 12 then (if (n : Int) > 0 then (n : Int) else 0) else 12) = (n : Int) := by split <;> split <;> omega
        rw [e1, List.map_map]
        unfold rgV
        rw [show ((n : Int) - 0).toNat = n by omega]
        rfl
      rw [er] at z3
      refine .inl ⟨a, l, xs, ss, n, _, rfl, s3 _ _ ha, SL.ts (TS.of s3) sl, tb.ext s3, gd, by omega, by omega, z3, by rw [List.length_map, List.length_range], fun H5 x t => ?_⟩
      exact ⟨_, _, rfl, (EX.of s3).trans x, t, wok⟩
    | d + 12, hd => omega

end
end Rep
namespace Rep
open PySem L2
abbrev nSpo : List Str := ["_law_script", "_law_k", "_law_length", "_law_saying_here", "_law_at", "_law_way", "_law_far", "_law_row"]
theorem scSpo : FnScope nSpo ["_law_script", "_law_k", "_law_length", "_law_saying_here"] (defScope s_law_spoilt) := ⟨rfl, rfl, rfl, by decide +kernel, rfl, by decide +kernel, by decide +kernel⟩
structure TSpo (Pg : Program) (w : World) (K : PySem.W.Frag) (mg : Str → Option Value) (base : Heap) (fD : Addr) (fdD : FuncData) : Prop where
  gD : FnOk Pg w K mg base CX0 6 fD fdD ["_law_script", "_law_k", "_law_sizes"] (spDig K)
  bD : Binds K fdD ["_law_script", "_law_k", "_law_sizes"] []
  kD : PySem.W.keepIn K (.ref fD) = true
  mD : mg "_law_digits" = some (.ref fD)
  mL : mg "list" = none
  mtuple : mg "tuple" = none
section
variable {Pg : Program} {w : World} {K : PySem.W.Frag} {mg : Str → Option Value} {base : Heap}
theorem ok_spo {f fD : Addr} {fd fdD : FuncData} (F : Fun K "_law_spoilt" "_law_spoilt" s_law_spoilt f fd) (T : TSpo Pg w K mg base fD fdD) : FnOk Pg w K mg base CX0 7 f fd ["_law_script", "_law_k", "_law_length", "_law_saying_here"] (spSpo K) := by
  refine F.ok scSpo (fun vs H Q E h => ?_) (fun cdv A outer s H vs Q E hr h => ?_)
  · obtain ⟨a1, ns, kk, L, v, s, rfl, _⟩ := h; rfl
  obtain ⟨a1, ns, kk, L, v, u, rfl, hS, h63, ⟨t, rfl, ht⟩, q⟩ := h
  refine ⟨_, (C8.pss_cut (ps_asg (pe_call T.gD hr (by rfl) T.mD T.kD T.bD .nil pass0 (pa_cons (pv 0) (pa_cons (pv 1) (pa_cons (pe_lst (pa_cons pe_int (pa_cons pe_int (pa_cons (pe_op op_pow pe_int pe_int) pa_nil)))) pa_nil)))) (pg_lst rfl (pgs_cons (pg_name (i := 4) scSpo.nd rfl (.inl rfl)) (pgs_cons (pg_name (i := 5) scSpo.nd rfl (.inl rfl)) (pgs_cons (pg_name (i := 6) scSpo.nd rfl (.inl rfl)) pgs_nil)))))
    (C8.pss_cut (ps_set (i := 7) scSpo.nd rfl (.inl rfl) (pe_callTy call_list_of (by rfl) T.mL PyProof.Rows.boot_list (pa_cons (pv 3) pa_nil)))
    (C8.pss_cut (ps_if (pt_cmpR op_eq (pv 4) pe_int (nomark _)) (pss_one (ps_asg (pe_ix ix_list (pe_lst (pa_cons pe_int (pa_cons (pe_op op_sub pe_int (pv 6)) (pa_cons (pe_un un_neg pe_int) (pa_cons (pe_op op_add (pv 2) pe_int) (pa_cons (pe_op op_add (pe_op op_add (pv 6) (pv 2)) pe_int) pa_nil)))))) (pv 5) (fun _ _ => rfl)) (pg_sub (pv 7) pe_int set_list))) (pss_one (ps_asg (pe_ix ix_list (pe_lst (pa_cons (pe_un un_neg pe_int) (pa_cons (pe_op op_add (pe_op op_sub (pv 2) (pe_ix ix_list (pv 7) pe_int (fun _ _ => rfl))) pe_int) (pa_cons (pe_op op_sub (pe_op op_sub pe_int pe_int) (pv 6)) (pa_cons (pv 2) (pa_cons (pe_op op_add (pv 2) (pv 6)) pa_nil)))))) (pv 5) (fun _ _ => rfl)) (pg_sub (pv 7) (pv 4) set_list))))
    (pss_one (ps_ret (pe_callTy call_tuple_of (by rfl) T.mtuple PyProof.Rows.boot_tuple (pa_cons (pv 7) pa_nil))))))), ?_⟩
  refine ⟨fun σ' H' => ∃ at_ wy fr : Int, σ' = [some (.ref a1), some (.int kk), some (.int L), some (.ref t), some (.int at_), some (.int wy), some (.int fr), none] ∧ Same H H' ∧ 0 ≤ at_ ∧ at_ < 3 ∧ 0 ≤ wy ∧ wy < 5, ?_, ?_⟩
  · refine ⟨.ref a1, rfl, .int kk, rfl, 10, 44, rfl, rfl, p44, ?_⟩
    refine ⟨szN 3 rfl, fun l1 n_l1 => ?_⟩
    generalize e_l1 : upd H l1 _ = H1
    have s1 := new_same e_l1 n_l1
    have z1 := new_at e_l1
    clear e_l1
    refine ⟨a1, l1, ns, [3, 5, (10 : Int) ^ (44 : Int).toNat], kk, rfl, s1.seq hS, h63, .inl (.inl z1), by show 3 ≤ 1000; decide, dgc ⟨by decide, by decide⟩ (dgc ⟨by decide, by decide⟩ (dgc dg44 dg0)), fun H3 pd s3 np ep => ?_⟩
    generalize rawF ns kk = ra at ep
    generalize (10 : Int) ^ (44 : Int).toNat = TT at ep
    have ep : H3 pd = some (.lst [.int (ra % 3), .int (ra / 3 % 5), .int (ra / 3 / 5 % TT)]) := ep
    exact ⟨pd, _, rfl, .inl (.inl ep), rfl, _, _, rfl, _, _, rfl, _, _, rfl, rfl, _, _, _, rfl, s1.trans s3, by omega, by omega, by omega, by omega⟩
  rintro σ' H2 ⟨at_, wy, fr, rfl, s2, a0, a3, w0, w5⟩
  refine ⟨fun σ' H' => ∃ rw_, σ' = [some (.ref a1), some (.int kk), some (.int L), some (.ref t), some (.int at_), some (.int wy), some (.int fr), some (.ref rw_)] ∧ Same H2 H' ∧ H2 rw_ = none ∧ H' rw_ = some (.lst [.int u.lo, .int u.hi, .int u.n, .bl u.t]), ?_, ?_⟩
  · refine ⟨.ref t, rfl, t, _, rfl, .inr (.inl (.inl (s2 _ _ ht))), ?_⟩
    intro rw_ n_rw_
    generalize e_rw_ : upd H2 rw_ _ = H3
    have s3 := new_same e_rw_ n_rw_
    have z3 := new_at e_rw_
    clear e_rw_
    exact ⟨rw_, rfl, s3, n_rw_, z3⟩
  rintro σ' H3 ⟨rw_, rfl, s3, nr, er⟩
  have n0 : H rw_ = none := Same.free s2 nr
  have s03 := s2.trans s3
  refine ⟨fun σ' H' => ∃ s' : Sy, σ' = [some (.ref a1), some (.int kk), some (.int L), some (.ref t), some (.int at_), some (.int wy), some (.int fr), some (.ref rw_)] ∧ Same H H' ∧ H' rw_ = some (.lst [.int s'.lo, .int s'.hi, .int s'.n, .bl s'.t]), ?_, ?_⟩
  · refine ⟨.int at_, rfl, rfl, _, rfl, ite2 (fun c => ?_) (fun c => ?_)⟩
    · refine ⟨.int fr, rfl, _, _, rfl, rfl, 1, rfl, .int L, rfl, _, 1, rfl, rfl, .int fr, rfl, .int L, rfl, _, _, rfl, rfl, _, 1, rfl, rfl, ?_⟩
      refine ⟨szN 5 rfl, fun l2 n_l2 => ?_⟩
      generalize e_l2 : upd H3 l2 _ = H4
      have s4 := new_same e_l2 n_l2
      have z4 := new_at e_l2
      clear e_l2
      have hx : ∃ x : Int, atI [V.int 0, .int (0 - fr), .int (-1), .int (L + 1), .int (fr + L + 1)] wy = some (.int x) := by
        have : wy = 0 ∨ wy = 1 ∨ wy = 2 ∨ wy = 3 ∨ wy = 4 := by omega
        rcases this with rfl | rfl | rfl | rfl | rfl <;> exact ⟨_, rfl⟩
      obtain ⟨x, hx⟩ := hx
      exact ⟨.int wy, rfl, l2, _, _, .int x, rfl, rfl, .inl (.inl z4), hx, .ref rw_, rfl, rw_, _, _, 2, rfl, rfl, s4 _ _ er, rfl, ⟨u.lo, u.hi, x, u.t⟩, rfl, same_over (s03.trans s4) n0, upd_same⟩
    · have c : ¬ at_ = 2 := fun z => c (decide_eq_true (by rw [z]))
      refine ⟨1, rfl, .int L, rfl, .ref rw_, rfl, rw_, _, 2, .int u.n, rfl, rfl, .inl (.inl er), rfl, _, _, rfl, rfl, _, 1, rfl, rfl, _, _, rfl, rfl, .int fr, rfl, _, _, rfl, rfl, .int L, rfl, .int L, rfl, .int fr, rfl, _, _, rfl, rfl, ?_⟩
      refine ⟨szN 5 rfl, fun l2 n_l2 => ?_⟩
      generalize e_l2 : upd H3 l2 _ = H4
      have s4 := new_same e_l2 n_l2
      have z4 := new_at e_l2
      clear e_l2
      have hx : ∃ x : Int, atI [V.int (-1), .int (L - u.n + 1), .int (0 - 1 - fr), .int L, .int (L + fr)] wy = some (.int x) := by
        have : wy = 0 ∨ wy = 1 ∨ wy = 2 ∨ wy = 3 ∨ wy = 4 := by omega
        rcases this with rfl | rfl | rfl | rfl | rfl <;> exact ⟨_, rfl⟩
      obtain ⟨x, hx⟩ := hx
      obtain rfl | rfl : at_ = 0 ∨ at_ = 1 := by omega
      · exact ⟨.int wy, rfl, l2, _, _, .int x, rfl, rfl, .inl (.inl z4), hx, .ref rw_, rfl, .int 0, rfl, rw_, _, _, 0, rfl, rfl, s4 _ _ er, rfl, ⟨x, u.hi, u.n, u.t⟩, rfl, same_over (s03.trans s4) n0, upd_same⟩
      · exact ⟨.int wy, rfl, l2, _, _, .int x, rfl, rfl, .inl (.inl z4), hx, .ref rw_, rfl, .int 1, rfl, rw_, _, _, 1, rfl, rfl, s4 _ _ er, rfl, ⟨u.lo, x, u.n, u.t⟩, rfl, same_over (s03.trans s4) n0, upd_same⟩
  rintro σ' H4 ⟨s', rfl, s4, e4⟩
  refine ⟨.ref rw_, rfl, rw_, _, rfl, .inl ⟨.inl (.inl e4), ?_⟩⟩
  intro t2 n_t2
  generalize e_t2 : upd H4 t2 _ = H5
  have s5 := new_same e_t2 n_t2
  have z5 := new_at e_t2
  clear e_t2
  exact q _ t2 s' (s4.trans s5) (IsSy.of z5)

end
end Rep
namespace Rep
open PySem L2
abbrev nFt : List Str := ["_law_length", "_law_saying_here", "_law_one", "_law_other", "_law_many", "_law_turned"]
theorem scFt : FnScope nFt ["_law_length", "_law_saying_here"] (defScope s_law_fits) := ⟨rfl, rfl, rfl, by decide +kernel, rfl, by decide +kernel, by decide +kernel⟩
structure TFt (mg : Str → Option Value) : Prop where
  z : True
  mm : mg "min" = none
  mM : mg "max" = none
section
variable {Pg : Program} {w : World} {K : PySem.W.Frag} {mg : Str → Option Value} {base : Heap}
theorem ok_ft {f : Addr} {fd : FuncData} {k : Nat} (F : Fun K "_law_fits" "_law_fits" s_law_fits f fd) (T : TFt mg) : FnOk Pg w K mg base CX0 (k + 1) f fd ["_law_length", "_law_saying_here"] (spFt) := by
  refine F.ok scFt (fun vs H Q E h => ?_) (fun cdv A outer s H vs Q E hr h => ?_)
  · obtain ⟨L, v, s, rfl, _⟩ := h; rfl
  obtain ⟨L, v, u, rfl, ⟨t, rfl, ht⟩, q⟩ := h
  refine ⟨_, (C8.pss_cut (ps_asg (pv 1) (pg_tup rfl (pgs_cons (pg_name (i := 2) scFt.nd rfl (.inl rfl)) (pgs_cons (pg_name (i := 3) scFt.nd rfl (.inl rfl)) (pgs_cons (pg_name (i := 4) scFt.nd rfl (.inl rfl)) (pgs_cons (pg_name (i := 5) scFt.nd rfl (.inl rfl)) pgs_nil))))))
    (pss_one (ps_ret (pe_and (pe_cmpR op_gt (pv 4) pe_int (nomark _)) (pe_and (pe_cmpR op_ge (pe_callB (call_min2 rfl) (by rfl) T.mm (by decide +kernel) (pa_cons (pv 2) (pa_cons (pv 3) pa_nil))) pe_int (nomark _)) (pe_one (pe_cmpR op_le (pe_op op_add (pe_callB (call_max2 rfl) (by rfl) T.mM (by decide +kernel) (pa_cons (pv 2) (pa_cons (pv 3) pa_nil))) (pv 4)) (pv 0) (nomark _)))))))), ?_⟩
  refine ⟨fun σ' H' => σ' = [some (.int L), some (.ref t), some (.int u.lo), some (.int u.hi), some (.int u.n), some (.bl u.t)] ∧ H' = H, ?_, ?_⟩
  · exact ⟨.ref t, rfl, t, _, rfl, .inl (.inl ht), rfl, _, _, rfl, _, _, rfl, _, _, rfl, _, _, rfl, rfl, rfl, rfl⟩
  rintro σ' H2 ⟨rfl, eH⟩
  subst eH
  refine ⟨.int u.n, rfl, _, 0, rfl, rfl, _, rfl, ite2 (fun c => ?_) (fun c => ?_)⟩
  · have c := of_decide_eq_true c
    refine ⟨.int u.lo, rfl, .int u.hi, rfl, u.lo, u.hi, rfl, _, 0, rfl, rfl, _, rfl, ite2 (fun d => ?_) (fun d => ?_)⟩
    · have d := of_decide_eq_true d
      refine ⟨.int u.lo, rfl, .int u.hi, rfl, u.lo, u.hi, rfl, .int u.n, rfl, _, _, rfl, rfl, .int L, rfl, _, _, rfl, rfl, q _ ?_⟩
      rw [decide_eq_true_iff]
      unfold Good
      split at d <;> split <;> constructor <;> intro z <;> omega
    · have d := of_decide_eq_false (eq_false_of_ne_true d)
      refine q false ⟨(fun z => by cases z), fun g => absurd g ?_⟩
      unfold Good
      split at d <;> omega
  · have c := of_decide_eq_false (eq_false_of_ne_true c)
    refine q false ⟨(fun z => by cases z), fun g => absurd g ?_⟩
    unfold Good
    omega

end
end Rep
namespace Rep
open PySem L2
theorem ClsAt.ins {C : Addr} {B : Addr → Prop} {H : Hp} {p : Addr} {e : Int} {ss : List Sy} (h : ClsAt C B H p e ss) (m : Str) (h1 : ¬ m = "size") (h2 : ¬ m = "cuts") (h3 : ¬ m = "rows") : ∃ dx fs, H p = some (.ins C dx fs) ∧ fs.lookup m = none := by
  obtain ⟨dx, cA, rA, cv, rv, R, _, h4, _⟩ := h.ex
  exact ⟨dx, _, h4, fldsC_no _ _ _ h1 h2 h3⟩
theorem FstOk.uniq {e : Int} {ss : List Sy} {R R' : List Pr} (r : FstOk e ss R) (r' : FstOk e ss R') : R = R' := Tdy.uniq r.tdy r'.tdy fun x => by rw [r.cov, r'.cov]
/-- a song, its sayings' list and its Classes, as they stand -/
structure Wd (C P : Addr) (H : Hp) (a1 o p : Addr) (ns : List Int) (xs : List V) (L : Int) (ss : List Sy) : Prop where
  sc : H a1 = some (.lst (ns.map V.int))
  so : H o = some (.lst xs)
  sl : SL H xs ss
  ca : ∃ B, ClsAt C B H p L ss
  tb : TbO P H
section
variable {C P : Addr} {H H' : Hp} {a1 o p : Addr} {ns : List Int} {xs : List V} {L : Int} {ss : List Sy}
theorem Wd.ext (h : Wd C P H a1 o p ns xs L ss) (x : EX H H') (t : TbO P H') : Wd C P H' a1 o p ns xs L ss := by
  obtain ⟨B, ca⟩ := h.ca
  exact ⟨EX.lst x h.sc, EX.lst x h.so, SL.ts (EX.ts x) h.sl, ⟨B, ca.ext x⟩, t⟩
theorem Wd.same (h : Wd C P H a1 o p ns xs L ss) (s : Same H H') : Wd C P H' a1 o p ns xs L ss := h.ext (EX.of s) (h.tb.ext s)
end
/-- a list of one's own, changed -/
theorem EX.same {H H' H2 : Hp} (x : EX H H') (s : Same H' H2) : EX H H2 := x.trans (EX.of s)
theorem PL.appQ {H : Hp} {vs ws : List V} {ps qs : List Pr} (h : PL H vs ps) (k : PL H ws qs) : PL H (vs ++ ws) (ps ++ qs) := by
  refine ⟨fun v hv => ?_, ?_⟩
  · rcases List.mem_append.mp hv with z | z
    · exact h.all v z
    · exact k.all v z
  · rw [List.map_append, ← h.eq, ← k.eq]
theorem nc_count : ¬ (("count" : Str) = "size") ∧ ¬ (("count" : Str) = "cuts") ∧ ¬ (("count" : Str) = "rows") := by decide +kernel
theorem nc_first : ¬ (("first" : Str) = "size") ∧ ¬ (("first" : Str) = "cuts") ∧ ¬ (("first" : Str) = "rows") := by decide +kernel
theorem nc_firsts : ¬ (("firsts" : Str) = "size") ∧ ¬ (("firsts" : Str) = "cuts") ∧ ¬ (("firsts" : Str) = "rows") := by decide +kernel
theorem nc_same : ¬ (("same" : Str) = "size") ∧ ¬ (("same" : Str) = "cuts") ∧ ¬ (("same" : Str) = "rows") := by decide +kernel
theorem ClsAt.count {C : Addr} {B : Addr → Prop} {H : Hp} {p : Addr} {e : Int} {ss : List Sy} (h : ClsAt C B H p e ss) : ∃ dx fs, H p = some (.ins C dx fs) ∧ fs.lookup ("count" : Str) = none := h.ins _ nc_count.1 nc_count.2.1 nc_count.2.2
theorem ClsAt.first {C : Addr} {B : Addr → Prop} {H : Hp} {p : Addr} {e : Int} {ss : List Sy} (h : ClsAt C B H p e ss) : ∃ dx fs, H p = some (.ins C dx fs) ∧ fs.lookup ("first" : Str) = none := h.ins _ nc_first.1 nc_first.2.1 nc_first.2.2
theorem ClsAt.firsts {C : Addr} {B : Addr → Prop} {H : Hp} {p : Addr} {e : Int} {ss : List Sy} (h : ClsAt C B H p e ss) : ∃ dx fs, H p = some (.ins C dx fs) ∧ fs.lookup ("firsts" : Str) = none := h.ins _ nc_firsts.1 nc_firsts.2.1 nc_firsts.2.2
theorem ClsAt.same {C : Addr} {B : Addr → Prop} {H : Hp} {p : Addr} {e : Int} {ss : List Sy} (h : ClsAt C B H p e ss) : ∃ dx fs, H p = some (.ins C dx fs) ∧ fs.lookup ("same" : Str) = none := h.ins _ nc_same.1 nc_same.2.1 nc_same.2.2
theorem DT.two {H : Hp} {n : Nat} {a : Addr} {i j : Int} (h : H a = some (.lst [.int i, .int j])) : DT H (n + 1) (.ref a) (.list [.int i, .int j]) := by
  refine .lst h rfl (by show 2 ≤ 14000000; decide) fun k x d hx hd => ?_
  match k, hx, hd with
  | 0, hx, hd => cases hx; cases hd; exact .int _
  | 1, hx, hd => cases hx; cases hd; exact .int _
end Rep
namespace Rep
open PySem L2
theorem ixN_nat {n j : Nat} (h : j < n) : ixN n (j : Int) = some j := by
  unfold ixN
  rw [if_pos (by omega), if_pos (by omega)]
  rfl
abbrev nLaw : List Str := ["_law_script", "_law_length", "_law_many", "_law_way", "_law_bad", "_law_far", "_law_sayings_here", "_law_turn", "_law_at", "_law_good", "_law_asked", "_law_due", "_law_door", "_law_handed", "_law_word", "_law_saying_here"]
theorem scLaw : FnScope nLaw ["_law_script"] (defScope sLaw) := ⟨rfl, rfl, rfl, by decide +kernel, rfl, by decide +kernel, by decide +kernel⟩
structure TLaw04 (Pg : Program) (w : World) (K : PySem.W.Frag) (mg : Str → Option Value) (base : Heap) (P C BL BS fD fS fZ fF fT fE fC f1 f2 : Addr) (fdD fdS fdZ fdF fdT fdE fdC fd1 fd2 : FuncData) : Prop where
  gD : FnOk Pg w K mg base CX0 7 fD fdD ["_law_script", "_law_k", "_law_sizes"] (spDig K)
  bD : Binds K fdD ["_law_script", "_law_k", "_law_sizes"] []
  kD : PySem.W.keepIn K (.ref fD) = true
  mD : mg "_law_digits" = some (.ref fD)
  gS : FnOk Pg w K mg base CX0 7 fS fdS ["_law_script", "_law_k", "_law_length", "_law_many"] (spSaysE K)
  bS : Binds K fdS ["_law_script", "_law_k", "_law_length", "_law_many"] []
  kS : PySem.W.keepIn K (.ref fS) = true
  mS : mg "_law_sayings" = some (.ref fS)
  gZ : FnOk Pg w K mg base CX0 7 fZ fdZ ["_law_script", "_law_k", "_law_length", "_law_saying_here"] (spSpo K)
  bZ : Binds K fdZ ["_law_script", "_law_k", "_law_length", "_law_saying_here"] []
  kZ : PySem.W.keepIn K (.ref fZ) = true
  mZ : mg "_law_spoilt" = some (.ref fZ)
  gF : FnOk Pg w K mg base CX0 7 fF fdF ["_law_length", "_law_saying_here"] (spFt)
  bF : Binds K fdF ["_law_length", "_law_saying_here"] []
  kF : PySem.W.keepIn K (.ref fF) = true
  mF : mg "_law_fits" = some (.ref fF)
  gT : FnOk Pg w K mg base CX0 13 fT fdT ["_law_door", "_law_length", "_law_sayings_here"] (spTr P BL BS)
  bT : Binds K fdT ["_law_door", "_law_length", "_law_sayings_here"] []
  kT : PySem.W.keepIn K (.ref fT) = true
  mT : mg "_law_tried" = some (.ref fT)
  gE : FnOk Pg w K mg base CX0 7 fE fdE ["_law_told", "_law_due"] (spSame 7)
  bE : Binds K fdE ["_law_told", "_law_due"] []
  kE : PySem.W.keepIn K (.ref fE) = true
  mE : mg "_law_same" = some (.ref fE)
  cl : Cls K C
  MC : Mk K C fC
  gC : FnOk Pg w K mg base CX0 7 fC fdC ["self", "length", "sayings"] (spInit K P C)
  bC : Binds K fdC ["self", "length", "sayings"] []
  mC : mg "Classes" = some (.ref C)
  m1 : Meth K C "length" f1
  g1 : FnOk Pg w K mg base CX0 7 f1 fd1 ["self"] (spMLen C)
  b1 : Binds K fd1 ["self"] []
  m2 : Meth K C "count" f2
  g2 : FnOk Pg w K mg base CX0 7 f2 fd2 ["self"] (spMCnt C)
  b2 : Binds K fd2 ["self"] []
  mR : mg "range" = none
  mL : mg "list" = none
  mall : mg "all" = none
section
variable {Pg : Program} {w : World} {K : PySem.W.Frag} {mg : Str → Option Value} {base : Heap}
theorem ok_law04 {f P C BL BS fD fS fZ fF fT fE fC f1 f2 : Addr} {fd fdD fdS fdZ fdF fdT fdE fdC fd1 fd2 : FuncData} (F : Fun K "law" "law" sLaw f fd) (T : TLaw04 Pg w K mg base P C BL BS fD fS fZ fF fT fE fC f1 f2 fdD fdS fdZ fdF fdT fdE fdC fd1 fd2) : FnOk Pg w K mg base CX0 14 f fd ["_law_script"] (spLaw5 K P) := by
  refine F.ok scLaw (fun vs H Q E h => ?_) (fun cdv A outer s H vs Q E hr h => ?_)
  · obtain ⟨a, ns, rfl, _⟩ := h; rfl
  obtain ⟨a, ns, rfl, hS, h63, hT, q⟩ := h
  have r7 : Room 7 _ := hr.mono (by decide)
  have r8 : Room 8 _ := hr.mono (by decide)
  have r13 : Room 13 _ := hr
  refine ⟨_, (C8.pss_cut (ps_set (i := 0) scLaw.nd rfl (.inl rfl) (pe_slice sl_list (pv 0) po_none (po_some pe_int)))
    (C8.pss_cut (ps_asg (pe_call T.gD r7 (by rfl) T.mD T.kD T.bD .nil pass0 (pa_cons (pv 0) (pa_cons pe_int (pa_cons (pe_lst (pa_cons pe_int (pa_cons pe_int (pa_cons pe_int (pa_cons pe_int (pa_cons (pe_op op_pow pe_int pe_int) pa_nil)))))) pa_nil)))) (pg_lst rfl (pgs_cons (pg_name (i := 1) scLaw.nd rfl (.inr rfl)) (pgs_cons (pg_name (i := 2) scLaw.nd rfl (.inl rfl)) (pgs_cons (pg_name (i := 3) scLaw.nd rfl (.inl rfl)) (pgs_cons (pg_name (i := 4) scLaw.nd rfl (.inl rfl)) (pgs_cons (pg_name (i := 5) scLaw.nd rfl (.inl rfl)) pgs_nil)))))))
    (C8.pss_cut (ps_set (i := 1) scLaw.nd rfl (.inr rfl) (pe_op op_add pe_int (pv 1)))
    (C8.pss_cut (ps_set (i := 6) scLaw.nd rfl (.inl rfl) (pe_call T.gS r7 (by rfl) T.mS T.kS T.bS .nil pass0 (pa_cons (pv 0) (pa_cons pe_int (pa_cons (pv 1) (pa_cons (pv 2) pa_nil))))))
    (C8.pss_cut (ps_for PassesOwn.never rfl (pi_range1 rfl T.mR (pa_cons (pv 4) pa_nil)) (pg_name (i := 7) scLaw.nd rfl (.inl rfl))
      (pss_one (ps_if (pt_cmpR op_gt (pv 2) pe_int (nomark _)) (C8.pss_cut (ps_set (i := 8) scLaw.nd rfl (.inl rfl) (pe_ix ix_list (pe_call T.gD r7 (by rfl) T.mD T.kD T.bD .nil pass0 (pa_cons (pv 0) (pa_cons (pe_op op_add pe_int (pv 7)) (pa_cons (pe_lst (pa_cons (pv 2) pa_nil)) pa_nil)))) pe_int (fun _ _ => rfl)))
    (pss_one (ps_asg (pe_call T.gZ r7 (by rfl) T.mZ T.kZ T.bZ .nil pass0 (pa_cons (pv 0) (pa_cons (pe_op op_add pe_int (pv 7)) (pa_cons (pv 1) (pa_cons (pe_ix ix_list (pv 6) (pv 8) (fun _ _ => rfl)) pa_nil))))) (pg_sub (pv 6) (pv 8) set_list)))) pss_nil)))
    (C8.pss_cut (ps_set (i := 9) scLaw.nd rfl (.inl rfl) (pe_callB (cr_all rfl) (by rfl) T.mall PyProof.Rows.boot_all (pa_cons (pe_lc (own := [("_law_saying_here", 15)]) (g := (gName 15)) (tt := tYes) rfl scLaw.nd (pi_list (pv 6)) (blkOk_by (N := nLaw) (sc := defScope sLaw) (by decide +kernel)) (fun _ _ _ _ _ => (pg_name (i := 15) scLaw.nd rfl (.inl rfl))) (fun _ _ _ _ _ => pts_nil) (fun _ _ _ _ _ => (pe_call T.gF r7 (by rfl) T.mF T.kF T.bF .nil pass0 (pa_cons (pv 1) (pa_cons (pv 15) pa_nil))))) pa_nil)))
    (C8.pss_cut (ps_set (i := 10) scLaw.nd rfl (.inl rfl) (pe_ix ix_list (pe_lst (pa_cons (pv 1) (pa_cons (pv 1) (pa_cons (pv 1) (pa_cons (pe_un un_neg pe_int) (pa_cons (pe_op op_pow pe_int pe_int) (pa_cons (pe_op op_add (pe_op op_pow pe_int pe_int) (pv 5)) (pa_cons (pe_op op_sub (pe_op op_sub pe_int (pv 5)) pe_int) pa_nil)))))))) (pv 3) (fun _ _ => rfl)))
    (C8.pss_cut (ps_set (i := 11) scLaw.nd rfl (.inl rfl) pe_str)
    (C8.pss_cut (ps_if (pt_cmpR op_gt (pv 3) pe_int (nomark _)) (pss_one (ps_set (i := 11) scLaw.nd rfl (.inl rfl) pe_str)) (pss_one (ps_if (pt_not (pt_val (pv 9))) (pss_one (ps_set (i := 11) scLaw.nd rfl (.inl rfl) pe_str)) pss_nil)))
    (C8.pss_cut (ps_for PassesOwn.never rfl (pi_range1 rfl T.mR (pa_cons pe_int pa_nil)) (pg_name (i := 12) scLaw.nd rfl (.inl rfl))
      (C8.pss_cut (ps_set (i := 13) scLaw.nd rfl (.inl rfl) (pe_callTy call_list_of (by rfl) T.mL PyProof.Rows.boot_list (pa_cons (pv 6) pa_nil)))
    (C8.pss_cut (ps_set (i := 14) scLaw.nd rfl (.inl rfl) (pv 11))
    (C8.pss_cut (ps_if (PW.pt (pw_and (pt_chain op_lt op_lt pe_int (pv 12) pe_int) (pw_and1 (pt_cmpR op_eq (pv 11) pe_str (nomark _))))) (pss_one (ps_set (i := 14) scLaw.nd rfl (.inl rfl) pe_str)) pss_nil)
    (pss_one (ps_if (PW.pt (pw_or (pt_cmpR op_ne (pe_call T.gT r13 (by rfl) T.mT T.kT T.bT .nil pass0 (pa_cons (pv 12) (pa_cons (pv 10) (pa_cons (pv 13) pa_nil)))) (pv 14) (nomark _)) (pw_or1 (pt_cmpR (op_neD hr.units) (pv 13) (pv 6) (nomark _))))) (pss_one (ps_ret pe_bl)) pss_nil))))))
    (C8.pss_cut (ps_if (PW.pt (pw_and (pt_cmpR op_eq (pv 11) pe_str (nomark _)) (pw_and1 (pt_not (pt_val (pe_call T.gE r7 (by rfl) T.mE T.kE T.bE .nil pass0 (pa_cons (pe_meth0 (pe_make T.MC T.gC r8 (by rfl) T.mC T.bC .nil pass0 (pa_cons (pv 10) (pa_cons (pv 6) pa_nil))) T.cl T.m1 T.g1 r7 T.b1 .nil pass0) (pa_cons (pv 1) pa_nil)))))))) (pss_one (ps_ret pe_bl)) pss_nil)
    (pss_one (ps_ret (pe_and (pe_call T.gE r7 (by rfl) T.mE T.kE T.bE .nil pass0 (pa_cons (pe_meth0 (pe_make T.MC T.gC r8 (by rfl) T.mC T.bC .nil pass0 (pa_cons pe_int (pa_cons (pe_lst pa_nil) pa_nil))) T.cl T.m2 T.g2 r7 T.b2 .nil pass0) (pa_cons pe_int pa_nil))) (pe_one (pe_call T.gE r7 (by rfl) T.mE T.kE T.bE .nil pass0 (pa_cons (pe_meth0 (pe_make T.MC T.gC r8 (by rfl) T.mC T.bC .nil pass0 (pa_cons (pe_op op_sub (pe_op op_pow pe_int pe_int) pe_int) (pa_cons (pe_lst pa_nil) pa_nil))) T.cl T.m2 T.g2 r7 T.b2 .nil pass0) (pa_cons (pe_op op_sub (pe_op op_pow pe_int pe_int) pe_int) pa_nil)))))))))))))))))), ?_⟩
  have hlV : (ns.map V.int).length ≤ 63 := by rw [List.length_map]; exact h63
  refine ⟨fun σ' H' => ∃ a1, σ' = [some (.ref a1), none, none, none, none, none, none, none, none, none, none, none, none, none, none, none] ∧ H' a1 = some (.lst (ns.map V.int)) ∧ TbO P H', ?_, ?_⟩
  · refine ⟨.ref a, rfl, 63, rfl, a, ns.map V.int, rfl, hS, ?_⟩
    rw [cut63 hlV]
    intro a1 n_a1
    generalize e_a1 : upd H a1 _ = H1
    have s1 := new_same e_a1 n_a1
    have z1 := new_at e_a1
    clear e_a1
    exact ⟨a1, rfl, z1, hT.ext s1⟩
  clear hS hT
  rintro σ' H1 ⟨a1, rfl, e1, T1⟩
  -- digits
  refine ⟨fun σ' H' => ∃ le ma wy bd far : Int, σ' = [some (.ref a1), some (.int le), some (.int ma), some (.int wy), some (.int bd), some (.int far), none, none, none, none, none, none, none, none, none, none] ∧ Same H1 H' ∧ 0 ≤ le ∧ le < 12 ∧ 0 ≤ ma ∧ ma < 5 ∧ 0 ≤ wy ∧ wy < 7 ∧ 0 ≤ bd ∧ bd < 3 ∧ 0 ≤ far, ?_, ?_⟩
  · refine ⟨.ref a1, rfl, 10, 44, rfl, rfl, p44, ?_⟩
    refine ⟨szN 5 rfl, fun l1 n_l1 => ?_⟩
    generalize e_l1 : upd H1 l1 _ = H2
    have s2 := new_same e_l1 n_l1
    have z2 := new_at e_l1
    clear e_l1
    refine ⟨a1, l1, ns, [12, 5, 7, 3, (10 : Int) ^ (44 : Int).toNat], 0, rfl, .inl (.inl (s2 _ _ e1)), h63, .inl (.inl z2), by show 5 ≤ 1000; decide, dgc ⟨by decide, by decide⟩ (dgc ⟨by decide, by decide⟩ (dgc ⟨by decide, by decide⟩ (dgc ⟨by decide, by decide⟩ (dgc dg44 dg0)))), fun H3 pd s3 np ep => ?_⟩
    have pp : 0 < (10 : Int) ^ (44 : Int).toNat := dg44.1
    generalize rawF ns 0 = ra at ep
    generalize (10 : Int) ^ (44 : Int).toNat = TT at ep pp
    have ep : H3 pd = some (.lst [.int (ra % 12), .int (ra / 12 % 5), .int (ra / 12 / 5 % 7), .int (ra / 12 / 5 / 7 % 3), .int (ra / 12 / 5 / 7 / 3 % TT)]) := ep
    exact ⟨pd, _, rfl, .inl (.inl ep), rfl, _, _, rfl, _, _, rfl, _, _, rfl, _, _, rfl, _, _, rfl, rfl, _, _, _, _, _, rfl, s2.trans s3, by omega, by omega, by omega, by omega, by omega, by omega, by omega, by omega, Int.emod_nonneg _ (by omega)⟩
  rintro σ' H2 ⟨le, ma, wy, bd, far, rfl, s2, l0, l1, m0, m1, w0, w1, b0, b1, f0⟩
  replace e1 := s2 _ _ e1
  replace T1 := T1.ext s2
  clear s2
  obtain ⟨m, rfl⟩ : ∃ m : Nat, ma = (m : Int) := ⟨ma.toNat, by omega⟩
  obtain ⟨bk, rfl⟩ : ∃ m : Nat, bd = (m : Int) := ⟨bd.toNat, by omega⟩
  obtain ⟨n, hn⟩ : ∃ n : Nat, 1 + le = (n : Int) := ⟨(1 + le).toNat, by omega⟩
  refine ⟨fun σ' H' => σ' = [some (.ref a1), some (.int (n : Int)), some (.int (m : Int)), some (.int wy), some (.int (bk : Int)), some (.int far), none, none, none, none, none, none, none, none, none, none] ∧ H' = H2, ?_, ?_⟩
  · exact ⟨.int le, rfl, _, _, rfl, rfl, by rw [← hn]; rfl, rfl⟩
  rintro σ' H' ⟨rfl, eH⟩
  subst eH
  -- sayings
  refine ⟨fun σ' H3 => ∃ (o : Addr) (xs : List V) (ss : List Sy), σ' = [some (.ref a1), some (.int (n : Int)), some (.int (m : Int)), some (.int wy), some (.int (bk : Int)), some (.int far), some (.ref o), none, none, none, none, none, none, none, none, none] ∧ Same H' H3 ∧ H' o = none ∧ H3 o = some (.lst xs) ∧ SL H3 xs ss ∧ ss.length = m, ?_, ?_⟩
  · exact ⟨.ref a1, rfl, .int (n : Int), rfl, .int (m : Int), rfl, a1, ns, 1, (n : Int), m, rfl, .inl (.inl e1), h63, by omega, Int.le_trans (show (n : Int) ≤ 12 by omega) (by decide), by omega, fun H3 o xs ss s3 no eo sl gd hl hle => ⟨o, xs, ss, rfl, s3, no, eo, sl, hle (by omega)⟩⟩
  rintro σ' H3 ⟨o, xs0, ss0, rfl, s3, no, eo0, sl0, hm0⟩
  -- spoilt
  refine ⟨fun σ' H4 => ∃ (y7 y8 : Option V) (xs : List V) (ss : List Sy), σ' = [some (.ref a1), some (.int (n : Int)), some (.int (m : Int)), some (.int wy), some (.int (bk : Int)), some (.int far), some (.ref o), y7, y8, none, none, none, none, none, none, none] ∧ Same H' H4 ∧ H4 o = some (.lst xs) ∧ SL H4 xs ss ∧ ss.length = m, ?_, ?_⟩
  · refine ⟨.int (bk : Int), rfl, (bk : Int), rfl, by omega, by omega, for_range (lo := 0) (n := bk) (fun j σ' H4 => ∃ (y7 y8 : Option V) (xs : List V) (ss : List Sy), σ' = [some (.ref a1), some (.int (n : Int)), some (.int (m : Int)), some (.int wy), some (.int (bk : Int)), some (.int far), some (.ref o), y7, y8, none, none, none, none, none, none, none] ∧ Same H' H4 ∧ H4 o = some (.lst xs) ∧ SL H4 xs ss ∧ ss.length = m) ⟨_, _, xs0, ss0, rfl, s3, eo0, sl0, hm0⟩ (fun j σ' H4 hj hP => ?_) (fun σ' H4 hP => hP)⟩
    obtain ⟨y7, y8, xs, ss, rfl, s4, eo, sl, hm⟩ := hP
    refine ⟨.int (m : Int), rfl, _, 0, rfl, rfl, _, rfl, ite2 (fun c => ?_) (fun c => ?_)⟩
    · have c := of_decide_eq_true c
      refine ⟨fun σ' H5 => ∃ k : Nat, σ' = [some (.ref a1), some (.int (n : Int)), some (.int (m : Int)), some (.int wy), some (.int (bk : Int)), some (.int far), some (.ref o), some (.int (0 + (j : Int))), some (.int (k : Int)), none, none, none, none, none, none, none] ∧ Same H4 H5 ∧ k < m, ?_, ?_⟩
      · refine ⟨.ref a1, rfl, .int (0 + (j : Int)), rfl, _, _, rfl, rfl, .int (m : Int), rfl, ?_⟩
        refine ⟨szN 1 rfl, fun l1 n_l1 => ?_⟩
        generalize e_l1 : upd H4 l1 _ = H5
        have s5 := new_same e_l1 n_l1
        have z5 := new_at e_l1
        clear e_l1
        refine ⟨a1, l1, ns, [(m : Int)], 6 + (0 + (j : Int)), rfl, .inl (.inl (s5 _ _ (s4 _ _ e1))), h63, .inl (.inl z5), by show 1 ≤ 1000; decide, dgc (dgS (by omega) (by omega)) dg0, fun H6 pd s6 np ep => ?_⟩
        generalize rawF ns (6 + (0 + (j : Int))) = ra at ep
        have ep : H6 pd = some (.lst [.int (ra % (m : Int))]) := ep
        have h0 := Int.emod_nonneg ra (show (m : Int) ≠ 0 by omega)
        have h1 := Int.emod_lt_of_pos ra (show (0 : Int) < (m : Int) by omega)
        obtain ⟨k, hk⟩ : ∃ k : Nat, ra % (m : Int) = (k : Int) := ⟨(ra % (m : Int)).toNat, by omega⟩
        rw [hk] at ep h1
        exact ⟨pd, _, 0, _, rfl, rfl, .inl (.inl ep), rfl, k, rfl, s5.trans s6, by omega⟩
      rintro σ' H5 ⟨k, rfl, s5, hk⟩
      have s45 := s4.trans s5
      have eo5 := s5 _ _ eo
      have sl5 := SL.ts (TS.of s5) sl
      obtain ⟨u, hu⟩ : ∃ u, ss[k]? = some u := ⟨_, List.getElem?_eq_getElem (show k < ss.length by omega)⟩
      obtain ⟨v, hv, iv⟩ := sl5.get' hu
      refine ⟨.ref a1, rfl, .int (0 + (j : Int)), rfl, _, _, rfl, rfl, .int (n : Int), rfl, .ref o, rfl, .int (k : Int), rfl, o, xs, _, v, rfl, rfl, .inl (.inl eo5), atI_nat hv, a1, ns, _, (n : Int), v, u, rfl, .inl (.inl (s45 _ _ e1)), h63, iv, fun H6 t s' s6 iy => ?_⟩
      have kx : k < xs.length := (List.getElem?_eq_some_iff.mp hv).1
      have eo6 := s6 _ _ eo5
      refine ⟨.ref o, rfl, .int (k : Int), rfl, o, _, _, k, rfl, rfl, eo6, ixN_nat kx, ?_⟩
      exact ⟨_, _, xs.set k (.ref t), ss.set k s', rfl, same_over (s45.trans s6) no, upd_same, SL.ts (TS.lst eo6) (LL.set (SL.ts (TS.of s6) sl5) iy), by rw [List.length_set]; exact hm⟩
    · exact ⟨_, _, xs, ss, rfl, s4, eo, sl, hm⟩
  rintro σ' H4 ⟨y7, y8, xs, ss, rfl, s4, eo, sl, hm⟩
  clear eo0 sl0 hm0 s3
  have T4 := T1.ext s4
  -- good
  refine ⟨fun σ' H5 => ∃ g : Bool, σ' = [some (.ref a1), some (.int (n : Int)), some (.int (m : Int)), some (.int wy), some (.int (bk : Int)), some (.int far), some (.ref o), y7, y8, some (.bl g), none, none, none, none, none, none] ∧ Same H4 H5 ∧ (g = true ↔ ∀ s ∈ ss, Good (n : Int) s), ?_, ?_⟩
  · refine ⟨.ref o, rfl, o, rfl, ⟨_, .inl (.inl eo)⟩, fun Dc nD => ?_⟩
    refine lc_list (xs := xs) (fun j H5 => Same H4 H5 ∧ ∃ bs : List Bool, H5 Dc = some (.lst (bs.map V.bl)) ∧ bs.length = j ∧ (bs.all id = true ↔ ∀ s ∈ ss.take j, Good (n : Int) s)) ⟨same_upd nD, [], upd_same, rfl, (fun _ s hs => by cases hs), fun _ => rfl⟩ (fun j H5 _ hP => .inl (.inl (hP.1 _ _ eo))) (fun j v H5 hv hP => ?_) (fun H5 hP => ?_)
    · obtain ⟨sm, bs, eD, lb, hb⟩ := hP
      obtain ⟨u, hu, iu⟩ := sl.get hv
      have hj := (List.getElem?_eq_some_iff.mp hu).1
      refine ⟨rfl, ?_⟩
      refine tYes_ok ?_
      refine iteT ?_
      refine ⟨.int (n : Int), rfl, v, rfl, (n : Int), v, u, rfl, iu.ts (TS.of sm), fun b hbu => ?_⟩
      refine ⟨_, eD, by rw [List.length_map]; exact small1000 (by omega), same_over sm nD, bs ++ [b], by rw [upd_same, List.map_append]; rfl, by rw [List.length_append, lb]; rfl, ?_⟩
      rw [List.all_append, List.take_add_one, hu]
      show (bs.all id && (b && true)) = true ↔ _
      rw [Bool.and_true, Bool.and_eq_true, hb, hbu]
      constructor
      · rintro ⟨h1, h2⟩ s hs
        rcases List.mem_append.mp hs with hs | hs
        · exact h1 s hs
        · rw [List.mem_singleton.mp hs]; exact h2
      · intro h
        exact ⟨fun s hs => h s (List.mem_append_left _ hs), h u (List.mem_append_right _ List.mem_cons_self)⟩
    · obtain ⟨sm, bs, eD, lb, hb⟩ := hP
      refine ⟨Dc, bs, rfl, .inl (.inl eD), _, rfl, sm, ?_⟩
      rw [hb, sl.len, List.take_length]
  rintro σ' H5 ⟨g, rfl, s5, hg⟩
  replace eo := s5 _ _ eo
  replace sl := SL.ts (TS.of s5) sl
  replace T4 := T4.ext s5
  clear s5 s4 T1 e1 no
  -- asked
  refine ⟨fun σ' H6 => ∃ x : Int, σ' = [some (.ref a1), some (.int (n : Int)), some (.int (m : Int)), some (.int wy), some (.int (bk : Int)), some (.int far), some (.ref o), y7, y8, some (.bl g), some (.int x), none, none, none, none, none] ∧ Same H5 H6 ∧ (wy ≤ 2 → x = (n : Int)) ∧ (2 < wy → ¬ In40 x), ?_, ?_⟩
  · refine ⟨.int (n : Int), rfl, .int (n : Int), rfl, .int (n : Int), rfl, 1, rfl, 10, 40, rfl, rfl, p40, 10, 40, rfl, rfl, p40, .int far, rfl, _, _, rfl, rfl, .int far, rfl, _, _, rfl, rfl, _, 1, rfl, rfl, ?_⟩
    refine ⟨szN 7 rfl, fun l2 n_l2 => ?_⟩
    generalize e_l2 : upd H5 l2 _ = H6
    have s6 := new_same e_l2 n_l2
    have z6 := new_at e_l2
    clear e_l2
    have eT : (10 : Int) ^ (40 : Int).toNat = 10 ^ 40 := rfl
    have hx : ∃ x : Int, atI [V.int (n : Int), .int (n : Int), .int (n : Int), .int (-1), .int ((10 : Int) ^ (40 : Int).toNat), .int ((10 : Int) ^ (40 : Int).toNat + far), .int (0 - far - 1)] wy = some (.int x) ∧ (wy ≤ 2 → x = (n : Int)) ∧ (2 < wy → ¬ In40 x) := by
      unfold In40
      have : wy = 0 ∨ wy = 1 ∨ wy = 2 ∨ wy = 3 ∨ wy = 4 ∨ wy = 5 ∨ wy = 6 := by omega
      rcases this with rfl | rfl | rfl | rfl | rfl | rfl | rfl
      · exact ⟨_, rfl, fun _ => rfl, fun h => by omega⟩
      · exact ⟨_, rfl, fun _ => rfl, fun h => by omega⟩
      · exact ⟨_, rfl, fun _ => rfl, fun h => by omega⟩
      · exact ⟨_, rfl, fun h => by omega, fun _ => by omega⟩
      · exact ⟨_, rfl, fun h => by omega, fun _ => by rw [eT]; omega⟩
      · exact ⟨_, rfl, fun h => by omega, fun _ => by rw [eT]; omega⟩
      · exact ⟨_, rfl, fun h => by omega, fun _ => by omega⟩
    obtain ⟨x, hx, x1, x2⟩ := hx
    exact ⟨.int wy, rfl, l2, _, _, .int x, rfl, rfl, .inl (.inl z6), hx, x, rfl, s6, x1, x2⟩
  rintro σ' H6 ⟨x, rfl, s6, x1, x2⟩
  replace eo := s6 _ _ eo
  replace sl := SL.ts (TS.of s6) sl
  replace T4 := T4.ext s6
  clear s6
  have nI : In40 (n : Int) := ⟨by omega, Int.lt_of_le_of_lt (show (n : Int) ≤ 12 by omega) (by decide)⟩
  refine ⟨fun σ' H' => σ' = [some (.ref a1), some (.int (n : Int)), some (.int (m : Int)), some (.int wy), some (.int (bk : Int)), some (.int far), some (.ref o), y7, y8, some (.bl g), some (.int x), some (.str "done"), none, none, none, none] ∧ H' = H6, ⟨rfl, rfl⟩, ?_⟩
  rintro σ' H7 ⟨rfl, eH⟩
  subst eH
  refine ⟨fun σ' H' => ∃ du : Str, σ' = [some (.ref a1), some (.int (n : Int)), some (.int (m : Int)), some (.int wy), some (.int (bk : Int)), some (.int far), some (.ref o), y7, y8, some (.bl g), some (.int x), some (.str du), none, none, none, none] ∧ H' = H7 ∧ (¬ In40 x → du = "BadLength") ∧ (In40 x → ¬ (∀ s ∈ ss, Good x s) → du = "BadStretch") ∧ (In40 x → (∀ s ∈ ss, Good x s) → du = "done"), ?_, ?_⟩
  · refine ⟨.int wy, rfl, _, 2, rfl, rfl, _, rfl, ite2 (fun c => ?_) (fun c => ?_)⟩
    · have c := of_decide_eq_true c
      exact ⟨_, rfl, rfl, fun _ => rfl, fun h => absurd h (x2 c), fun h => absurd h (x2 c)⟩
    · have c : ¬ wy > 2 := fun z => c (decide_eq_true z)
      have ex := x1 (by omega)
      rw [ex]
      refine ⟨.bl g, rfl, g, rfl, ?_⟩
      cases g with
      | true => exact iteF ⟨_, rfl, rfl, fun h => absurd nI h, fun _ h => absurd (hg.mp rfl) h, fun _ _ => rfl⟩
      | false => exact iteT ⟨_, rfl, rfl, fun h => absurd nI h, fun _ _ => rfl, fun _ h => absurd (hg.mpr h) (by decide)⟩
  rintro σ' H' ⟨du, rfl, eH, d1, d2, d3⟩
  subst eH
  have hgood : ¬ BadS x ss → 1 ≤ x ∧ x ≤ 12 := fun h => by
    have i40 : In40 x := Classical.byContradiction fun z => h fun y => z y.1
    have w2 : wy ≤ 2 := by
      by_cases c : 2 < wy
      · exact absurd i40 (x2 c)
      · omega
    rw [x1 w2]; omega
  -- the doors
  refine ⟨fun σ' H8 => ∃ (y12 y13 y14 : Option V), σ' = [some (.ref a1), some (.int (n : Int)), some (.int (m : Int)), some (.int wy), some (.int (bk : Int)), some (.int far), some (.ref o), y7, y8, some (.bl g), some (.int x), some (.str du), y12, y13, y14, none] ∧ EX H' H8 ∧ TbO P H8, ?_, ?_⟩
  · refine ⟨12, rfl, by decide, by decide, for_range (lo := 0) (n := ((12 : Int)).toNat) (fun j σ' H8 => ∃ (y12 y13 y14 : Option V), σ' = [some (.ref a1), some (.int (n : Int)), some (.int (m : Int)), some (.int wy), some (.int (bk : Int)), some (.int far), some (.ref o), y7, y8, some (.bl g), some (.int x), some (.str du), y12, y13, y14, none] ∧ EX H' H8 ∧ TbO P H8) ⟨_, _, _, rfl, EX.of (Same.refl _), T4⟩ (fun j σ' H8 hj hP => ?_) (fun σ' H8 hP => hP)⟩
    have hj : j < 12 := hj
    obtain ⟨y12, y13, y14, rfl, x8, t8⟩ := hP
    have eo8 := EX.lst x8 eo
    have sl8 := SL.ts (EX.ts x8) sl
    refine ⟨fun σ' H' => ∃ h, σ' = [some (.ref a1), some (.int (n : Int)), some (.int (m : Int)), some (.int wy), some (.int (bk : Int)), some (.int far), some (.ref o), y7, y8, some (.bl g), some (.int x), some (.str du), some (.int (0 + (j : Int))), some (.ref h), y14, none] ∧ Same H8 H' ∧ H' h = some (.lst xs), ?_, ?_⟩
    · refine ⟨.ref o, rfl, o, xs, rfl, .inl (.inl (.inl eo8)), ?_⟩
      intro h n_h
      generalize e_h : upd H8 h _ = H9
      have s9 := new_same e_h n_h
      have z9 := new_at e_h
      clear e_h
      exact ⟨h, rfl, s9, z9⟩
    rintro σ' H9 ⟨h, rfl, s9, eh⟩
    refine ⟨fun σ' H' => σ' = [some (.ref a1), some (.int (n : Int)), some (.int (m : Int)), some (.int wy), some (.int (bk : Int)), some (.int far), some (.ref o), y7, y8, some (.bl g), some (.int x), some (.str du), some (.int (0 + (j : Int))), some (.ref h), some (.str du), none] ∧ H' = H9, ⟨.str du, rfl, rfl, rfl⟩, ?_⟩
    rintro σ' HA ⟨rfl, eH⟩
    subst eH
    refine ⟨fun σ' H' => ∃ w : Str, σ' = [some (.ref a1), some (.int (n : Int)), some (.int (m : Int)), some (.int wy), some (.int (bk : Int)), some (.int far), some (.ref o), y7, y8, some (.bl g), some (.int x), some (.str du), some (.int (0 + (j : Int))), some (.ref h), some (.str w), none] ∧ H' = HA ∧ (7 < j ∧ j < 11 → du = "done" → w = "NoPlace") ∧ (¬ (7 < j ∧ j < 11) ∨ ¬ du = "done" → w = du), ?_, ?_⟩
    · by_cases c1 : 7 < j
      · refine ⟨.int (0 + (j : Int)), rfl, 7, _, rfl, rfl, true, congrArg V.bl (decide_eq_true (by omega)), ?_⟩
        by_cases c2 : j < 11
        · refine iteT ⟨_, 11, rfl, rfl, true, congrArg V.bl (decide_eq_true (by omega)), iteT ?_⟩
          refine ⟨.str du, rfl, rfl, _, rfl, ite2 (fun c => ?_) (fun c => ?_)⟩
          · have c : du = "done" := V.str.inj (of_decide_eq_true c)
            exact ⟨_, rfl, rfl, fun _ _ => rfl, fun z => by rcases z with z | z; exact absurd ⟨c1, c2⟩ z; exact absurd c z⟩
          · have c : ¬ du = "done" := fun z => c (decide_eq_true (congrArg V.str z))
            exact ⟨_, rfl, rfl, fun _ z => absurd z c, fun _ => rfl⟩
        · refine iteT ⟨_, 11, rfl, rfl, false, congrArg V.bl (decide_eq_false (by omega)), ?_⟩
          repeat refine iteF ?_
          exact ⟨_, rfl, rfl, fun z => absurd z.2 c2, fun _ => rfl⟩
      · refine ⟨.int (0 + (j : Int)), rfl, 7, _, rfl, rfl, false, congrArg V.bl (decide_eq_false (by omega)), ?_⟩
        refine iteF ⟨false, rfl, ?_⟩
        repeat refine iteF ?_
        exact ⟨_, rfl, rfl, fun z => absurd z.1 c1, fun _ => rfl⟩
    rintro σ' HB ⟨w, rfl, eH, hw1, hw2⟩
    subst eH
    have slB := SL.ts (TS.of s9) sl8
    have eoB := s9 _ _ eo8
    refine ⟨.int (0 + (j : Int)), rfl, .int x, rfl, .ref h, rfl, j, x, h, xs, ss, (by rw [Int.zero_add]; rfl), hj, eh, slB, t8.ext s9, by omega, hgood, fun HC z xC tC wok => ?_⟩
    obtain ⟨k1, k2, k3⟩ := wok
    have ez : z = w := by
      by_cases i40 : In40 x
      · by_cases ag : ∀ s ∈ ss, Good x s
        · have ed := d3 i40 ag
          have ez := k3 i40 ag
          by_cases c : 7 < j ∧ j < 11
          · rw [if_pos c] at ez
            rw [ez, hw1 c ed]
          · rw [if_neg c] at ez
            rw [ez, hw2 (.inl c), ed]
        · have ed := d2 i40 ag
          rw [k2 i40 ag, hw2 (.inr (by rw [ed]; decide +kernel)), ed]
      · have ed := d1 i40
        rw [k1 i40, hw2 (.inr (by rw [ed]; decide +kernel)), ed]
    refine ⟨.str w, rfl, rfl, false, congrArg V.bl (show (!decide (V.str z = V.str w)) = false by rw [ez, decide_eq_true rfl]; rfl), iteF ?_⟩
    have ehC := EX.lst xC eh
    have eoC := EX.lst xC eoB
    have slC := SL.ts (EX.ts xC) slB
    refine ⟨.ref h, rfl, .ref o, rfl, _, _, .lst (.inl (.inl ehC)) (SL.dp slC), .lst (.inl (.inl eoC)) (SL.dp slC), shapedSy _, shapedSy _, _, rfl, ?_⟩
    rw [SeqAt.eqv_refl _ (show PyData.canLay0 (.list (ss.map syD)) = true from canSy ss)]
    exact iteF ⟨_, _, _, rfl, (x8.trans (EX.of s9)).trans xC, tC⟩
  rintro σ' H8 ⟨y12, y13, y14, rfl, x8, t8⟩
  have eo8 := EX.lst x8 eo
  have sl8 := SL.ts (EX.ts x8) sl
  -- as long as it was
  refine ⟨fun σ' H' => σ' = [some (.ref a1), some (.int (n : Int)), some (.int (m : Int)), some (.int wy), some (.int (bk : Int)), some (.int far), some (.ref o), y7, y8, some (.bl g), some (.int x), some (.str du), y12, y13, y14, none] ∧ TbO P H', ?_, ?_⟩
  · refine ⟨.str du, rfl, rfl, _, rfl, ite2 (fun c => ?_) (fun c => ?_)⟩
    · have c : du = "done" := V.str.inj (of_decide_eq_true c)
      have i40 : In40 x := Classical.byContradiction fun z => by
        have := d1 z; rw [c] at this; exact absurd this (by decide +kernel)
      have ag : ∀ s ∈ ss, Good x s := Classical.byContradiction fun z => by
        have := d2 i40 z; rw [c] at this; exact absurd this (by decide +kernel)
      have w2 : wy ≤ 2 := by
        by_cases c : 2 < wy
        · exact absurd i40 (x2 c)
        · omega
      have ex := x1 w2
      refine ⟨.int x, rfl, .ref o, rfl, fun p dx np ndx ne => ?_⟩
      refine make_cls eo8 sl8 t8 ag i40.1 i40.2 (by omega) (by have := all_len (e := x) (ss := ss); omega) np ndx ne (fun H9 x9 t9 nw ca => ?_)
      obtain ⟨dx2, fs, hi, hn2⟩ := ca.ins "length" (by decide +kernel) (by decide +kernel) (by decide +kernel)
      refine ⟨p, dx2, _, rfl, hi, hn2, p, _, x, ss, rfl, ca, ?_⟩
      rw [ex]
      exact ⟨.int (n : Int), rfl, .int (n : Int), .int (n : Int), _, rfl, .int _, .int _, fun HA sA => ⟨true, rfl, iteF ⟨rfl, t9.ext sA⟩⟩⟩
    · exact iteF ⟨rfl, t8⟩
  rintro σ' H9 ⟨rfl, t9⟩
  -- songs of no sayings
  refine ⟨szN 0 rfl, fun l n_l => ?_⟩
  generalize e_l : upd H9 l _ = HA
  have sA := new_same e_l n_l
  have zA := new_at e_l
  clear e_l
  intro p dx np ndx ne
  refine make_cls zA .nil (t9.ext sA) (fun s hs => by cases hs) (by decide) (by decide) (Nat.zero_le _) (Nat.le_trans (len_none 0) (by decide)) np ndx ne (fun HB xB tB nw ca => ?_)
  obtain ⟨dx2, fs, hi, hn2⟩ := ca.ins "count" (by decide +kernel) (by decide +kernel) (by decide +kernel)
  refine ⟨p, dx2, _, rfl, hi, hn2, p, _, 0, [], rfl, ca, fun HC R sC fo => ?_⟩
  rw [fst_none (by decide) fo]
  refine ⟨.int 0, .int 0, _, rfl, .int 0, .int 0, fun HD sD => ⟨true, rfl, iteT ?_⟩⟩
  have eT : (10 : Int) ^ (40 : Int).toNat = 10 ^ 40 := rfl
  refine ⟨10, 40, rfl, rfl, p40, _, 1, rfl, rfl, ?_⟩
  refine ⟨szN 0 rfl, fun l2 n_l2 => ?_⟩
  generalize e_l2 : upd HD l2 _ = HE
  have sE := new_same e_l2 n_l2
  have zE := new_at e_l2
  clear e_l2
  intro p2 dx3 np2 ndx3 ne2
  have tE := ((tB.ext sC).ext sD).ext sE
  refine make_cls zE .nil tE (fun s hs => by cases hs) (by rw [eT]; decide) (by rw [eT]; decide) (Nat.zero_le _) (Nat.le_trans (len_none _) (by decide)) np2 ndx3 ne2 (fun HF xF tF nw2 ca2 => ?_)
  obtain ⟨dx4, fs2, hi2, hn3⟩ := ca2.ins "count" (by decide +kernel) (by decide +kernel) (by decide +kernel)
  refine ⟨p2, dx4, _, rfl, hi2, hn3, p2, _, _, [], rfl, ca2, fun HG R2 sG fo2 => ?_⟩
  rw [fst_none (by rw [eT]; decide) fo2]
  exact ⟨10, 40, rfl, rfl, p40, _, 1, rfl, rfl, .int _, .int _, _, rfl, .int _, .int _, fun HH sH => q _⟩

end
end Rep
namespace Rep
open PySem PySem.Spec PyProof.Rows L2
/-- the end of a law with tables, from what the head knows of the top -/
theorem walk_top {l : PySem.W.OpenLaw} {n k : Nat} {q : Program} {loose : List Str} {XP : (Str → Option Value) → Heap → Prop} {YP : World → Heap → Prop} {d : DefRec} {K : Params → PySem.W.Frag} {CX : World → CXT} {x : Str}
    (hn : l.most = some n) (hn2 : n ≤ sizeLine) (hdf : d.params.defaults = []) (hr : Room k callerA) (hY : ∀ (w : World) (h : Heap), YP w h → (K w.params).In h)
    (F : ∀ (w : World) (mg mb : Str → Option Value) (mean : ExcName → Option Value) (fa : Addr) (h : Heap), (K w.params).In h → Top q (PySem.W.looseW q loose) mean mg mb h → mg d.name = some (.ref fa) → LamX.LawAtS l w (K w.params) (CX w) k n x mg fa h)
    (hCX : ∀ (w : World) (H : Hp) (s : Shared) (e : Value) (s' : Shared), CX w [] H s (fun _ _ _ => False) e s' → False) :
    PySem.W.WalkO q loose XP YP l.row.toRowW d [] (fun f vs => PySem.call f vs) := by
  refine Att.attach_callB hn hdf fun w s₀ s₁ mg mb fa o pm cd doc a vs ns G Y ho hd hcd hmg hobj hints hlen hbits hg => ?_
  have KX := hY w _ Y
  obtain ⟨fd, cs, sp, hT, nT, C, hb, hsp, hF⟩ := F w mg mb _ fa _ KX G.T hmg
  exact LamX.law_callTs KX G.T.g G.T.b G.T.builtins G.T.nolimit hg hT nT C G.T.bmain hobj hints (Nat.le_trans hlen hn2) hr hF hb (fun H hH hS => hsp H a ns hlen hbits hH hS) fun H e s' => hCX w H s₁ e s'
theorem no_tab {K : PySem.W.Frag} {h : Heap} {P : Addr} (X : K.In h) (hK : PySem.W.noTabs K = true) (hP : h.get? P = some (PySem.W.tabObj #[])) : K.lookup P = none := by
  cases e : K.lookup P with
  | none => rfl
  | some o =>
    have e1 := X P o e
    rw [hP] at e1
    cases e1
    have h2 := List.all_eq_true.mp hK (P, _) (PySem.W.mem_of_lookupK e)
    exact absurd (show false = true from h2) Bool.false_ne_true
end Rep
namespace Rep
open PySem PySem.Spec PyProof.Rows L2 L2H RepHot
theorem all_mk {l : PySem.W.OpenLaw} {w : World} {K : PySem.W.Frag} {h : Heap} {q : Program} {loose : List Str} {mean : ExcName → Option Value} {mg mb : Str → Option Value} {fa f1 f2 f3 f4 f5 f6 f7 f8 f9 f10 f11 f12 f13 f14 f15 f16 f17 f18 f19 f20 f21 f22 f23 f24 f25 f26 f27 f28 f29 f30 f31 f32 f33 f34 f35 f36 f37 f38 f39 f40 f41 f42 f43 f44 f45 f46 f47 f48 f49 f50 f51 f52 C_Classes C_BadLength C_BadStretch C_NoPlace C_NoNumber C_BadLetter C_Full C_InUse C_NothingLeft C_BadPage C_RepriseError cT PT cT2 : Addr} {dR : DefRec} {dR2 : DefRec} (X : K.In h) (TT : Top q loose mean mg mb h) (hfa : mg "law" = some (.ref fa))
    {od1 an1 od2 an2 od3 an3 od4 an4 od5 an5 od6 an6 od7 an7 od8 an8 od9 an9 od10 an10 od11 an11 od12 an12 od13 an13 od14 an14 od15 an15 od16 an16 od17 an17 od18 an18 od19 an19 od20 an20 od21 an21 od22 an22 od23 an23 od24 an24 od25 an25 od26 an26 od27 an27 od28 an28 od29 an29 od30 an30 od31 an31 od32 an32 od33 an33 od34 an34 od35 an35 od36 an36 od37 an37 od38 an38 od39 an39 od40 an40 od41 an41 od42 an42 od43 an43 od44 an44 od45 an45 od46 an46 od47 an47 od48 an48 od49 an49 od50 an50 od51 an51 od52 an52 : Option Addr} {sl1 sl2 sl3 sl4 sl5 sl6 sl7 sl8 sl9 sl10 sl11 sl12 sl13 sl14 sl15 sl16 sl17 sl18 sl19 sl20 sl21 sl22 sl23 sl24 sl25 sl26 sl27 sl28 sl29 sl30 sl31 sl32 sl33 sl34 sl35 sl36 sl37 sl38 sl39 sl40 sl41 sl42 sl43 sl44 sl45 sl46 sl47 sl48 sl49 sl50 sl51 sl52 : Array (Option Value)} {oc1 kV1 dc1 pm1 cd1 ct1 oc2 kV2 dc2 pm2 cd2 ct2 oc3 kV3 dc3 pm3 cd3 ct3 oc4 kV4 dc4 pm4 cd4 ct4 oc5 kV5 dc5 pm5 cd5 ct5 oc6 kV6 dc6 pm6 cd6 ct6 oc7 kV7 dc7 pm7 cd7 ct7 oc8 kV8 dc8 pm8 cd8 ct8 oc9 kV9 dc9 pm9 cd9 ct9 oc10 kV10 dc10 pm10 cd10 ct10 oc11 kV11 dc11 pm11 cd11 ct11 oc12 kV12 dc12 pm12 cd12 ct12 oc13 kV13 dc13 pm13 cd13 ct13 oc14 kV14 dc14 pm14 cd14 ct14 oc15 kV15 dc15 pm15 ct15 oc16 kV16 dc16 pm16 cd16 ct16 oc17 kV17 dc17 pm17 cd17 ct17 oc18 kV18 dc18 pm18 cd18 ct18 oc19 kV19 dc19 pm19 cd19 ct19 oc20 kV20 dc20 pm20 cd20 ct20 oc21 kV21 dc21 pm21 cd21 ct21 oc22 kV22 dc22 pm22 cd22 ct22 oc23 kV23 dc23 pm23 cd23 ct23 oc24 kV24 dc24 pm24 cd24 ct24 oc25 kV25 dc25 pm25 cd25 ct25 oc26 kV26 dc26 pm26 cd26 ct26 oc27 kV27 dc27 pm27 cd27 ct27 oc28 kV28 dc28 pm28 ct28 oc29 kV29 dc29 pm29 cd29 ct29 oc30 kV30 dc30 pm30 cd30 ct30 oc31 kV31 dc31 pm31 cd31 ct31 oc32 kV32 dc32 pm32 cd32 ct32 oc33 kV33 dc33 pm33 cd33 ct33 oc34 kV34 dc34 pm34 cd34 ct34 oc35 kV35 dc35 pm35 cd35 ct35 oc36 kV36 dc36 pm36 cd36 ct36 oc37 kV37 dc37 pm37 cd37 ct37 oc38 kV38 dc38 pm38 cd38 ct38 oc39 kV39 dc39 pm39 cd39 ct39 oc40 kV40 dc40 pm40 cd40 ct40 oc41 kV41 dc41 pm41 cd41 ct41 oc42 kV42 dc42 pm42 cd42 ct42 oc43 kV43 dc43 pm43 cd43 ct43 oc44 kV44 dc44 pm44 cd44 ct44 oc45 kV45 dc45 pm45 cd45 ct45 oc46 kV46 dc46 pm46 cd46 ct46 oc47 kV47 dc47 pm47 cd47 ct47 oc48 kV48 dc48 pm48 cd48 ct48 oc49 kV49 dc49 pm49 cd49 ct49 oc50 kV50 dc50 pm50 cd50 ct50 oc51 kV51 dc51 pm51 cd51 ct51 oc52 kV52 dc52 pm52 cd52 ct52 v_TOO_LONG : Value}
    (aC_Classes : PySem.W.nsIn K mainGlobals "Classes" = some (some (.ref C_Classes)))
    (aC_BadLength : PySem.W.nsIn K mainGlobals "BadLength" = some (some (.ref C_BadLength)))
    (aC_BadStretch : PySem.W.nsIn K mainGlobals "BadStretch" = some (some (.ref C_BadStretch)))
    (aC_NoPlace : PySem.W.nsIn K mainGlobals "NoPlace" = some (some (.ref C_NoPlace)))
    (aC_NoNumber : PySem.W.nsIn K mainGlobals "NoNumber" = some (some (.ref C_NoNumber)))
    (aC_BadLetter : PySem.W.nsIn K mainGlobals "BadLetter" = some (some (.ref C_BadLetter)))
    (aC_Full : PySem.W.nsIn K mainGlobals "Full" = some (some (.ref C_Full)))
    (aC_InUse : PySem.W.nsIn K mainGlobals "InUse" = some (some (.ref C_InUse)))
    (aC_NothingLeft : PySem.W.nsIn K mainGlobals "NothingLeft" = some (some (.ref C_NothingLeft)))
    (aC_BadPage : PySem.W.nsIn K mainGlobals "BadPage" = some (some (.ref C_BadPage)))
    (aC_RepriseError : PySem.W.nsIn K mainGlobals "RepriseError" = some (some (.ref C_RepriseError)))
    (a1 : PySem.W.nsIn K mainGlobals "check_length" = some (some (.ref f1)))
    (l1 : K.lookup f1 = some ⟨oc1, od1, .func (PySem.W.fnOf "check_length" "check_length" (defArgs sCheck_length) (defBody sCheck_length) (defScope sCheck_length) .none kV1 dc1 pm1 an1 cd1 ct1), sl1⟩)
    (c1 : PySem.W.codeIn K cd1 "check_length" = true)
    (k1 : PySem.W.keepIn K (.ref f1) = true)
    (a2 : PySem.W.nsIn K mainGlobals "check_stretch" = some (some (.ref f2)))
    (l2 : K.lookup f2 = some ⟨oc2, od2, .func (PySem.W.fnOf "check_stretch" "check_stretch" (defArgs sCheck_stretch) (defBody sCheck_stretch) (defScope sCheck_stretch) .none kV2 dc2 pm2 an2 cd2 ct2), sl2⟩)
    (c2 : PySem.W.codeIn K cd2 "check_stretch" = true)
    (k2 : PySem.W.keepIn K (.ref f2) = true)
    (a3 : PySem.W.nsIn K mainGlobals "check_sayings" = some (some (.ref f3)))
    (l3 : K.lookup f3 = some ⟨oc3, od3, .func (PySem.W.fnOf "check_sayings" "check_sayings" (defArgs sCheck_sayings) (defBody sCheck_sayings) (defScope sCheck_sayings) .none kV3 dc3 pm3 an3 cd3 ct3), sl3⟩)
    (c3 : PySem.W.codeIn K cd3 "check_sayings" = true)
    (k3 : PySem.W.keepIn K (.ref f3) = true)
    (a4 : PySem.W.nsIn K mainGlobals "kept_form" = some (some (.ref f4)))
    (l4 : K.lookup f4 = some ⟨oc4, od4, .func (PySem.W.fnOf "kept_form" "kept_form" (defArgs sKept_form) (defBody sKept_form) (defScope sKept_form) .none kV4 dc4 pm4 an4 cd4 ct4), sl4⟩)
    (c4 : PySem.W.codeIn K cd4 "kept_form" = true)
    (k4 : PySem.W.keepIn K (.ref f4) = true)
    (a5 : PySem.W.nsIn K mainGlobals "kept_forms" = some (some (.ref f5)))
    (l5 : K.lookup f5 = some ⟨oc5, od5, .func (PySem.W.fnOf "kept_forms" "kept_forms" (defArgs sKept_forms) (defBody sKept_forms) (defScope sKept_forms) .none kV5 dc5 pm5 an5 cd5 ct5), sl5⟩)
    (c5 : PySem.W.codeIn K cd5 "kept_forms" = true)
    (k5 : PySem.W.keepIn K (.ref f5) = true)
    (a6 : PySem.W.nsIn K mainGlobals "common_beat" = some (some (.ref f6)))
    (l6 : K.lookup f6 = some ⟨oc6, od6, .func (PySem.W.fnOf "common_beat" "common_beat" (defArgs sCommon_beat) (defBody sCommon_beat) (defScope sCommon_beat) .none kV6 dc6 pm6 an6 cd6 ct6), sl6⟩)
    (c6 : PySem.W.codeIn K cd6 "common_beat" = true)
    (k6 : PySem.W.keepIn K (.ref f6) = true)
    (a7 : PySem.W.nsIn K mainGlobals "partner" = some (some (.ref f7)))
    (l7 : K.lookup f7 = some ⟨oc7, od7, .func (PySem.W.fnOf "partner" "partner" (defArgs sPartner) (defBody sPartner) (defScope sPartner) .none kV7 dc7 pm7 an7 cd7 ct7), sl7⟩)
    (c7 : PySem.W.codeIn K cd7 "partner" = true)
    (k7 : PySem.W.keepIn K (.ref f7) = true)
    (a8 : PySem.W.nsIn K mainGlobals "joined" = some (some (.ref f8)))
    (l8 : K.lookup f8 = some ⟨oc8, od8, .func (PySem.W.fnOf "joined" "joined" (defArgs sJoined) (defBody sJoined) (defScope sJoined) .none kV8 dc8 pm8 an8 cd8 ct8), sl8⟩)
    (c8 : PySem.W.codeIn K cd8 "joined" = true)
    (k8 : PySem.W.keepIn K (.ref f8) = true)
    (a9 : PySem.W.nsIn K mainGlobals "taken_in" = some (some (.ref f9)))
    (l9 : K.lookup f9 = some ⟨oc9, od9, .func (PySem.W.fnOf "taken_in" "taken_in" (defArgs sTaken_in) (defBody sTaken_in) (defScope sTaken_in) .none kV9 dc9 pm9 an9 cd9 ct9), sl9⟩)
    (c9 : PySem.W.codeIn K cd9 "taken_in" = true)
    (k9 : PySem.W.keepIn K (.ref f9) = true)
    (a10 : PySem.W.nsIn K mainGlobals "greatest_end" = some (some (.ref f10)))
    (l10 : K.lookup f10 = some ⟨oc10, od10, .func (PySem.W.fnOf "greatest_end" "greatest_end" (defArgs sGreatest_end) (defBody sGreatest_end) (defScope sGreatest_end) .none kV10 dc10 pm10 an10 cd10 ct10), sl10⟩)
    (c10 : PySem.W.codeIn K cd10 "greatest_end" = true)
    (k10 : PySem.W.keepIn K (.ref f10) = true)
    (a11 : PySem.W.nsIn K mainGlobals "carried_start" = some (some (.ref f11)))
    (l11 : K.lookup f11 = some ⟨oc11, od11, .func (PySem.W.fnOf "carried_start" "carried_start" (defArgs sCarried_start) (defBody sCarried_start) (defScope sCarried_start) .none kV11 dc11 pm11 an11 cd11 ct11), sl11⟩)
    (c11 : PySem.W.codeIn K cd11 "carried_start" = true)
    (k11 : PySem.W.keepIn K (.ref f11) = true)
    (a12 : PySem.W.nsIn K mainGlobals "carried" = some (some (.ref f12)))
    (l12 : K.lookup f12 = some ⟨oc12, od12, .func (PySem.W.fnOf "carried" "carried" (defArgs sCarried) (defBody sCarried) (defScope sCarried) .none kV12 dc12 pm12 an12 cd12 ct12), sl12⟩)
    (c12 : PySem.W.codeIn K cd12 "carried" = true)
    (k12 : PySem.W.keepIn K (.ref f12) = true)
    (a13 : PySem.W.nsIn K mainGlobals "shortened" = some (some (.ref f13)))
    (l13 : K.lookup f13 = some ⟨oc13, od13, .func (PySem.W.fnOf "shortened" "shortened" (defArgs sShortened) (defBody sShortened) (defScope sShortened) .none kV13 dc13 pm13 an13 cd13 ct13), sl13⟩)
    (c13 : PySem.W.codeIn K cd13 "shortened" = true)
    (k13 : PySem.W.keepIn K (.ref f13) = true)
    (a14 : PySem.W.nsIn K mainGlobals "led_cut" = some (some (.ref f14)))
    (l14 : K.lookup f14 = some ⟨oc14, od14, .func (PySem.W.fnOf "led_cut" "led_cut" (defArgs sLed_cut) (defBody sLed_cut) (defScope sLed_cut) .none kV14 dc14 pm14 an14 cd14 ct14), sl14⟩)
    (c14 : PySem.W.codeIn K cd14 "led_cut" = true)
    (k14 : PySem.W.keepIn K (.ref f14) = true)
    (a15 : PySem.W.nsIn K mainGlobals "cut_by_leader" = some (some (.ref f15)))
    (l15 : K.lookup f15 = some ⟨oc15, od15, .func (PySem.W.fnOf "cut_by_leader" "cut_by_leader" (defArgs sCut_by_leader) (defBody sCut_by_leader) (defScope sCut_by_leader) .none kV15 dc15 pm15 an15 (.ref cT) ct15), sl15⟩)
    (c15 : PySem.W.codeIn K (.ref cT) "cut_by_leader" = true)
    (k15 : PySem.W.keepIn K (.ref f15) = true)
    (a16 : PySem.W.nsIn K mainGlobals "cuts_of" = some (some (.ref f16)))
    (l16 : K.lookup f16 = some ⟨oc16, od16, .func (PySem.W.fnOf "cuts_of" "cuts_of" (defArgs sCuts_of) (defBody sCuts_of) (defScope sCuts_of) .none kV16 dc16 pm16 an16 cd16 ct16), sl16⟩)
    (c16 : PySem.W.codeIn K cd16 "cuts_of" = true)
    (k16 : PySem.W.keepIn K (.ref f16) = true)
    (a17 : PySem.W.nsIn K mainGlobals "tidy" = some (some (.ref f17)))
    (l17 : K.lookup f17 = some ⟨oc17, od17, .func (PySem.W.fnOf "tidy" "tidy" (defArgs sTidy) (defBody sTidy) (defScope sTidy) .none kV17 dc17 pm17 an17 cd17 ct17), sl17⟩)
    (c17 : PySem.W.codeIn K cd17 "tidy" = true)
    (k17 : PySem.W.keepIn K (.ref f17) = true)
    (a18 : PySem.W.nsIn K mainGlobals "breadth" = some (some (.ref f18)))
    (l18 : K.lookup f18 = some ⟨oc18, od18, .func (PySem.W.fnOf "breadth" "breadth" (defArgs sBreadth) (defBody sBreadth) (defScope sBreadth) .none kV18 dc18 pm18 an18 cd18 ct18), sl18⟩)
    (c18 : PySem.W.codeIn K cd18 "breadth" = true)
    (k18 : PySem.W.keepIn K (.ref f18) = true)
    (a19 : PySem.W.nsIn K mainGlobals "follows" = some (some (.ref f19)))
    (l19 : K.lookup f19 = some ⟨oc19, od19, .func (PySem.W.fnOf "follows" "follows" (defArgs sFollows) (defBody sFollows) (defScope sFollows) .none kV19 dc19 pm19 an19 cd19 ct19), sl19⟩)
    (c19 : PySem.W.codeIn K cd19 "follows" = true)
    (k19 : PySem.W.keepIn K (.ref f19) = true)
    (a20 : PySem.W.nsIn K mainGlobals "begun" = some (some (.ref f20)))
    (l20 : K.lookup f20 = some ⟨oc20, od20, .func (PySem.W.fnOf "begun" "begun" (defArgs sBegun) (defBody sBegun) (defScope sBegun) .none kV20 dc20 pm20 an20 cd20 ct20), sl20⟩)
    (c20 : PySem.W.codeIn K cd20 "begun" = true)
    (k20 : PySem.W.keepIn K (.ref f20) = true)
    (a21 : PySem.W.nsIn K mainGlobals "led_place" = some (some (.ref f21)))
    (l21 : K.lookup f21 = some ⟨oc21, od21, .func (PySem.W.fnOf "led_place" "led_place" (defArgs sLed_place) (defBody sLed_place) (defScope sLed_place) .none kV21 dc21 pm21 an21 cd21 ct21), sl21⟩)
    (c21 : PySem.W.codeIn K cd21 "led_place" = true)
    (k21 : PySem.W.keepIn K (.ref f21) = true)
    (a22 : PySem.W.nsIn K mainGlobals "first_of" = some (some (.ref f22)))
    (l22 : K.lookup f22 = some ⟨oc22, od22, .func (PySem.W.fnOf "first_of" "first_of" (defArgs sFirst_of) (defBody sFirst_of) (defScope sFirst_of) .none kV22 dc22 pm22 an22 cd22 ct22), sl22⟩)
    (c22 : PySem.W.codeIn K cd22 "first_of" = true)
    (k22 : PySem.W.keepIn K (.ref f22) = true)
    (a23 : PySem.W.nsIn K mainGlobals "check_place" = some (some (.ref f23)))
    (l23 : K.lookup f23 = some ⟨oc23, od23, .func (PySem.W.fnOf "check_place" "check_place" (defArgs sCheck_place) (defBody sCheck_place) (defScope sCheck_place) .none kV23 dc23 pm23 an23 cd23 ct23), sl23⟩)
    (c23 : PySem.W.codeIn K cd23 "check_place" = true)
    (k23 : PySem.W.keepIn K (.ref f23) = true)
    (a24 : PySem.W.nsIn K mainGlobals "met" = some (some (.ref f24)))
    (l24 : K.lookup f24 = some ⟨oc24, od24, .func (PySem.W.fnOf "met" "met" (defArgs sMet) (defBody sMet) (defScope sMet) .none kV24 dc24 pm24 an24 cd24 ct24), sl24⟩)
    (c24 : PySem.W.codeIn K cd24 "met" = true)
    (k24 : PySem.W.keepIn K (.ref f24) = true)
    (a25 : PySem.W.nsIn K mainGlobals "front" = some (some (.ref f25)))
    (l25 : K.lookup f25 = some ⟨oc25, od25, .func (PySem.W.fnOf "front" "front" (defArgs sFront) (defBody sFront) (defScope sFront) .none kV25 dc25 pm25 an25 cd25 ct25), sl25⟩)
    (c25 : PySem.W.codeIn K cd25 "front" = true)
    (k25 : PySem.W.keepIn K (.ref f25) = true)
    (a26 : PySem.W.nsIn K mainGlobals "least_failing" = some (some (.ref f26)))
    (l26 : K.lookup f26 = some ⟨oc26, od26, .func (PySem.W.fnOf "least_failing" "least_failing" (defArgs sLeast_failing) (defBody sLeast_failing) (defScope sLeast_failing) .none kV26 dc26 pm26 an26 cd26 ct26), sl26⟩)
    (c26 : PySem.W.codeIn K cd26 "least_failing" = true)
    (k26 : PySem.W.keepIn K (.ref f26) = true)
    (a27 : PySem.W.nsIn K mainGlobals "alike" = some (some (.ref f27)))
    (l27 : K.lookup f27 = some ⟨oc27, od27, .func (PySem.W.fnOf "alike" "alike" (defArgs sAlike) (defBody sAlike) (defScope sAlike) .none kV27 dc27 pm27 an27 cd27 ct27), sl27⟩)
    (c27 : PySem.W.codeIn K cd27 "alike" = true)
    (k27 : PySem.W.keepIn K (.ref f27) = true)
    (a28 : PySem.W.nsIn K mainGlobals "parted" = some (some (.ref f28)))
    (l28 : K.lookup f28 = some ⟨oc28, od28, .func (PySem.W.fnOf "parted" "parted" (defArgs sParted) (defBody sParted) (defScope sParted) .none kV28 dc28 pm28 an28 (.ref cT2) ct28), sl28⟩)
    (c28 : PySem.W.codeIn K (.ref cT2) "parted" = true)
    (k28 : PySem.W.keepIn K (.ref f28) = true)
    (a29 : PySem.W.nsIn K mainGlobals "beat" = some (some (.ref f29)))
    (l29 : K.lookup f29 = some ⟨oc29, od29, .func (PySem.W.fnOf "beat" "beat" (defArgs sBeat) (defBody sBeat) (defScope sBeat) .none kV29 dc29 pm29 an29 cd29 ct29), sl29⟩)
    (c29 : PySem.W.codeIn K cd29 "beat" = true)
    (k29 : PySem.W.keepIn K (.ref f29) = true)
    (a30 : PySem.W.nsIn K mainGlobals "mirror" = some (some (.ref f30)))
    (l30 : K.lookup f30 = some ⟨oc30, od30, .func (PySem.W.fnOf "mirror" "mirror" (defArgs sMirror) (defBody sMirror) (defScope sMirror) .none kV30 dc30 pm30 an30 cd30 ct30), sl30⟩)
    (c30 : PySem.W.codeIn K cd30 "mirror" = true)
    (k30 : PySem.W.keepIn K (.ref f30) = true)
    (a31 : PySem.W.nsIn K mainGlobals "each_first" = some (some (.ref f31)))
    (l31 : K.lookup f31 = some ⟨oc31, od31, .func (PySem.W.fnOf "each_first" "each_first" (defArgs sEach_first) (defBody sEach_first) (defScope sEach_first) .none kV31 dc31 pm31 an31 cd31 ct31), sl31⟩)
    (c31 : PySem.W.codeIn K cd31 "each_first" = true)
    (k31 : PySem.W.keepIn K (.ref f31) = true)
    (a32 : PySem.W.nsIn K mainGlobals "wrong" = some (some (.ref f32)))
    (l32 : K.lookup f32 = some ⟨oc32, od32, .func (PySem.W.fnOf "wrong" "wrong" (defArgs sWrong) (defBody sWrong) (defScope sWrong) .none kV32 dc32 pm32 an32 cd32 ct32), sl32⟩)
    (c32 : PySem.W.codeIn K cd32 "wrong" = true)
    (k32 : PySem.W.keepIn K (.ref f32) = true)
    (a33 : PySem.W.nsIn K mainGlobals "beside" = some (some (.ref f33)))
    (l33 : K.lookup f33 = some ⟨oc33, od33, .func (PySem.W.fnOf "beside" "beside" (defArgs sBeside) (defBody sBeside) (defScope sBeside) .none kV33 dc33 pm33 an33 cd33 ct33), sl33⟩)
    (c33 : PySem.W.codeIn K cd33 "beside" = true)
    (k33 : PySem.W.keepIn K (.ref f33) = true)
    (a34 : PySem.W.nsIn K mainGlobals "came_from" = some (some (.ref f34)))
    (l34 : K.lookup f34 = some ⟨oc34, od34, .func (PySem.W.fnOf "came_from" "came_from" (defArgs sCame_from) (defBody sCame_from) (defScope sCame_from) .none kV34 dc34 pm34 an34 cd34 ct34), sl34⟩)
    (c34 : PySem.W.codeIn K cd34 "came_from" = true)
    (k34 : PySem.W.keepIn K (.ref f34) = true)
    (a35 : PySem.W.nsIn K mainGlobals "path" = some (some (.ref f35)))
    (l35 : K.lookup f35 = some ⟨oc35, od35, .func (PySem.W.fnOf "path" "path" (defArgs sPath) (defBody sPath) (defScope sPath) .none kV35 dc35 pm35 an35 cd35 ct35), sl35⟩)
    (c35 : PySem.W.codeIn K cd35 "path" = true)
    (k35 : PySem.W.keepIn K (.ref f35) = true)
    (a36 : PySem.W.nsIn K mainGlobals "leads" = some (some (.ref f36)))
    (l36 : K.lookup f36 = some ⟨oc36, od36, .func (PySem.W.fnOf "leads" "leads" (defArgs sLeads) (defBody sLeads) (defScope sLeads) .none kV36 dc36 pm36 an36 cd36 ct36), sl36⟩)
    (c36 : PySem.W.codeIn K cd36 "leads" = true)
    (k36 : PySem.W.keepIn K (.ref f36) = true)
    (a37 : PySem.W.nsIn K mainGlobals "_law_mix" = some (some (.ref f37)))
    (l37 : K.lookup f37 = some ⟨oc37, od37, .func (PySem.W.fnOf "_law_mix" "_law_mix" (defArgs sMix) (defBody sMix) (defScope sMix) .none kV37 dc37 pm37 an37 cd37 ct37), sl37⟩)
    (c37 : PySem.W.codeIn K cd37 "_law_mix" = true)
    (k37 : PySem.W.keepIn K (.ref f37) = true)
    (a38 : PySem.W.nsIn K mainGlobals "_law_raw" = some (some (.ref f38)))
    (l38 : K.lookup f38 = some ⟨oc38, od38, .func (PySem.W.fnOf "_law_raw" "_law_raw" (defArgs sRaw) (defBody sRaw) (defScope sRaw) .none kV38 dc38 pm38 an38 cd38 ct38), sl38⟩)
    (c38 : PySem.W.codeIn K cd38 "_law_raw" = true)
    (k38 : PySem.W.keepIn K (.ref f38) = true)
    (a39 : PySem.W.nsIn K mainGlobals "_law_digits" = some (some (.ref f39)))
    (l39 : K.lookup f39 = some ⟨oc39, od39, .func (PySem.W.fnOf "_law_digits" "_law_digits" (defArgs sDig) (defBody sDig) (defScope sDig) .none kV39 dc39 pm39 an39 cd39 ct39), sl39⟩)
    (c39 : PySem.W.codeIn K cd39 "_law_digits" = true)
    (k39 : PySem.W.keepIn K (.ref f39) = true)
    (a40 : PySem.W.nsIn K mainGlobals "_law_kin" = some (some (.ref f40)))
    (l40 : K.lookup f40 = some ⟨oc40, od40, .func (PySem.W.fnOf "_law_kin" "_law_kin" (defArgs s_law_kin) (defBody s_law_kin) (defScope s_law_kin) .none kV40 dc40 pm40 an40 cd40 ct40), sl40⟩)
    (c40 : PySem.W.codeIn K cd40 "_law_kin" = true)
    (k40 : PySem.W.keepIn K (.ref f40) = true)
    (a41 : PySem.W.nsIn K mainGlobals "_law_saying" = some (some (.ref f41)))
    (l41 : K.lookup f41 = some ⟨oc41, od41, .func (PySem.W.fnOf "_law_saying" "_law_saying" (defArgs s_law_saying) (defBody s_law_saying) (defScope s_law_saying) .none kV41 dc41 pm41 an41 cd41 ct41), sl41⟩)
    (c41 : PySem.W.codeIn K cd41 "_law_saying" = true)
    (k41 : PySem.W.keepIn K (.ref f41) = true)
    (a42 : PySem.W.nsIn K mainGlobals "_law_sayings" = some (some (.ref f42)))
    (l42 : K.lookup f42 = some ⟨oc42, od42, .func (PySem.W.fnOf "_law_sayings" "_law_sayings" (defArgs s_law_sayings) (defBody s_law_sayings) (defScope s_law_sayings) .none kV42 dc42 pm42 an42 cd42 ct42), sl42⟩)
    (c42 : PySem.W.codeIn K cd42 "_law_sayings" = true)
    (k42 : PySem.W.keepIn K (.ref f42) = true)
    (a43 : PySem.W.nsIn K mainGlobals "_law_same" = some (some (.ref f43)))
    (l43 : K.lookup f43 = some ⟨oc43, od43, .func (PySem.W.fnOf "_law_same" "_law_same" (defArgs sSame) (defBody sSame) (defScope sSame) .none kV43 dc43 pm43 an43 cd43 ct43), sl43⟩)
    (c43 : PySem.W.codeIn K cd43 "_law_same" = true)
    (k43 : PySem.W.keepIn K (.ref f43) = true)
    (a44 : PySem.W.nsIn K mainGlobals "_law_spoilt" = some (some (.ref f44)))
    (l44 : K.lookup f44 = some ⟨oc44, od44, .func (PySem.W.fnOf "_law_spoilt" "_law_spoilt" (defArgs s_law_spoilt) (defBody s_law_spoilt) (defScope s_law_spoilt) .none kV44 dc44 pm44 an44 cd44 ct44), sl44⟩)
    (c44 : PySem.W.codeIn K cd44 "_law_spoilt" = true)
    (k44 : PySem.W.keepIn K (.ref f44) = true)
    (a45 : PySem.W.nsIn K mainGlobals "_law_fits" = some (some (.ref f45)))
    (l45 : K.lookup f45 = some ⟨oc45, od45, .func (PySem.W.fnOf "_law_fits" "_law_fits" (defArgs s_law_fits) (defBody s_law_fits) (defScope s_law_fits) .none kV45 dc45 pm45 an45 cd45 ct45), sl45⟩)
    (c45 : PySem.W.codeIn K cd45 "_law_fits" = true)
    (k45 : PySem.W.keepIn K (.ref f45) = true)
    (a46 : PySem.W.nsIn K mainGlobals "_law_tried" = some (some (.ref f46)))
    (l46 : K.lookup f46 = some ⟨oc46, od46, .func (PySem.W.fnOf "_law_tried" "_law_tried" (defArgs s_law_tried) (defBody s_law_tried) (defScope s_law_tried) .none kV46 dc46 pm46 an46 cd46 ct46), sl46⟩)
    (c46 : PySem.W.codeIn K cd46 "_law_tried" = true)
    (k46 : PySem.W.keepIn K (.ref f46) = true)
    (a47 : PySem.W.nsIn K mainGlobals "law" = some (some (.ref f47)))
    (l47 : K.lookup f47 = some ⟨oc47, od47, .func (PySem.W.fnOf "law" "law" (defArgs sLaw) (defBody sLaw) (defScope sLaw) .none kV47 dc47 pm47 an47 cd47 ct47), sl47⟩)
    (c47 : PySem.W.codeIn K cd47 "law" = true)
    (k47 : PySem.W.keepIn K (.ref f47) = true)
    (a48 : PySem.W.findIn K (.ref C_Classes) "__init__" = some (some (.ref f48)))
    (i48 : PySem.W.isFn K (.ref f48) = true)
    (l48 : K.lookup f48 = some ⟨oc48, od48, .func (PySem.W.fnOf "__init__" "Classes.__init__" (defArgs sInit) (defBody sInit) (defScope sInit) .none kV48 dc48 pm48 an48 cd48 ct48), sl48⟩)
    (c48 : PySem.W.codeIn K cd48 "Classes.__init__" = true)
    (k48 : PySem.W.keepIn K (.ref f48) = true)
    (a49 : PySem.W.findIn K (.ref C_Classes) "length" = some (some (.ref f49)))
    (i49 : PySem.W.isFn K (.ref f49) = true)
    (l49 : K.lookup f49 = some ⟨oc49, od49, .func (PySem.W.fnOf "length" "Classes.length" (defArgs sMLength) (defBody sMLength) (defScope sMLength) .none kV49 dc49 pm49 an49 cd49 ct49), sl49⟩)
    (c49 : PySem.W.codeIn K cd49 "Classes.length" = true)
    (k49 : PySem.W.keepIn K (.ref f49) = true)
    (a50 : PySem.W.findIn K (.ref C_Classes) "count" = some (some (.ref f50)))
    (i50 : PySem.W.isFn K (.ref f50) = true)
    (l50 : K.lookup f50 = some ⟨oc50, od50, .func (PySem.W.fnOf "count" "Classes.count" (defArgs sMCount) (defBody sMCount) (defScope sMCount) .none kV50 dc50 pm50 an50 cd50 ct50), sl50⟩)
    (c50 : PySem.W.codeIn K cd50 "Classes.count" = true)
    (k50 : PySem.W.keepIn K (.ref f50) = true)
    (a51 : PySem.W.findIn K (.ref C_Classes) "first" = some (some (.ref f51)))
    (i51 : PySem.W.isFn K (.ref f51) = true)
    (l51 : K.lookup f51 = some ⟨oc51, od51, .func (PySem.W.fnOf "first" "Classes.first" (defArgs sMFirst) (defBody sMFirst) (defScope sMFirst) .none kV51 dc51 pm51 an51 cd51 ct51), sl51⟩)
    (c51 : PySem.W.codeIn K cd51 "Classes.first" = true)
    (k51 : PySem.W.keepIn K (.ref f51) = true)
    (a52 : PySem.W.findIn K (.ref C_Classes) "same" = some (some (.ref f52)))
    (i52 : PySem.W.isFn K (.ref f52) = true)
    (l52 : K.lookup f52 = some ⟨oc52, od52, .func (PySem.W.fnOf "same" "Classes.same" (defArgs sMSame) (defBody sMSame) (defScope sMSame) .none kV52 dc52 pm52 an52 cd52 ct52), sl52⟩)
    (c52 : PySem.W.codeIn K cd52 "Classes.same" = true)
    (k52 : PySem.W.keepIn K (.ref f52) = true)
    (pg_Classes : PySem.W.plainGet K C_Classes Str.empty = true)
    (hd_Classes : PySem.W.hasDictIn K C_Classes = true)
    (po_Classes : PySem.W.plainOver K C_Classes = true)
    (sa_Classes : PySem.W.findIn K (.ref C_Classes) "__setattr__" = some (some (.builtin "object.__setattr__")))
    (mk_Classes : PySem.W.makesIn K C_Classes = true)
    (kc_Classes : PySem.W.keepIn K (.ref C_Classes) = true)
    (n_Classes_size : PySem.W.findIn K (.ref C_Classes) "size" = some none)
    (n_Classes_cuts : PySem.W.findIn K (.ref C_Classes) "cuts" = some none)
    (n_Classes_rows : PySem.W.findIn K (.ref C_Classes) "rows" = some none)
    (aI_TOO_LONG : PySem.W.nsIn K mainGlobals "TOO_LONG" = some (some v_TOO_LONG))
    (y_sorted : PySem.W.nsIn K mainGlobals "sorted" = some none)
    (y_len : PySem.W.nsIn K mainGlobals "len" = some none)
    (y_range : PySem.W.nsIn K mainGlobals "range" = some none)
    (y_list : PySem.W.nsIn K mainGlobals "list" = some none)
    (y_isinstance : PySem.W.nsIn K mainGlobals "isinstance" = some none)
    (y_bool : PySem.W.nsIn K mainGlobals "bool" = some none)
    (y_int : PySem.W.nsIn K mainGlobals "int" = some none)
    (y_tuple : PySem.W.nsIn K mainGlobals "tuple" = some none)
    (y_str : PySem.W.nsIn K mainGlobals "str" = some none)
    (y_all : PySem.W.nsIn K mainGlobals "all" = some none)
    (y_zip : PySem.W.nsIn K mainGlobals "zip" = some none)
    (y_min : PySem.W.nsIn K mainGlobals "min" = some none)
    (y_max : PySem.W.nsIn K mainGlobals "max" = some none)
    (y_enumerate : PySem.W.nsIn K mainGlobals "enumerate" = some none)
    (y_sum : PySem.W.nsIn K mainGlobals "sum" = some none)
    (y_abs : PySem.W.nsIn K mainGlobals "abs" = some none)
    (y_ValueError : PySem.W.nsIn K mainGlobals "ValueError" = some none)
    (r_TOO_LONG : RelV (.int (10 ^ 40)) v_TOO_LONG)
    (tb : PySem.W.tabIn K "cut_by_leader" = some (cT, PT))
    (nt : PySem.W.noTabs K = true)
    (rec : (recsOf q).find? (fun e => e.name == ("cut_by_leader" : Str)) = some dR)
    (tb2 : PySem.W.tabIn K "parted" = some (cT2, PT2))
    (hne : PT ≠ PT2)
    (rec2 : (recsOf q).find? (fun e => e.name == ("parted" : Str)) = some dR2)
    (re_b : PySem.W.subIn K (.ref C_RepriseError) (.type "BaseException") = some true)
    (re_d : PySem.W.hasDictIn K C_RepriseError = true)
    (re_t : PySem.W.typeIn K (.ref C_RepriseError) = some (.type "type"))
    (x_BadLength : PySem.W.excIn K C_BadLength [.type "ValueError", .type "Exception", .type "BaseException", .type "object"] "ValueError.__new__" = true)
    (k_BadLength : PySem.W.keepIn K (.ref C_BadLength) = true)
    (b_BadLength : PySem.W.subIn K (.ref C_BadLength) (.type "BaseException") = some true)
    (t_BadLength : PySem.W.typeIn K (.ref C_BadLength) = some (.type "type"))
    (s_BadLength : PySem.W.subIn K (.ref C_BadLength) (.ref C_RepriseError) = some true)
    (e1_BadLength : PySem.W.findIn K (.ref C_BadLength) "__getattribute__" = some (some (.builtin "BaseException.__getattribute__")))
    (e2_BadLength : PySem.W.findIn K (.ref C_BadLength) "__getattr__" = some none)
    (e4_BadLength : PySem.W.hasDictIn K C_BadLength = true)
    (e5_BadLength : PySem.W.findIn K (.ref C_BadLength) "__class__" = some (some (.builtin "object.__class__")))
    (e8_BadLength : PySem.W.mroIn K C_BadLength (.type "object") = some true)
    (q0_BadLength : PySem.W.kitOne K (.ref C_BadLength) (.ref C_BadLength) = some true)
    (q1_BadLength : PySem.W.kitOne K (.ref C_BadLength) (.ref C_BadStretch) = some false)
    (q2_BadLength : PySem.W.kitOne K (.ref C_BadLength) (.ref C_NoPlace) = some false)
    (q3_BadLength : PySem.W.kitOne K (.ref C_BadLength) (.ref C_NoNumber) = some false)
    (q4_BadLength : PySem.W.kitOne K (.ref C_BadLength) (.ref C_BadLetter) = some false)
    (q5_BadLength : PySem.W.kitOne K (.ref C_BadLength) (.ref C_Full) = some false)
    (q6_BadLength : PySem.W.kitOne K (.ref C_BadLength) (.ref C_InUse) = some false)
    (q7_BadLength : PySem.W.kitOne K (.ref C_BadLength) (.ref C_NothingLeft) = some false)
    (q8_BadLength : PySem.W.kitOne K (.ref C_BadLength) (.ref C_BadPage) = some false)
    (qV_BadLength : PySem.W.kitOne K (.ref C_BadLength) (.type "ValueError") = some true)
    (x_BadStretch : PySem.W.excIn K C_BadStretch [.type "ValueError", .type "Exception", .type "BaseException", .type "object"] "ValueError.__new__" = true)
    (k_BadStretch : PySem.W.keepIn K (.ref C_BadStretch) = true)
    (b_BadStretch : PySem.W.subIn K (.ref C_BadStretch) (.type "BaseException") = some true)
    (t_BadStretch : PySem.W.typeIn K (.ref C_BadStretch) = some (.type "type"))
    (s_BadStretch : PySem.W.subIn K (.ref C_BadStretch) (.ref C_RepriseError) = some true)
    (e1_BadStretch : PySem.W.findIn K (.ref C_BadStretch) "__getattribute__" = some (some (.builtin "BaseException.__getattribute__")))
    (e2_BadStretch : PySem.W.findIn K (.ref C_BadStretch) "__getattr__" = some none)
    (e4_BadStretch : PySem.W.hasDictIn K C_BadStretch = true)
    (e5_BadStretch : PySem.W.findIn K (.ref C_BadStretch) "__class__" = some (some (.builtin "object.__class__")))
    (e8_BadStretch : PySem.W.mroIn K C_BadStretch (.type "object") = some true)
    (q0_BadStretch : PySem.W.kitOne K (.ref C_BadStretch) (.ref C_BadLength) = some false)
    (q1_BadStretch : PySem.W.kitOne K (.ref C_BadStretch) (.ref C_BadStretch) = some true)
    (q2_BadStretch : PySem.W.kitOne K (.ref C_BadStretch) (.ref C_NoPlace) = some false)
    (q3_BadStretch : PySem.W.kitOne K (.ref C_BadStretch) (.ref C_NoNumber) = some false)
    (q4_BadStretch : PySem.W.kitOne K (.ref C_BadStretch) (.ref C_BadLetter) = some false)
    (q5_BadStretch : PySem.W.kitOne K (.ref C_BadStretch) (.ref C_Full) = some false)
    (q6_BadStretch : PySem.W.kitOne K (.ref C_BadStretch) (.ref C_InUse) = some false)
    (q7_BadStretch : PySem.W.kitOne K (.ref C_BadStretch) (.ref C_NothingLeft) = some false)
    (q8_BadStretch : PySem.W.kitOne K (.ref C_BadStretch) (.ref C_BadPage) = some false)
    (qV_BadStretch : PySem.W.kitOne K (.ref C_BadStretch) (.type "ValueError") = some true)
    (x_NoPlace : PySem.W.excIn K C_NoPlace [.type "ValueError", .type "Exception", .type "BaseException", .type "object"] "ValueError.__new__" = true)
    (k_NoPlace : PySem.W.keepIn K (.ref C_NoPlace) = true)
    (b_NoPlace : PySem.W.subIn K (.ref C_NoPlace) (.type "BaseException") = some true)
    (t_NoPlace : PySem.W.typeIn K (.ref C_NoPlace) = some (.type "type"))
    (s_NoPlace : PySem.W.subIn K (.ref C_NoPlace) (.ref C_RepriseError) = some true)
    (e1_NoPlace : PySem.W.findIn K (.ref C_NoPlace) "__getattribute__" = some (some (.builtin "BaseException.__getattribute__")))
    (e2_NoPlace : PySem.W.findIn K (.ref C_NoPlace) "__getattr__" = some none)
    (e4_NoPlace : PySem.W.hasDictIn K C_NoPlace = true)
    (e5_NoPlace : PySem.W.findIn K (.ref C_NoPlace) "__class__" = some (some (.builtin "object.__class__")))
    (e8_NoPlace : PySem.W.mroIn K C_NoPlace (.type "object") = some true)
    (q0_NoPlace : PySem.W.kitOne K (.ref C_NoPlace) (.ref C_BadLength) = some false)
    (q1_NoPlace : PySem.W.kitOne K (.ref C_NoPlace) (.ref C_BadStretch) = some false)
    (q2_NoPlace : PySem.W.kitOne K (.ref C_NoPlace) (.ref C_NoPlace) = some true)
    (q3_NoPlace : PySem.W.kitOne K (.ref C_NoPlace) (.ref C_NoNumber) = some false)
    (q4_NoPlace : PySem.W.kitOne K (.ref C_NoPlace) (.ref C_BadLetter) = some false)
    (q5_NoPlace : PySem.W.kitOne K (.ref C_NoPlace) (.ref C_Full) = some false)
    (q6_NoPlace : PySem.W.kitOne K (.ref C_NoPlace) (.ref C_InUse) = some false)
    (q7_NoPlace : PySem.W.kitOne K (.ref C_NoPlace) (.ref C_NothingLeft) = some false)
    (q8_NoPlace : PySem.W.kitOne K (.ref C_NoPlace) (.ref C_BadPage) = some false)
    (qV_NoPlace : PySem.W.kitOne K (.ref C_NoPlace) (.type "ValueError") = some true)
    (e6_all : PySem.W.specialIn K (.builtin "object.__class__") "__get__" = some (some (.builtin "getset_descriptor.__get__")))
    (e7_all : PySem.W.takesIn K (.builtin "object.__class__") = some true)
    : LamX.LawAtS l w K CX0 14 63 "_law_script" mg fa h := by
  have G := TT.g
  have e := hfa.symm.trans (PySem.W.mg_of X G a47)
  cases e
  obtain ⟨hC, hP⟩ := PySem.W.tab_of TT X rec tb
  obtain ⟨hC2, hP2⟩ := PySem.W.tab_of TT X rec2 tb2
  have F1 := fun_mk (st := sCheck_length) l1 c1 k1
  have g1 := PySem.W.mg_of X G a1
  have b1 := F1.binds (ps := ["length"]) fun _ _ _ _ _ _ us hl => match us, hl with | [_], _ => rfl
  have F2 := fun_mk (st := sCheck_stretch) l2 c2 k2
  have g2 := PySem.W.mg_of X G a2
  have b2 := F2.binds (ps := ["length", "at", "many"]) fun _ _ _ _ _ _ us hl => match us, hl with | [_, _, _], _ => rfl
  have F3 := fun_mk (st := sCheck_sayings) l3 c3 k3
  have g3 := PySem.W.mg_of X G a3
  have b3 := F3.binds (ps := ["length", "sayings"]) fun _ _ _ _ _ _ us hl => match us, hl with | [_, _], _ => rfl
  have F4 := fun_mk (st := sKept_form) l4 c4 k4
  have g4 := PySem.W.mg_of X G a4
  have b4 := F4.binds (ps := ["one", "other", "many", "turned"]) fun _ _ _ _ _ _ us hl => match us, hl with | [_, _, _, _], _ => rfl
  have F5 := fun_mk (st := sKept_forms) l5 c5 k5
  have g5 := PySem.W.mg_of X G a5
  have b5 := F5.binds (ps := ["sayings"]) fun _ _ _ _ _ _ us hl => match us, hl with | [_], _ => rfl
  have F6 := fun_mk (st := sCommon_beat) l6 c6 k6
  have g6 := PySem.W.mg_of X G a6
  have b6 := F6.binds (ps := ["one", "other"]) fun _ _ _ _ _ _ us hl => match us, hl with | [_, _], _ => rfl
  have F7 := fun_mk (st := sPartner) l7 c7 k7
  have g7 := PySem.W.mg_of X G a7
  have b7 := F7.binds (ps := ["kept", "saying"]) fun _ _ _ _ _ _ us hl => match us, hl with | [_, _], _ => rfl
  have F8 := fun_mk (st := sJoined) l8 c8 k8
  have g8 := PySem.W.mg_of X G a8
  have b8 := F8.binds (ps := ["saying", "other"]) fun _ _ _ _ _ _ us hl => match us, hl with | [_, _], _ => rfl
  have F9 := fun_mk (st := sTaken_in) l9 c9 k9
  have g9 := PySem.W.mg_of X G a9
  have b9 := F9.binds (ps := ["kept", "fresh"]) fun _ _ _ _ _ _ us hl => match us, hl with | [_, _], _ => rfl
  have F10 := fun_mk (st := sGreatest_end) l10 c10 k10
  have g10 := PySem.W.mg_of X G a10
  have b10 := F10.binds (ps := ["kept"]) fun _ _ _ _ _ _ us hl => match us, hl with | [_], _ => rfl
  have F11 := fun_mk (st := sCarried_start) l11 c11 k11
  have g11 := PySem.W.mg_of X G a11
  have b11 := F11.binds (ps := ["leader", "start", "many"]) fun _ _ _ _ _ _ us hl => match us, hl with | [_, _, _], _ => rfl
  have F12 := fun_mk (st := sCarried) l12 c12 k12
  have g12 := PySem.W.mg_of X G a12
  have b12 := F12.binds (ps := ["leader", "saying"]) fun _ _ _ _ _ _ us hl => match us, hl with | [_, _], _ => rfl
  have F13 := fun_mk (st := sShortened) l13 c13 k13
  have g13 := PySem.W.mg_of X G a13
  have b13 := F13.binds (ps := ["leader", "end"]) fun _ _ _ _ _ _ us hl => match us, hl with | [_, _], _ => rfl
  have F14 := fun_mk (st := sLed_cut) l14 c14 k14
  have g14 := PySem.W.mg_of X G a14
  have b14 := F14.binds (ps := ["leader", "low"]) fun _ _ _ _ _ _ us hl => match us, hl with | [_, _], _ => rfl
  have F15 := fun_mk (st := sCut_by_leader) l15 c15 k15
  have g15 := PySem.W.mg_of X G a15
  have b15 := F15.binds (ps := ["kept"]) fun _ _ _ _ _ _ us hl => match us, hl with | [_], _ => rfl
  have F16 := fun_mk (st := sCuts_of) l16 c16 k16
  have g16 := PySem.W.mg_of X G a16
  have b16 := F16.binds (ps := ["length", "sayings"]) fun _ _ _ _ _ _ us hl => match us, hl with | [_, _], _ => rfl
  have F17 := fun_mk (st := sTidy) l17 c17 k17
  have g17 := PySem.W.mg_of X G a17
  have b17 := F17.binds (ps := ["rows"]) fun _ _ _ _ _ _ us hl => match us, hl with | [_], _ => rfl
  have F18 := fun_mk (st := sBreadth) l18 c18 k18
  have g18 := PySem.W.mg_of X G a18
  have b18 := F18.binds (ps := ["rows"]) fun _ _ _ _ _ _ us hl => match us, hl with | [_], _ => rfl
  have F19 := fun_mk (st := sFollows) l19 c19 k19
  have g19 := PySem.W.mg_of X G a19
  have b19 := F19.binds (ps := ["classes", "sayings", "saying"]) fun _ _ _ _ _ _ us hl => match us, hl with | [_, _, _], _ => rfl
  have F20 := fun_mk (st := sBegun) l20 c20 k20
  have g20 := PySem.W.mg_of X G a20
  have b20 := F20.binds (ps := ["rows", "place"]) fun _ _ _ _ _ _ us hl => match us, hl with | [_, _], _ => rfl
  have F21 := fun_mk (st := sLed_place) l21 c21 k21
  have g21 := PySem.W.mg_of X G a21
  have b21 := F21.binds (ps := ["cut", "place"]) fun _ _ _ _ _ _ us hl => match us, hl with | [_, _], _ => rfl
  have F22 := fun_mk (st := sFirst_of) l22 c22 k22
  have g22 := PySem.W.mg_of X G a22
  have b22 := F22.binds (ps := ["cuts", "place"]) fun _ _ _ _ _ _ us hl => match us, hl with | [_, _], _ => rfl
  have F23 := fun_mk (st := sCheck_place) l23 c23 k23
  have g23 := PySem.W.mg_of X G a23
  have b23 := F23.binds (ps := ["length", "place"]) fun _ _ _ _ _ _ us hl => match us, hl with | [_, _], _ => rfl
  have F24 := fun_mk (st := sMet) l24 c24 k24
  have g24 := PySem.W.mg_of X G a24
  have b24 := F24.binds (ps := ["saying", "i"]) fun _ _ _ _ _ _ us hl => match us, hl with | [_, _], _ => rfl
  have F25 := fun_mk (st := sFront) l25 c25 k25
  have g25 := PySem.W.mg_of X G a25
  have b25 := F25.binds (ps := ["saying", "size"]) fun _ _ _ _ _ _ us hl => match us, hl with | [_, _], _ => rfl
  have F26 := fun_mk (st := sLeast_failing) l26 c26 k26
  have g26 := PySem.W.mg_of X G a26
  have b26 := F26.binds (ps := ["behind", "holds"]) fun _ _ _ _ _ _ us hl => match us, hl with | [_, _], _ => rfl
  have F27 := fun_mk (st := sAlike) l27 c27 k27
  have g27 := PySem.W.mg_of X G a27
  have b27 := F27.binds (ps := ["length", "sayings", "one", "other", "many", "turned"]) fun _ _ _ _ _ _ us hl => match us, hl with | [_, _, _, _, _, _], _ => rfl
  have F28 := fun_mk (st := sParted) l28 c28 k28
  have g28 := PySem.W.mg_of X G a28
  have b28 := F28.binds (ps := ["length", "sayings", "one", "other", "many", "turned"]) fun _ _ _ _ _ _ us hl => match us, hl with | [_, _, _, _, _, _], _ => rfl
  have F29 := fun_mk (st := sBeat) l29 c29 k29
  have g29 := PySem.W.mg_of X G a29
  have b29 := F29.binds (ps := ["length", "sayings", "at", "many", "step"]) fun _ _ _ _ _ _ us hl => match us, hl with | [_, _, _, _, _], _ => rfl
  have F30 := fun_mk (st := sMirror) l30 c30 k30
  have g30 := PySem.W.mg_of X G a30
  have b30 := F30.binds (ps := ["length", "sayings", "at", "many"]) fun _ _ _ _ _ _ us hl => match us, hl with | [_, _, _, _], _ => rfl
  have F31 := fun_mk (st := sEach_first) l31 c31 k31
  have g31 := PySem.W.mg_of X G a31
  have b31 := F31.binds (ps := ["length", "sayings"]) fun _ _ _ _ _ _ us hl => match us, hl with | [_, _], _ => rfl
  have F32 := fun_mk (st := sWrong) l32 c32 k32
  have g32 := PySem.W.mg_of X G a32
  have b32 := F32.binds (ps := ["length", "sayings", "told"]) fun _ _ _ _ _ _ us hl => match us, hl with | [_, _, _], _ => rfl
  have F33 := fun_mk (st := sBeside) l33 c33 k33
  have g33 := PySem.W.mg_of X G a33
  have b33 := F33.binds (ps := ["saying", "place"]) fun _ _ _ _ _ _ us hl => match us, hl with | [_, _], _ => rfl
  have F34 := fun_mk (st := sCame_from) l34 c34 k34
  have g34 := PySem.W.mg_of X G a34
  have b34 := F34.binds (ps := ["sayings", "one"]) fun _ _ _ _ _ _ us hl => match us, hl with | [_, _], _ => rfl
  have F35 := fun_mk (st := sPath) l35 c35 k35
  have g35 := PySem.W.mg_of X G a35
  have b35 := F35.binds (ps := ["length", "sayings", "one", "other"]) fun _ _ _ _ _ _ us hl => match us, hl with | [_, _, _, _], _ => rfl
  have F36 := fun_mk (st := sLeads) l36 c36 k36
  have g36 := PySem.W.mg_of X G a36
  have b36 := F36.binds (ps := ["length", "sayings", "one", "steps"]) fun _ _ _ _ _ _ us hl => match us, hl with | [_, _, _, _], _ => rfl
  have F37 := fun_mk (st := sMix) l37 c37 k37
  have g37 := PySem.W.mg_of X G a37
  have b37 := F37.binds (ps := ["_law_seed"]) fun _ _ _ _ _ _ us hl => match us, hl with | [_], _ => rfl
  have F38 := fun_mk (st := sRaw) l38 c38 k38
  have g38 := PySem.W.mg_of X G a38
  have b38 := F38.binds (ps := ["_law_script", "_law_k"]) fun _ _ _ _ _ _ us hl => match us, hl with | [_, _], _ => rfl
  have F39 := fun_mk (st := sDig) l39 c39 k39
  have g39 := PySem.W.mg_of X G a39
  have b39 := F39.binds (ps := ["_law_script", "_law_k", "_law_sizes"]) fun _ _ _ _ _ _ us hl => match us, hl with | [_, _, _], _ => rfl
  have F40 := fun_mk (st := s_law_kin) l40 c40 k40
  have g40 := PySem.W.mg_of X G a40
  have b40 := F40.binds (ps := ["_law_e"]) fun _ _ _ _ _ _ us hl => match us, hl with | [_], _ => rfl
  have F41 := fun_mk (st := s_law_saying) l41 c41 k41
  have g41 := PySem.W.mg_of X G a41
  have b41 := F41.binds (ps := ["_law_script", "_law_k", "_law_length"]) fun _ _ _ _ _ _ us hl => match us, hl with | [_, _, _], _ => rfl
  have F42 := fun_mk (st := s_law_sayings) l42 c42 k42
  have g42 := PySem.W.mg_of X G a42
  have b42 := F42.binds (ps := ["_law_script", "_law_k", "_law_length", "_law_many"]) fun _ _ _ _ _ _ us hl => match us, hl with | [_, _, _, _], _ => rfl
  have F43 := fun_mk (st := sSame) l43 c43 k43
  have g43 := PySem.W.mg_of X G a43
  have b43 := F43.binds (ps := ["_law_told", "_law_due"]) fun _ _ _ _ _ _ us hl => match us, hl with | [_, _], _ => rfl
  have F44 := fun_mk (st := s_law_spoilt) l44 c44 k44
  have g44 := PySem.W.mg_of X G a44
  have b44 := F44.binds (ps := ["_law_script", "_law_k", "_law_length", "_law_saying_here"]) fun _ _ _ _ _ _ us hl => match us, hl with | [_, _, _, _], _ => rfl
  have F45 := fun_mk (st := s_law_fits) l45 c45 k45
  have g45 := PySem.W.mg_of X G a45
  have b45 := F45.binds (ps := ["_law_length", "_law_saying_here"]) fun _ _ _ _ _ _ us hl => match us, hl with | [_, _], _ => rfl
  have F46 := fun_mk (st := s_law_tried) l46 c46 k46
  have g46 := PySem.W.mg_of X G a46
  have b46 := F46.binds (ps := ["_law_door", "_law_length", "_law_sayings_here"]) fun _ _ _ _ _ _ us hl => match us, hl with | [_, _, _], _ => rfl
  have F47 := fun_mk (st := sLaw) l47 c47 k47
  have g47 := PySem.W.mg_of X G a47
  have F48 := fun_mk (st := sInit) l48 c48 k48
  have b48 := F48.binds (ps := ["self", "length", "sayings"]) fun _ _ _ _ _ _ us hl => match us, hl with | [_, _, _], _ => rfl
  have F49 := fun_mk (st := sMLength) l49 c49 k49
  have b49 := F49.binds (ps := ["self"]) fun _ _ _ _ _ _ us hl => match us, hl with | [_], _ => rfl
  have F50 := fun_mk (st := sMCount) l50 c50 k50
  have b50 := F50.binds (ps := ["self"]) fun _ _ _ _ _ _ us hl => match us, hl with | [_], _ => rfl
  have F51 := fun_mk (st := sMFirst) l51 c51 k51
  have b51 := F51.binds (ps := ["self", "place"]) fun _ _ _ _ _ _ us hl => match us, hl with | [_, _], _ => rfl
  have F52 := fun_mk (st := sMSame) l52 c52 k52
  have b52 := F52.binds (ps := ["self", "one", "other"]) fun _ _ _ _ _ _ us hl => match us, hl with | [_, _, _], _ => rfl
  have gC_BadLength := PySem.W.mg_of X G aC_BadLength
  have gC_BadStretch := PySem.W.mg_of X G aC_BadStretch
  have gC_NoPlace := PySem.W.mg_of X G aC_NoPlace
  have gC_NoNumber := PySem.W.mg_of X G aC_NoNumber
  have gC_BadLetter := PySem.W.mg_of X G aC_BadLetter
  have gC_Full := PySem.W.mg_of X G aC_Full
  have gC_InUse := PySem.W.mg_of X G aC_InUse
  have gC_NothingLeft := PySem.W.mg_of X G aC_NothingLeft
  have gC_BadPage := PySem.W.mg_of X G aC_BadPage
  have gC_RepriseError := PySem.W.mg_of X G aC_RepriseError
  have gC_Classes := PySem.W.mg_of X G aC_Classes
  have cl_Classes : Cls K C_Classes := ⟨pg_Classes, hd_Classes, po_Classes, sa_Classes⟩
  have z_sorted := PySem.W.mg_none_of X G y_sorted
  have z_len := PySem.W.mg_none_of X G y_len
  have z_range := PySem.W.mg_none_of X G y_range
  have z_list := PySem.W.mg_none_of X G y_list
  have z_isinstance := PySem.W.mg_none_of X G y_isinstance
  have z_bool := PySem.W.mg_none_of X G y_bool
  have z_int := PySem.W.mg_none_of X G y_int
  have z_tuple := PySem.W.mg_none_of X G y_tuple
  have z_str := PySem.W.mg_none_of X G y_str
  have z_all := PySem.W.mg_none_of X G y_all
  have z_zip := PySem.W.mg_none_of X G y_zip
  have z_min := PySem.W.mg_none_of X G y_min
  have z_max := PySem.W.mg_none_of X G y_max
  have z_enumerate := PySem.W.mg_none_of X G y_enumerate
  have z_sum := PySem.W.mg_none_of X G y_sum
  have z_abs := PySem.W.mg_none_of X G y_abs
  have z_ValueError := PySem.W.mg_none_of X G y_ValueError
  have m_TOO_LONG : ∃ u, mg "TOO_LONG" = some u ∧ RelV (.int (10 ^ 40)) u := ⟨_, PySem.W.mg_of X G aI_TOO_LONG, r_TOO_LONG⟩
  refine ⟨PySem.W.fnOf "law" "law" (defArgs sLaw) (defBody sLaw) (defScope sLaw) .none kV47 dc47 pm47 an47 cd47 ct47, [(cT, PT), (cT2, PT2)], spLaw5 K PT, ?_, ?_, ?_, fun s v => .of_eq rfl, ?_, fun base _ _ TBs => ?_⟩
  · intro p hp; rcases List.mem_cons.mp hp with rfl | hp
    · exact hP
    · rw [List.mem_singleton.mp hp]; exact hP2
  · intro p hp; rcases List.mem_cons.mp hp with rfl | hp
    · exact no_tab X nt hP
    · rw [List.mem_singleton.mp hp]; exact no_tab X nt hP2
  · intro p hp; rcases List.mem_cons.mp hp with rfl | hp
    · exact hC
    · rw [List.mem_singleton.mp hp]; exact hC2
  · intro H a ns hl _ hH hS; exact ⟨a, ns, rfl, hS, hl, (fun p hp => by rcases List.mem_cons.mp hp with rfl | hp; exact NdefX.TabN.nil (hH (cT, PT) List.mem_cons_self); rw [List.mem_singleton.mp hp]; exact NdefX.TabN.nil (hH (cT2, PT2) (List.mem_cons_of_mem _ List.mem_cons_self))), fun _ => rfl⟩
  have TB := TBs (cT, PT) List.mem_cons_self
  have TB2 := TBs (cT2, PT2) (List.mem_cons_of_mem _ List.mem_cons_self)
  have FT : FunT K "cut_by_leader" "cut_by_leader" sCut_by_leader f15 _ cT := ⟨oc15, od15, kV15, dc15, pm15, an15, ct15, sl15, rfl, l15, c15⟩
  have FT2 : FunT K "parted" "parted" sParted f28 _ cT2 := ⟨oc28, od28, kV28, dc28, pm28, an28, ct28, sl28, rfl, l28, c28⟩
  have T : TySame mg := ⟨z_isinstance, z_bool, z_int, z_list, z_tuple, z_str, z_len, z_all, z_zip⟩
  have TX : TxC l.prog w K mg base PT C_Classes := ⟨cl_Classes, n_Classes_size, n_Classes_cuts, n_Classes_rows⟩
  have GI : FnOk l.prog w K mg base CX0 7 f48 _ ["self", "length", "sayings"] (spInit K PT C_Classes) := (ok_init F48 TX (ok_chkl F1 m_TOO_LONG) k1 b1 g1 (ok_chkss F3 (ok_chks F2) k2 b2 g2) k3 b3 g3 (ok_cuts F16 (ok_keptL F5 (ok_kept F4 z_min z_max) k4 b4 g4) k5 b5 g5 (ok_gend F10 z_max) k10 b10 g10 (ok_cutby FT TB hne (ok_keptL F5 (ok_kept F4 z_min z_max) k4 b4 g4) k5 b5 g5 (ok_carried F12 (ok_cstart F11) k11 b11 g11) k12 b12 g12 (ok_gend F10 z_max) k10 b10 g10 (ok_short F13) k13 b13 g13 (ok_ledcut F14) k14 b14 g14 (ok_taken F9 (ok_partner F7 z_min z_max z_enumerate) k7 b7 g7 (ok_joined F8 (ok_beat F6) k6 b6 g6 z_min z_max) k8 b8 g8 z_list) k9 b9 g9 z_max z_list) k15 b15 g15 (ok_taken F9 (ok_partner F7 z_min z_max z_enumerate) k7 b7 g7 (ok_joined F8 (ok_beat F6) k6 b6 g6 z_min z_max) k8 b8 g8 z_list) k9 b9 g9) k16 b16 g16 (ok_tidy F17 z_sorted) k17 b17 g17)
  have KM_ := (⟨rfl, fun i c h => match i, h with | 0, h => by cases h; exact gC_BadLength | 1, h => by cases h; exact gC_BadStretch | 2, h => by cases h; exact gC_NoPlace | 3, h => by cases h; exact gC_NoNumber | 4, h => by cases h; exact gC_BadLetter | 5, h => by cases h; exact gC_Full | 6, h => by cases h; exact gC_InUse | 7, h => by cases h; exact gC_NothingLeft | 8, h => by cases h; exact gC_BadPage | _ + 9, h => by simp at h⟩ : KinM mg [C_BadLength, C_BadStretch, C_NoPlace, C_NoNumber, C_BadLetter, C_Full, C_InUse, C_NothingLeft, C_BadPage])
  have XT_BadLength := (⟨gC_BadLength, x_BadLength, k_BadLength, b_BadLength, t_BadLength⟩ : ExT K mg "BadLength" C_BadLength)
  have KD_BadLength := (⟨⟨e1_BadLength, e2_BadLength, b_BadLength, e4_BadLength, e5_BadLength, e6_all, e7_all, e8_BadLength⟩, by decide, fun i c h => match i, h with | 0, h => by cases h; exact q0_BadLength | 1, h => by cases h; exact q1_BadLength | 2, h => by cases h; exact q2_BadLength | 3, h => by cases h; exact q3_BadLength | 4, h => by cases h; exact q4_BadLength | 5, h => by cases h; exact q5_BadLength | 6, h => by cases h; exact q6_BadLength | 7, h => by cases h; exact q7_BadLength | 8, h => by cases h; exact q8_BadLength | _ + 9, h => by simp at h, qV_BadLength⟩ : KinD K [C_BadLength, C_BadStretch, C_NoPlace, C_NoNumber, C_BadLetter, C_Full, C_InUse, C_NothingLeft, C_BadPage] C_BadLength 0)
  have XM_BadLength := (PySem.W.exm_ref re_b re_d re_t s_BadLength)
  have XT_BadStretch := (⟨gC_BadStretch, x_BadStretch, k_BadStretch, b_BadStretch, t_BadStretch⟩ : ExT K mg "BadStretch" C_BadStretch)
  have KD_BadStretch := (⟨⟨e1_BadStretch, e2_BadStretch, b_BadStretch, e4_BadStretch, e5_BadStretch, e6_all, e7_all, e8_BadStretch⟩, by decide, fun i c h => match i, h with | 0, h => by cases h; exact q0_BadStretch | 1, h => by cases h; exact q1_BadStretch | 2, h => by cases h; exact q2_BadStretch | 3, h => by cases h; exact q3_BadStretch | 4, h => by cases h; exact q4_BadStretch | 5, h => by cases h; exact q5_BadStretch | 6, h => by cases h; exact q6_BadStretch | 7, h => by cases h; exact q7_BadStretch | 8, h => by cases h; exact q8_BadStretch | _ + 9, h => by simp at h, qV_BadStretch⟩ : KinD K [C_BadLength, C_BadStretch, C_NoPlace, C_NoNumber, C_BadLetter, C_Full, C_InUse, C_NothingLeft, C_BadPage] C_BadStretch 1)
  have XM_BadStretch := (PySem.W.exm_ref re_b re_d re_t s_BadStretch)
  have XT_NoPlace := (⟨gC_NoPlace, x_NoPlace, k_NoPlace, b_NoPlace, t_NoPlace⟩ : ExT K mg "NoPlace" C_NoPlace)
  have KD_NoPlace := (⟨⟨e1_NoPlace, e2_NoPlace, b_NoPlace, e4_NoPlace, e5_NoPlace, e6_all, e7_all, e8_NoPlace⟩, by decide, fun i c h => match i, h with | 0, h => by cases h; exact q0_NoPlace | 1, h => by cases h; exact q1_NoPlace | 2, h => by cases h; exact q2_NoPlace | 3, h => by cases h; exact q3_NoPlace | 4, h => by cases h; exact q4_NoPlace | 5, h => by cases h; exact q5_NoPlace | 6, h => by cases h; exact q6_NoPlace | 7, h => by cases h; exact q7_NoPlace | 8, h => by cases h; exact q8_NoPlace | _ + 9, h => by simp at h, qV_NoPlace⟩ : KinD K [C_BadLength, C_BadStretch, C_NoPlace, C_NoNumber, C_BadLetter, C_Full, C_InUse, C_NothingLeft, C_BadPage] C_NoPlace 2)
  have XM_NoPlace := (PySem.W.exm_ref re_b re_d re_t s_NoPlace)
  have GD : FnOk l.prog w K mg base CX0 7 f39 _ ["_law_script", "_law_k", "_law_sizes"] (spDig K) := (ok_dig F39 (ok_raw F38 F37 b37 g37 z_len z_range) k38 b38 g38)
  have G1 : FnOk l.prog w K mg base CX0 7 f49 _ ["self"] (spMLen C_Classes) := (ok_mlen F49 TX)
  have G2 : FnOk l.prog w K mg base CX0 7 f50 _ ["self"] (spMCnt C_Classes) := (ok_mcnt F50 TX (ok_breadth F18 z_sum) k18 b18 g18)
  have GQ : FnOk l.prog w K mg base CX0 9 f19 _ ["classes", "sayings", "saying"] (spFol K PT C_Classes) := (ok_fol F19 ⟨cl_Classes, ⟨mk_Classes, a48, i48, kc_Classes⟩, GI, b48, gC_Classes, ⟨a49, i49, k49⟩, G1, b49, ⟨a50, i50, k50⟩, G2, b50⟩)
  have GC : FnOk l.prog w K mg base CX0 7 f2 _ ["length", "at", "many"] spChks := (ok_chks F2)
  have TA : TAlk l.prog w K mg base PT C_Classes 7 f48 f2 f19 _ _ _ := ⟨⟨mk_Classes, a48, i48, kc_Classes⟩, GI, b48, gC_Classes, GC, b2, k2, g2, GQ, b19, k19, g19, z_abs⟩
  have GMet : FnOk l.prog w K mg base CX0 7 f24 _ ["saying", "i"] spMet := (ok_met F24)
  have GFr : FnOk l.prog w K mg base CX0 8 f25 _ ["saying", "size"] spFront := (ok_front F25 GMet b24 k24 g24)
  have GSm : FnOk l.prog w K mg base CX0 7 f52 _ ["self", "one", "other"] (spMSame C_Classes) := (ok_msame F52 TX ⟨a51, i51, k51⟩ (ok_mfirst F51 TX (ok_chkp F23) k23 b23 g23 (ok_first F22 (ok_begun F20 z_len) k20 b20 g20 (ok_ledp F21) k21 b21 g21) k22 b22 g22) b51)
  have GPt : FnOk l.prog w K mg base CX0 12 f28 _ ["length", "sayings", "one", "other", "many", "turned"] (spPt K PT) := (ok_pt FT2 TB2 hne TA ⟨cl_Classes, GMet, b24, k24, g24, GFr, b25, k25, g25, F26, b26, k26, g26, ⟨a52, i52, k52⟩, GSm, b52, GQ, b19, k19, g19⟩)
  have GA0 : FnOk l.prog w K mg base CX0 10 f27 _ ["length", "sayings", "one", "other", "many", "turned"] (spAlk K PT) := (ok_alk F27 TA)
  have GB0 : FnOk l.prog w K mg base CX0 10 f29 _ ["length", "sayings", "at", "many", "step"] (spBt K PT) := (ok_bt F29 TA)
  have GM0 : FnOk l.prog w K mg base CX0 11 f30 _ ["length", "sayings", "at", "many"] (spMir K PT) := (ok_mir F30 GA0 k27 b27 g27)
  have Gfi : FnOk l.prog w K mg base CX0 7 f51 _ ["self", "place"] (spMFirst C_Classes) := (ok_mfirst F51 TX (ok_chkp F23) k23 b23 g23 (ok_first F22 (ok_begun F20 z_len) k20 b20 g20 (ok_ledp F21) k21 b21 g21) k22 b22 g22)
  have GF0 : FnOk l.prog w K mg base CX0 9 f31 _ ["length", "sayings"] (spEach K PT) := (ok_each F31 ⟨cl_Classes, ⟨mk_Classes, a48, i48, kc_Classes⟩, GI, b48, gC_Classes, ⟨a51, i51, k51⟩, Gfi, b51, z_range⟩)
  have GW0 : FnOk l.prog w K mg base CX0 10 f32 _ ["length", "sayings", "told"] (spWrong K PT) := (ok_wrong F32 ⟨GF0, b31, k31, g31, z_enumerate⟩)
  have GBs : FnOk l.prog w K mg base CX0 7 f33 _ ["saying", "place"] spBes := (ok_bes F33 ⟨ok_met F24, b24, k24, g24⟩)
  have GCf : FnOk l.prog w K mg base CX0 8 f34 _ ["sayings", "one"] (spCf K) := (ok_cf F34 ⟨GBs, b33, k33, g33, z_enumerate⟩)
  have GCp : FnOk l.prog w K mg base (L2N.CX l.prog w) 7 f23 _ ["length", "place"] (spChkpX C_NoPlace) := (ok_chkpX F23 XT_NoPlace)
  have GH0 : FnOk l.prog w K mg base (L2N.CX l.prog w) 9 f35 _ ["length", "sayings", "one", "other"] (spPthX K C_NoPlace) := (ok_pth F35 ⟨(ok_chkl F1 m_TOO_LONG), b1, k1, g1, (ok_chkss F3 (ok_chks F2) k2 b2 g2), b3, k3, g3, GCp, b23, k23, g23, GCf, b34, k34, g34⟩)
  have GL0 : FnOk l.prog w K mg base (L2N.CX l.prog w) 8 f36 _ ["length", "sayings", "one", "steps"] (spLdsX K C_NoPlace) := (ok_lx F36 ⟨(ok_chkl F1 m_TOO_LONG), b1, k1, g1, (ok_chkss F3 (ok_chks F2) k2 b2 g2), b3, k3, g3, GCp, b23, k23, g23, GBs, b33, k33, g33, z_len⟩)
  have GLx : FnOk l.prog w K mg base (L2N.CX l.prog w) 7 f1 _ ["length"] (spChklX C_BadLength) := (ok_chklX F1 XT_BadLength m_TOO_LONG)
  have GCx : FnOk l.prog w K mg base (L2N.CX l.prog w) 6 f2 _ ["length", "at", "many"] (spChksX C_BadStretch) := (ok_chksX F2 XT_BadStretch)
  have GSx : FnOk l.prog w K mg base (L2N.CX l.prog w) 7 f3 _ ["length", "sayings"] (spChkssX K C_BadStretch) := (ok_chkssX F3 GCx b2 k2 g2)
  have TCL : TCl l.prog w K mg base C_BadLength C_BadStretch 7 f1 f3 _ _ := ⟨GLx, b1, k1, g1, GSx, b3, k3, g3⟩
  have GIb : FnOk l.prog w K mg base (L2N.CX l.prog w) 8 f48 _ ["self", "length", "sayings"] (spInitB K C_Classes C_BadLength C_BadStretch) := (ok_initB F48 TCL)
  have TMK : TMk l.prog w K mg base C_Classes C_BadLength C_BadStretch 8 f48 _ := ⟨cl_Classes, ⟨mk_Classes, a48, i48, kc_Classes⟩, GIb, b48, gC_Classes⟩
  have GAb : FnOk l.prog w K mg base (L2N.CX l.prog w) 10 f27 _ ["length", "sayings", "one", "other", "many", "turned"] (spBad K C_BadLength C_BadStretch 4) := (ok_alkB F27 TMK)
  have GPb : FnOk l.prog w K mg base (L2N.CX l.prog w) 10 f28 _ ["length", "sayings", "one", "other", "many", "turned"] (spBad K C_BadLength C_BadStretch 4) := (ok_ptB FT2 TMK)
  have GBb : FnOk l.prog w K mg base (L2N.CX l.prog w) 10 f29 _ ["length", "sayings", "at", "many", "step"] (spBad K C_BadLength C_BadStretch 3) := (ok_btB F29 TMK)
  have GFb : FnOk l.prog w K mg base (L2N.CX l.prog w) 10 f31 _ ["length", "sayings"] (spBad K C_BadLength C_BadStretch 0) := (ok_eachB F31 TMK)
  have GMb : FnOk l.prog w K mg base (L2N.CX l.prog w) 11 f30 _ ["length", "sayings", "at", "many"] (spBad K C_BadLength C_BadStretch 2) := (ok_mirB F30 GAb b27 k27 g27 z_enumerate)
  have GWb : FnOk l.prog w K mg base (L2N.CX l.prog w) 11 f32 _ ["length", "sayings", "told"] (spBad K C_BadLength C_BadStretch 1) := (ok_wrongB F32 GFb b31 k31 g31 z_enumerate)
  have GHb : FnOk l.prog w K mg base (L2N.CX l.prog w) 8 f35 _ ["length", "sayings", "one", "other"] (spBad K C_BadLength C_BadStretch 2) := (ok_pthB F35 TCL)
  have GLb : FnOk l.prog w K mg base (L2N.CX l.prog w) 8 f36 _ ["length", "sayings", "one", "steps"] (spBad K C_BadLength C_BadStretch 2) := (ok_lxB F36 TCL)
  have GAo : FnOk l.prog w K mg base (L2N.CX l.prog w) 12 f27 _ ["length", "sayings", "one", "other", "many", "turned"] (orS (spAlk K PT) (spBad K C_BadLength C_BadStretch 4)) := (fn_or ((fn_hot GA0).mono (by decide)) (GAb.mono (by decide)))
  have GPo : FnOk l.prog w K mg base (L2N.CX l.prog w) 12 f28 _ ["length", "sayings", "one", "other", "many", "turned"] (orS (spPt K PT) (spBad K C_BadLength C_BadStretch 4)) := (fn_or ((fn_hot GPt).mono (by decide)) (GPb.mono (by decide)))
  have GBo : FnOk l.prog w K mg base (L2N.CX l.prog w) 12 f29 _ ["length", "sayings", "at", "many", "step"] (orS (spBt K PT) (spBad K C_BadLength C_BadStretch 3)) := (fn_or ((fn_hot GB0).mono (by decide)) (GBb.mono (by decide)))
  have GMo : FnOk l.prog w K mg base (L2N.CX l.prog w) 12 f30 _ ["length", "sayings", "at", "many"] (orS (spMir K PT) (spBad K C_BadLength C_BadStretch 2)) := (fn_or ((fn_hot GM0).mono (by decide)) (GMb.mono (by decide)))
  have GFo : FnOk l.prog w K mg base (L2N.CX l.prog w) 12 f31 _ ["length", "sayings"] (orS (spEach K PT) (spBad K C_BadLength C_BadStretch 0)) := (fn_or ((fn_hot GF0).mono (by decide)) (GFb.mono (by decide)))
  have GWo : FnOk l.prog w K mg base (L2N.CX l.prog w) 12 f32 _ ["length", "sayings", "told"] (orS (spWrong K PT) (spBad K C_BadLength C_BadStretch 1)) := (fn_or ((fn_hot GW0).mono (by decide)) (GWb.mono (by decide)))
  have GHo : FnOk l.prog w K mg base (L2N.CX l.prog w) 12 f35 _ ["length", "sayings", "one", "other"] (orS (spPthX K C_NoPlace) (spBad K C_BadLength C_BadStretch 2)) := (fn_or (GH0.mono (by decide)) (GHb.mono (by decide)))
  have GLo : FnOk l.prog w K mg base (L2N.CX l.prog w) 12 f36 _ ["length", "sayings", "one", "steps"] (orS (spLdsX K C_NoPlace) (spBad K C_BadLength C_BadStretch 2)) := (fn_or (GL0.mono (by decide)) (GLb.mono (by decide)))
  have GIo : FnOk l.prog w K mg base (L2N.CX l.prog w) 11 f48 _ ["self", "length", "sayings"] (orS (spInit K PT C_Classes) (spInitB K C_Classes C_BadLength C_BadStretch)) := (fn_or ((fn_hot GI).mono (by decide)) (GIb.mono (by decide)))
  have GK : FnP l.prog w K mg base CX0 7 f40 _ ["_law_e"] (spKin K [C_BadLength, C_BadStretch, C_NoPlace, C_NoNumber, C_BadLetter, C_Full, C_InUse, C_NothingLeft, C_BadPage]) := ok_kin F40 KM_ z_isinstance z_ValueError z_zip
  have GD6 : FnOk l.prog w K mg base CX0 6 f39 _ ["_law_script", "_law_k", "_law_sizes"] (spDig K) := (ok_dig F39 (ok_raw F38 F37 b37 g37 z_len z_range) k38 b38 g38)
  have GTr : FnOk l.prog w K mg base CX0 13 f46 _ ["_law_door", "_law_length", "_law_sayings_here"] (spTr PT C_BadLength C_BadStretch) := (ok_tr F46 ⟨GAo, b27, k27, g27, GPo, b28, k28, g28, GBo, b29, k29, g29, GMo, b30, k30, g30, GFo, b31, k31, g31, GHo, b35, k35, g35, GLo, b36, k36, g36, GWo, b32, k32, g32, GK, b40, k40, g40, cl_Classes, ⟨mk_Classes, a48, i48, kc_Classes⟩, GIo, b48, gC_Classes, z_min, z_max, z_range, z_list, gC_RepriseError, XM_NoPlace, KD_NoPlace, XM_BadStretch, KD_BadStretch, XM_BadLength, KD_BadLength⟩)
  have GSp : FnOk l.prog w K mg base CX0 7 f44 _ ["_law_script", "_law_k", "_law_length", "_law_saying_here"] (spSpo K) := (ok_spo F44 ⟨GD6, b39, k39, g39, z_list, z_tuple⟩)
  have GFt : FnOk l.prog w K mg base CX0 7 f45 _ ["_law_length", "_law_saying_here"] spFt := (ok_ft F45 ⟨trivial, z_min, z_max⟩)
  have GSa : FnOk l.prog w K mg base CX0 7 f42 _ ["_law_script", "_law_k", "_law_length", "_law_many"] (spSaysE K) := (ok_saysE F42 (ok_say F41 (ok_dig F39 (ok_raw F38 F37 b37 g37 z_len z_range) k38 b38 g38) k39 b39 g39 z_min z_max) k41 b41 g41 z_range)
  exact ok_law04 F47 ⟨GD, b39, k39, g39, GSa, b42, k42, g42, GSp, b44, k44, g44, GFt, b45, k45, g45, GTr, b46, k46, g46, (ok_same F43 b43 g43 T 7), b43, k43, g43, cl_Classes, ⟨mk_Classes, a48, i48, kc_Classes⟩, GI, b48, gC_Classes, ⟨a49, i49, k49⟩, G1, b49, ⟨a50, i50, k50⟩, G2, b50, z_range, z_list, z_all⟩
end Rep
open PySem PySem.W PyProof.Rows
set_option maxRecDepth 100000 in
set_option maxHeartbeats 0 in
theorem PySem.Challenge.cw_reprise_k04_songs_refused_holds : PySem.Challenge.rw_reprise_k04_songs_refused.Holds := by
  w_on; o_law; k_head; (case hw => w_witness2)
  k_fill
  refine Rep.walk_top (l := PySem.Challenge.rw_reprise_k04_songs_refused) (n := 63) (k := 14) (x := "_law_script") (CX := fun _ => L2.CX0) rfl (by decide) rfl ⟨rfl, by decide, by decide⟩ (fun w h Y => PySem.W.km_in_of Y) ?F (fun _ _ _ _ _ h => h)
  case F =>
    intro w mg mb mean fa h KX TT hmg
    refine' Rep.all_mk (PT := 254) KX TT hmg ?aC_Classes ?aC_BadLength ?aC_BadStretch ?aC_NoPlace ?aC_NoNumber ?aC_BadLetter ?aC_Full ?aC_InUse ?aC_NothingLeft ?aC_BadPage ?aC_RepriseError ?a1 ?l1 ?c1 ?k1 ?a2 ?l2 ?c2 ?k2 ?a3 ?l3 ?c3 ?k3 ?a4 ?l4 ?c4 ?k4 ?a5 ?l5 ?c5 ?k5 ?a6 ?l6 ?c6 ?k6 ?a7 ?l7 ?c7 ?k7 ?a8 ?l8 ?c8 ?k8 ?a9 ?l9 ?c9 ?k9 ?a10 ?l10 ?c10 ?k10 ?a11 ?l11 ?c11 ?k11 ?a12 ?l12 ?c12 ?k12 ?a13 ?l13 ?c13 ?k13 ?a14 ?l14 ?c14 ?k14 ?a15 ?l15 ?c15 ?k15 ?a16 ?l16 ?c16 ?k16 ?a17 ?l17 ?c17 ?k17 ?a18 ?l18 ?c18 ?k18 ?a19 ?l19 ?c19 ?k19 ?a20 ?l20 ?c20 ?k20 ?a21 ?l21 ?c21 ?k21 ?a22 ?l22 ?c22 ?k22 ?a23 ?l23 ?c23 ?k23 ?a24 ?l24 ?c24 ?k24 ?a25 ?l25 ?c25 ?k25 ?a26 ?l26 ?c26 ?k26 ?a27 ?l27 ?c27 ?k27 ?a28 ?l28 ?c28 ?k28 ?a29 ?l29 ?c29 ?k29 ?a30 ?l30 ?c30 ?k30 ?a31 ?l31 ?c31 ?k31 ?a32 ?l32 ?c32 ?k32 ?a33 ?l33 ?c33 ?k33 ?a34 ?l34 ?c34 ?k34 ?a35 ?l35 ?c35 ?k35 ?a36 ?l36 ?c36 ?k36 ?a37 ?l37 ?c37 ?k37 ?a38 ?l38 ?c38 ?k38 ?a39 ?l39 ?c39 ?k39 ?a40 ?l40 ?c40 ?k40 ?a41 ?l41 ?c41 ?k41 ?a42 ?l42 ?c42 ?k42 ?a43 ?l43 ?c43 ?k43 ?a44 ?l44 ?c44 ?k44 ?a45 ?l45 ?c45 ?k45 ?a46 ?l46 ?c46 ?k46 ?a47 ?l47 ?c47 ?k47 ?a48 ?i48 ?l48 ?c48 ?k48 ?a49 ?i49 ?l49 ?c49 ?k49 ?a50 ?i50 ?l50 ?c50 ?k50 ?a51 ?i51 ?l51 ?c51 ?k51 ?a52 ?i52 ?l52 ?c52 ?k52 ?pg_Classes ?hd_Classes ?po_Classes ?sa_Classes ?mk_Classes ?kc_Classes ?n_Classes_size ?n_Classes_cuts ?n_Classes_rows ?aI_TOO_LONG ?y_sorted ?y_len ?y_range ?y_list ?y_isinstance ?y_bool ?y_int ?y_tuple ?y_str ?y_all ?y_zip ?y_min ?y_max ?y_enumerate ?y_sum ?y_abs ?y_ValueError ?r_TOO_LONG ?tb ?nt ?rec ?tb2 ?hne ?rec2 ?re_b ?re_d ?re_t ?x_BadLength ?k_BadLength ?b_BadLength ?t_BadLength ?s_BadLength ?e1_BadLength ?e2_BadLength ?e4_BadLength ?e5_BadLength ?e8_BadLength ?q0_BadLength ?q1_BadLength ?q2_BadLength ?q3_BadLength ?q4_BadLength ?q5_BadLength ?q6_BadLength ?q7_BadLength ?q8_BadLength ?qV_BadLength ?x_BadStretch ?k_BadStretch ?b_BadStretch ?t_BadStretch ?s_BadStretch ?e1_BadStretch ?e2_BadStretch ?e4_BadStretch ?e5_BadStretch ?e8_BadStretch ?q0_BadStretch ?q1_BadStretch ?q2_BadStretch ?q3_BadStretch ?q4_BadStretch ?q5_BadStretch ?q6_BadStretch ?q7_BadStretch ?q8_BadStretch ?qV_BadStretch ?x_NoPlace ?k_NoPlace ?b_NoPlace ?t_NoPlace ?s_NoPlace ?e1_NoPlace ?e2_NoPlace ?e4_NoPlace ?e5_NoPlace ?e8_NoPlace ?q0_NoPlace ?q1_NoPlace ?q2_NoPlace ?q3_NoPlace ?q4_NoPlace ?q5_NoPlace ?q6_NoPlace ?q7_NoPlace ?q8_NoPlace ?qV_NoPlace ?e6_all ?e7_all
    (case aC_Classes => k_is)
    (case aC_BadLength => k_is)
    (case aC_BadStretch => k_is)
    (case aC_NoPlace => k_is)
    (case aC_NoNumber => k_is)
    (case aC_BadLetter => k_is)
    (case aC_Full => k_is)
    (case aC_InUse => k_is)
    (case aC_NothingLeft => k_is)
    (case aC_BadPage => k_is)
    (case aC_RepriseError => k_is)
    (case a1 => k_is)
    (case l1 => k_is)
    (case c1 => k_is)
    (case k1 => k_is)
    (case a2 => k_is)
    (case l2 => k_is)
    (case c2 => k_is)
    (case k2 => k_is)
    (case a3 => k_is)
    (case l3 => k_is)
    (case c3 => k_is)
    (case k3 => k_is)
    (case a4 => k_is)
    (case l4 => k_is)
    (case c4 => k_is)
    (case k4 => k_is)
    (case a5 => k_is)
    (case l5 => k_is)
    (case c5 => k_is)
    (case k5 => k_is)
    (case a6 => k_is)
    (case l6 => k_is)
    (case c6 => k_is)
    (case k6 => k_is)
    (case a7 => k_is)
    (case l7 => k_is)
    (case c7 => k_is)
    (case k7 => k_is)
    (case a8 => k_is)
    (case l8 => k_is)
    (case c8 => k_is)
    (case k8 => k_is)
    (case a9 => k_is)
    (case l9 => k_is)
    (case c9 => k_is)
    (case k9 => k_is)
    (case a10 => k_is)
    (case l10 => k_is)
    (case c10 => k_is)
    (case k10 => k_is)
    (case a11 => k_is)
    (case l11 => k_is)
    (case c11 => k_is)
    (case k11 => k_is)
    (case a12 => k_is)
    (case l12 => k_is)
    (case c12 => k_is)
    (case k12 => k_is)
    (case a13 => k_is)
    (case l13 => k_is)
    (case c13 => k_is)
    (case k13 => k_is)
    (case a14 => k_is)
    (case l14 => k_is)
    (case c14 => k_is)
    (case k14 => k_is)
    (case a15 => k_is)
    (case l15 => k_is)
    (case c15 => k_is)
    (case k15 => k_is)
    (case a16 => k_is)
    (case l16 => k_is)
    (case c16 => k_is)
    (case k16 => k_is)
    (case a17 => k_is)
    (case l17 => k_is)
    (case c17 => k_is)
    (case k17 => k_is)
    (case a18 => k_is)
    (case l18 => k_is)
    (case c18 => k_is)
    (case k18 => k_is)
    (case a19 => k_is)
    (case l19 => k_is)
    (case c19 => k_is)
    (case k19 => k_is)
    (case a20 => k_is)
    (case l20 => k_is)
    (case c20 => k_is)
    (case k20 => k_is)
    (case a21 => k_is)
    (case l21 => k_is)
    (case c21 => k_is)
    (case k21 => k_is)
    (case a22 => k_is)
    (case l22 => k_is)
    (case c22 => k_is)
    (case k22 => k_is)
    (case a23 => k_is)
    (case l23 => k_is)
    (case c23 => k_is)
    (case k23 => k_is)
    (case a24 => k_is)
    (case l24 => k_is)
    (case c24 => k_is)
    (case k24 => k_is)
    (case a25 => k_is)
    (case l25 => k_is)
    (case c25 => k_is)
    (case k25 => k_is)
    (case a26 => k_is)
    (case l26 => k_is)
    (case c26 => k_is)
    (case k26 => k_is)
    (case a27 => k_is)
    (case l27 => k_is)
    (case c27 => k_is)
    (case k27 => k_is)
    (case a28 => k_is)
    (case l28 => k_is)
    (case c28 => k_is)
    (case k28 => k_is)
    (case a29 => k_is)
    (case l29 => k_is)
    (case c29 => k_is)
    (case k29 => k_is)
    (case a30 => k_is)
    (case l30 => k_is)
    (case c30 => k_is)
    (case k30 => k_is)
    (case a31 => k_is)
    (case l31 => k_is)
    (case c31 => k_is)
    (case k31 => k_is)
    (case a32 => k_is)
    (case l32 => k_is)
    (case c32 => k_is)
    (case k32 => k_is)
    (case a33 => k_is)
    (case l33 => k_is)
    (case c33 => k_is)
    (case k33 => k_is)
    (case a34 => k_is)
    (case l34 => k_is)
    (case c34 => k_is)
    (case k34 => k_is)
    (case a35 => k_is)
    (case l35 => k_is)
    (case c35 => k_is)
    (case k35 => k_is)
    (case a36 => k_is)
    (case l36 => k_is)
    (case c36 => k_is)
    (case k36 => k_is)
    (case a37 => k_is)
    (case l37 => k_is)
    (case c37 => k_is)
    (case k37 => k_is)
    (case a38 => k_is)
    (case l38 => k_is)
    (case c38 => k_is)
    (case k38 => k_is)
    (case a39 => k_is)
    (case l39 => k_is)
    (case c39 => k_is)
    (case k39 => k_is)
    (case a40 => k_is)
    (case l40 => k_is)
    (case c40 => k_is)
    (case k40 => k_is)
    (case a41 => k_is)
    (case l41 => k_is)
    (case c41 => k_is)
    (case k41 => k_is)
    (case a42 => k_is)
    (case l42 => k_is)
    (case c42 => k_is)
    (case k42 => k_is)
    (case a43 => k_is)
    (case l43 => k_is)
    (case c43 => k_is)
    (case k43 => k_is)
    (case a44 => k_is)
    (case l44 => k_is)
    (case c44 => k_is)
    (case k44 => k_is)
    (case a45 => k_is)
    (case l45 => k_is)
    (case c45 => k_is)
    (case k45 => k_is)
    (case a46 => k_is)
    (case l46 => k_is)
    (case c46 => k_is)
    (case k46 => k_is)
    (case a47 => k_is)
    (case l47 => k_is)
    (case c47 => k_is)
    (case k47 => k_is)
    (case a48 => k_is)
    (case i48 => k_is)
    (case l48 => k_is)
    (case c48 => k_is)
    (case k48 => k_is)
    (case a49 => k_is)
    (case i49 => k_is)
    (case l49 => k_is)
    (case c49 => k_is)
    (case k49 => k_is)
    (case a50 => k_is)
    (case i50 => k_is)
    (case l50 => k_is)
    (case c50 => k_is)
    (case k50 => k_is)
    (case a51 => k_is)
    (case i51 => k_is)
    (case l51 => k_is)
    (case c51 => k_is)
    (case k51 => k_is)
    (case a52 => k_is)
    (case i52 => k_is)
    (case l52 => k_is)
    (case c52 => k_is)
    (case k52 => k_is)
    (case pg_Classes => k_is)
    (case hd_Classes => k_is)
    (case po_Classes => k_is)
    (case sa_Classes => k_is)
    (case mk_Classes => k_is)
    (case kc_Classes => k_is)
    (case n_Classes_size => k_is)
    (case n_Classes_cuts => k_is)
    (case n_Classes_rows => k_is)
    (case aI_TOO_LONG => k_is)
    (case y_sorted => k_is)
    (case y_len => k_is)
    (case y_range => k_is)
    (case y_list => k_is)
    (case y_isinstance => k_is)
    (case y_bool => k_is)
    (case y_int => k_is)
    (case y_tuple => k_is)
    (case y_str => k_is)
    (case y_all => k_is)
    (case y_zip => k_is)
    (case y_min => k_is)
    (case y_max => k_is)
    (case y_enumerate => k_is)
    (case y_sum => k_is)
    (case y_abs => k_is)
    (case y_ValueError => k_is)
    (case r_TOO_LONG => exact ⟨_, rfl⟩)
    (case tb => kernel_rfl)
    (case nt => kernel_rfl)
    (case rec => rfl)
    (case tb2 => kernel_rfl)
    (case hne => decide)
    (case rec2 => rfl)
    (case re_b => k_is)
    (case re_d => k_is)
    (case re_t => k_is)
    (case x_BadLength => k_exc)
    (case k_BadLength => k_is)
    (case b_BadLength => k_is)
    (case t_BadLength => k_is)
    (case s_BadLength => k_is)
    (case e1_BadLength => k_is)
    (case e2_BadLength => k_is)
    (case e4_BadLength => k_is)
    (case e5_BadLength => k_is)
    (case e8_BadLength => k_is)
    (case q0_BadLength => kernel_rfl)
    (case q1_BadLength => kernel_rfl)
    (case q2_BadLength => kernel_rfl)
    (case q3_BadLength => kernel_rfl)
    (case q4_BadLength => kernel_rfl)
    (case q5_BadLength => kernel_rfl)
    (case q6_BadLength => kernel_rfl)
    (case q7_BadLength => kernel_rfl)
    (case q8_BadLength => kernel_rfl)
    (case qV_BadLength => kernel_rfl)
    (case x_BadStretch => k_exc)
    (case k_BadStretch => k_is)
    (case b_BadStretch => k_is)
    (case t_BadStretch => k_is)
    (case s_BadStretch => k_is)
    (case e1_BadStretch => k_is)
    (case e2_BadStretch => k_is)
    (case e4_BadStretch => k_is)
    (case e5_BadStretch => k_is)
    (case e8_BadStretch => k_is)
    (case q0_BadStretch => kernel_rfl)
    (case q1_BadStretch => kernel_rfl)
    (case q2_BadStretch => kernel_rfl)
    (case q3_BadStretch => kernel_rfl)
    (case q4_BadStretch => kernel_rfl)
    (case q5_BadStretch => kernel_rfl)
    (case q6_BadStretch => kernel_rfl)
    (case q7_BadStretch => kernel_rfl)
    (case q8_BadStretch => kernel_rfl)
    (case qV_BadStretch => kernel_rfl)
    (case x_NoPlace => k_exc)
    (case k_NoPlace => k_is)
    (case b_NoPlace => k_is)
    (case t_NoPlace => k_is)
    (case s_NoPlace => k_is)
    (case e1_NoPlace => k_is)
    (case e2_NoPlace => k_is)
    (case e4_NoPlace => k_is)
    (case e5_NoPlace => k_is)
    (case e8_NoPlace => k_is)
    (case q0_NoPlace => kernel_rfl)
    (case q1_NoPlace => kernel_rfl)
    (case q2_NoPlace => kernel_rfl)
    (case q3_NoPlace => kernel_rfl)
    (case q4_NoPlace => kernel_rfl)
    (case q5_NoPlace => kernel_rfl)
    (case q6_NoPlace => kernel_rfl)
    (case q7_NoPlace => kernel_rfl)
    (case q8_NoPlace => kernel_rfl)
    (case qV_NoPlace => kernel_rfl)
    (case e6_all => k_is)
    (case e7_all => k_is)
