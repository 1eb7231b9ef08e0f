import PyProof.Rows.All
import Wide.All
import OpenK.AllK
import Wide.FinOn
import HandS.ForMost
import HandS.Wide
import HandS.SortRule
import HandS.SortInts
import HandS.IsInst
import HandS.Zip
import HandS.TryOnly
import HandS.More
import HandS.Walk
import HandS.Codes
import HandS.Conv
import HandS.Style
import HandS.Flow
import HandS.SortKw
import HandS.Lambda
import HandS.EndTab
import KE.DataMinKey
import KE.DataFind
import KE.SortData
import HandS.HotCalls
import HandS.ExcIs
import HandS.CallSlots
import HandS.WordsExc
import HandS.MethStar
import HandS.FStr
import HandS.StrMore
import HandS.Text
import HandS.FltList
import HandS.RaiseFrom
import HandS.ExcInitHot
import HandS.SuiteRaise
import HandS.Star
import KE.KTryMore
import KE.KExcSuper
import HandS.NestedHot
import HandS.ExcInit
import HandS.ClsMeth
import HandS.ExcField
import HandS.ListEq
import KE.GoesZip
import KE.GoesMore
import HandS.Deep
import KE.OsRunLaw
import PySem.Challenge.RW_reprise_k41_pages_refused
set_option Elab.async false
set_option linter.all false
set_option maxRecDepth 100000
set_option maxHeartbeats 4000000
namespace Rep
open PySem PySem.W PyProof.Rows
section
local macro_rules | `(tactic| kernel_rfl) => `(tactic| exact False.elim (by assumption))
set_option maxRecDepth 100000 in
set_option maxHeartbeats 0 in
/-- what the top leaves, by names alone: nothing is shown here -/
theorem mkK (p : False) : OpenRow.Holds (OpenLaw.row PySem.Challenge.rw_reprise_k41_pages_refused) := by
  k_headL
  (case hw => w_witness2)
  exact p.elim
end
end Rep
namespace Rep
open PySem PySem.W PyProof.Rows
theorem run_all {α γ : Type} {β1 β2 β3 β4 β5 β6 β7 β8 β9 : Type} {x : Option α} {l : α → Bool} {f : α → β1 × β2 × β3 × β4 × β5 × β6 × β7 × β8 × β9} {g : α → γ} {d : γ} {c1 : β1} {c2 : β2} {c3 : β3} {c4 : β4} {c5 : β5} {c6 : β6} {c7 : β7} {c8 : β8} {c9 : β9}
    (h1 : x.map (fun s => (l s, (f s).2.1)) = some (true, c2)) (h2 : x.map (fun s => (f s).1) = some c1) (h3 : x.map (fun s => (f s).2.2.1) = some c3) (h4 : x.map (fun s => (f s).2.2.2.1) = some c4) (h5 : x.map (fun s => ((f s).2.2.2.2.1, (f s).2.2.2.2.2.2.1, (f s).2.2.2.2.2.2.2.2)) = some (c5, c7, c9)) (h6 : x.map (fun s => (f s).2.2.2.2.2.1) = some c6) (h8 : x.map (fun s => (f s).2.2.2.2.2.2.2.1) = some c8) (h9 : x.map g = some d) :
    x.map (fun s => (l s, f s, g s)) = some (true, (c1, c2, c3, c4, c5, c6, c7, c8, c9), d) := by
  cases x with
  | none => cases h2
  | some s =>
    obtain ⟨a1, a2⟩ := Prod.mk.inj (Option.some.inj h1)
    have b1 := Option.some.inj h2
    have b3 := Option.some.inj h3
    have b4 := Option.some.inj h4
    obtain ⟨b5, b7⟩ := Prod.mk.inj (Option.some.inj h5)
    obtain ⟨b7, b9⟩ := Prod.mk.inj b7
    have b6 := Option.some.inj h6
    have b8 := Option.some.inj h8
    have b10 := Option.some.inj h9
    show some (l s, f s, g s) = _
    rw [a1, ← b1, ← a2, ← b3, ← b4, ← b5, ← b6, ← b7, ← b8, ← b9, b10]
theorem map_fold {α β : Type} (f : α → β) (l : List α) : l.map f = l.foldr (fun c r => f c :: r) [] := by
  induction l with
  | nil => rfl
  | cons a l ih => rw [List.map_cons, List.foldr_cons, ih]
/-- what the plain classes ought to show, by the library's twins -/
noncomputable abbrev goodE (v : Program) (l : List Str) := (PySem.W.Fast.tw210736558901404530 v (PySem.W.Fast.tw821141287760084731 v l)).foldr (fun c r => some (PySem.W.Fast.tw12515865711710729776 c).plainShape :: r) []
theorem goodE_eq (v : Program) (l : List Str) : plainGoodE v (looseW v l) = goodE v l := by
  unfold plainGoodE goodE
  rw [← PySem.W.Fast.te210736558901404530, ← PySem.W.Fast.te821141287760084731, ← PySem.W.Fast.te12515865711710729776]
  exact map_fold _ _
abbrev rowK : OpenRow := OpenLaw.row PySem.Challenge.rw_reprise_k41_pages_refused
abbrev looseK : List Str := [Str.ofString "TOO_LONG"]
abbrev lvK : List (Str × WData) := [(Str.ofString "TOO_LONG", WData.int 10000000000000000000000000000000000000000)]
def asK : List Addr := [2, 3, 15, 17, 18, 20, 21, 22, 29, 30, 31, 32, 35, 42, 43, 44, 47, 54, 55, 56, 59, 66, 67, 68, 71, 78, 79, 80, 83, 90, 91, 92, 95, 102, 103, 104, 107, 114, 115, 116, 119, 126, 127, 128, 131, 134, 139, 140, 142, 143, 145, 146, 147, 148, 149, 152, 154, 155, 157, 158, 159, 161, 162, 164, 165, 166, 168, 169, 171, 172, 173, 175, 176, 178, 179, 180, 182, 183, 185, 186, 187, 189, 190, 192, 193, 194, 196, 197, 199, 200, 201, 204, 205, 206, 208, 209, 211, 212, 213, 215, 216, 218, 219, 227, 229, 230, 232, 233, 234, 236, 237, 239, 240, 241, 243, 244, 246, 247, 248, 250, 251, 253, 254, 255, 257, 258, 260, 261, 262, 264, 265, 267, 268, 269, 271, 272, 274, 275, 276, 278, 279, 281, 282, 283, 285, 286, 288, 289, 290, 292, 293, 295, 296, 297, 300, 301, 302, 305, 306, 307, 308, 309, 310, 311, 321, 323, 324, 326, 327, 328, 330, 331, 333, 334, 335, 337, 338, 340, 341, 342, 344, 345, 347, 348, 349, 351, 352, 354, 355, 356, 358, 359, 361, 362, 363, 365, 366, 368, 369, 370, 372, 373, 375, 376, 377, 379, 380, 382, 383, 384, 386, 387, 389, 390, 391, 393, 394, 396, 397, 398, 400, 401, 403, 404, 405, 407, 408, 410, 411, 412, 414, 415, 417, 418, 419, 421, 422, 424, 425, 426, 428, 429, 431, 432, 433, 435, 436, 438, 439, 440, 442, 443, 445, 446, 447, 449, 450, 452, 453, 454, 456, 457, 459, 460, 461, 463, 464, 466, 467, 468, 470, 471, 473, 474, 475, 477, 478, 480, 481, 482, 483, 484, 485, 486, 489, 491, 492, 494, 495, 496, 503, 504, 505, 506, 509, 511, 512, 514, 515, 516, 518, 519, 521, 522, 523, 525, 526, 528, 529, 530, 532, 533, 535, 536, 537, 539, 540, 542, 543, 544, 547, 548, 549, 552, 553, 554, 556, 557, 559, 560, 561, 564, 565, 566, 568, 569, 571, 572, 573, 575, 576, 578, 579, 580, 582, 583, 585, 586, 587, 589, 590, 592, 593, 594, 596, 597, 599, 600, 601, 604, 605, 606, 608, 609, 611, 612, 613, 616, 617, 618, 621, 622, 623, 625, 626, 628, 629, 630, 632, 633, 635, 636, 637, 639, 640, 642, 643, 644, 646, 647, 649, 650, 651, 653, 654, 656, 657, 658, 661, 662, 663, 665, 666, 668, 669, 670, 672, 673, 675, 676, 677, 679, 680, 682, 683, 684, 686, 687, 689, 690, 691, 693, 694, 696, 697, 698, 701, 702, 703, 705, 706, 708, 709, 710, 712, 713, 715, 716, 717, 720, 721]
theorem asK_eq (P : Params) : asK = (mkK.heap_1 P).map (·.1) := by kernel_rfl
theorem openK : opening rowK.prog = plainProg rowK.prog.main.scope.names := by kernel_rfl
theorem fenceK (s : Shared) : fenceModules? rowK.prog s = some s := by kernel_rfl
/-- the looks behind the top, by the library's twin -/
noncomputable abbrev seenK (s : SharedT) := HeadRun.seenQ mkK.view_1 looseK (importedModules rowK.prog.main.body) (fun s => xlAt mkK.view_1 lvK s && recOk (RowW.records rowK.toRowW) s) s.abs
set_option maxHeartbeats 0 in
theorem runB (w : World) (os : OsState) : (HeadRun.endF (HeadRun.stepQ (HeadRun.denQ HeadRun.tabQ) rowK.prog w) 20000 rowK.prog w os).map (fun s => ((seenK s).2.2.2.2.1, (seenK s).2.2.2.2.2.2.1, (seenK s).2.2.2.2.2.2.2.2)) = some (pinGoodD (drecsOf mkK.view_1), plainGoodD mkK.view_1 looseK, clsGoodW mkK.view_1 looseK) := by kernel_rfl
set_option maxHeartbeats 0 in
theorem runC (w : World) (os : OsState) : (HeadRun.endF (HeadRun.stepQ (HeadRun.denQ HeadRun.tabQ) rowK.prog w) 20000 rowK.prog w os).map (fun s => (seenK s).2.2.2.2.2.1) = some (goodE mkK.view_1 looseK) := by kernel_rfl
set_option maxHeartbeats 0 in
theorem runD (w : World) (os : OsState) : (HeadRun.endF (HeadRun.stepQ (HeadRun.denQ HeadRun.tabQ) rowK.prog w) 20000 rowK.prog w os).map (fun s => (seenK s).2.2.2.2.2.2.2.1) = some (wideGood mkK.view_1) := by kernel_rfl
set_option maxHeartbeats 0 in
theorem runE (w : World) (os : OsState) : (HeadRun.endF (HeadRun.stepQ (HeadRun.denQ HeadRun.tabQ) rowK.prog w) 20000 rowK.prog w os).map (fun s => (seenK s).1) = some (expectedOf mkK.view_1) := by kernel_rfl
set_option maxHeartbeats 0 in
theorem runF (w : World) (os : OsState) : (HeadRun.endF (HeadRun.stepQ (HeadRun.denQ HeadRun.tabQ) rowK.prog w) 20000 rowK.prog w os).map (fun s => (seenK s).2.2.1) = some true := by kernel_rfl
set_option maxHeartbeats 0 in
theorem runG (w : World) (os : OsState) : (HeadRun.endF (HeadRun.stepQ (HeadRun.denQ HeadRun.tabQ) rowK.prog w) 20000 rowK.prog w os).map (fun s => (seenK s).2.2.2.1) = some true := by kernel_rfl
set_option maxHeartbeats 0 in
theorem runA (w : World) (os : OsState) : (HeadRun.endF (HeadRun.stepQ (HeadRun.denQ HeadRun.tabQ) rowK.prog w) 20000 rowK.prog w os).map (fun s => (HeadRun.looksF rowK.prog (boot_heap w.params) s.abs, (seenK s).2.1)) = some (true, bltViewBooted) := by kernel_rfl
set_option maxHeartbeats 0 in
theorem runH (w : World) (os : OsState) : (HeadRun.endF (HeadRun.stepQ (HeadRun.denQ HeadRun.tabQ) rowK.prog w) 20000 rowK.prog w os).map (fun s => asK.map (HeadRun.getT s)) = some ((mkK.heap_1 w.params).map fun x => some x.2) := by kernel_rfl
theorem leftK : LeftO rowK.prog mkK.view_1 looseK (fun s => xlAt mkK.view_1 lvK s && recOk (RowW.records rowK.toRowW) s) (Hook.obs (kHook mkK.heap_1 asK asK_eq)) (Hook.val (kHook mkK.heap_1 asK asK_eq)) 20700 true :=
  HeadRun.left_oneK (M := 20000) openK (by rfl) fenceK (by rfl) fun w os =>
    run_all (f := seenK) (runA w os) (runE w os) (runF w os) (runG w os) (runB w os) ((runC w os).trans (congrArg some (goodE_eq _ _).symm)) (runD w os) (runH w os)
end Rep
namespace Rep
abbrev Pr := Int × Int
def cov (ps : List Pr) (x : Int) : Prop := ∃ p ∈ ps, p.1 ≤ x ∧ x < p.2
structure Tdy (ps : List Pr) : Prop where
  ok : ∀ p ∈ ps, p.1 < p.2
  gap : ps.Pairwise (fun p q => p.2 < q.1)
theorem cov_cons {p : Pr} {ps : List Pr} {x : Int} : cov (p :: ps) x ↔ (p.1 ≤ x ∧ x < p.2) ∨ cov ps x := by
  unfold cov
  constructor
  · rintro ⟨q, hq, h⟩
    rcases List.mem_cons.mp hq with e | hq
    · subst e; exact .inl h
    · exact .inr ⟨q, hq, h⟩
  · rintro (h | ⟨q, hq, h⟩)
    · exact ⟨p, List.mem_cons_self, h⟩
    · exact ⟨q, List.mem_cons_of_mem _ hq, h⟩
theorem cov_nil {x : Int} : ¬ cov [] x := by
  rintro ⟨q, hq, _⟩; cases hq
theorem Tdy.tail {p : Pr} {ps : List Pr} (h : Tdy (p :: ps)) : Tdy ps :=
  ⟨fun q hq => h.ok q (List.mem_cons_of_mem _ hq), (List.pairwise_cons.mp h.gap).2⟩
theorem Tdy.behind {p : Pr} {ps : List Pr} (h : Tdy (p :: ps)) {x : Int} (c : cov ps x) : p.2 < x := by
  obtain ⟨q, hq, h1, h2⟩ := c
  have := (List.pairwise_cons.mp h.gap).1 q hq
  omega
theorem Tdy.uniq : ∀ {a b : List Pr}, Tdy a → Tdy b → (∀ x, cov a x ↔ cov b x) → a = b
  | [], [], _, _, _ => rfl
  | [], q :: b, _, hb, h => by
    have h1 := hb.ok q List.mem_cons_self
    exact absurd ((h q.1).mpr (cov_cons.mpr (.inl ⟨Int.le_refl _, h1⟩))) cov_nil
  | p :: a, [], ha, _, h => by
    have h1 := ha.ok p List.mem_cons_self
    exact absurd ((h p.1).mp (cov_cons.mpr (.inl ⟨Int.le_refl _, h1⟩))) cov_nil
  | p :: a, q :: b, ha, hb, h => by
    have hp := ha.ok p List.mem_cons_self
    have hq := hb.ok q List.mem_cons_self
    have e1 : p.1 = q.1 := by
      have x1 := (h p.1).mp (cov_cons.mpr (.inl ⟨Int.le_refl _, hp⟩))
      have x2 := (h q.1).mpr (cov_cons.mpr (.inl ⟨Int.le_refl _, hq⟩))
      rcases cov_cons.mp x1 with x1 | x1 <;> rcases cov_cons.mp x2 with x2 | x2
      · omega
      · have := ha.behind x2; omega
      · have := hb.behind x1; omega
      · have := ha.behind x2; have := hb.behind x1; omega
    have e2 : p.2 = q.2 := by
      rcases Int.lt_trichotomy p.2 q.2 with l | l | l
      · have x1 := (h p.2).mpr (cov_cons.mpr (.inl ⟨by omega, l⟩))
        rcases cov_cons.mp x1 with x1 | x1
        · omega
        · have := ha.behind x1; omega
      · exact l
      · have x1 := (h q.2).mp (cov_cons.mpr (.inl ⟨by omega, l⟩))
        rcases cov_cons.mp x1 with x1 | x1
        · omega
        · have := hb.behind x1; omega
    have e : p = q := Prod.ext e1 e2
    subst e
    have et : a = b := by
      refine Tdy.uniq ha.tail hb.tail fun x => ⟨fun c => ?_, fun c => ?_⟩
      · have l := ha.behind c
        rcases cov_cons.mp ((h x).mp (cov_cons.mpr (.inr c))) with z | z
        · omega
        · exact z
      · have l := hb.behind c
        rcases cov_cons.mp ((h x).mpr (cov_cons.mpr (.inr c))) with z | z
        · omega
        · exact z
    rw [et]
/-- one turn of tidy, what is made so far held the wrong way round -/
def tStep (acc : List Pr) (p : Pr) : List Pr :=
  if p.2 ≤ p.1 then acc else match acc with
    | [] => [p]
    | q :: r => if q.2 < p.1 then p :: q :: r else if q.2 < p.2 then (q.1, p.2) :: r else q :: r
structure RT (acc : List Pr) : Prop where
  ok : ∀ p ∈ acc, p.1 < p.2
  gap : acc.Pairwise (fun p q => q.2 < p.1)
theorem RT.tdy {acc : List Pr} (h : RT acc) : Tdy acc.reverse :=
  ⟨fun p hp => h.ok p (List.mem_reverse.mp hp), List.pairwise_reverse.mpr h.gap⟩
theorem cov_rev {acc : List Pr} {x : Int} : cov acc.reverse x ↔ cov acc x := by
  unfold cov
  constructor
  · rintro ⟨q, hq, h⟩; exact ⟨q, List.mem_reverse.mp hq, h⟩
  · rintro ⟨q, hq, h⟩; exact ⟨q, List.mem_reverse.mpr hq, h⟩
theorem RT.step {acc : List Pr} {p : Pr} (h : RT acc) (hh : ∀ q ∈ acc, q.1 ≤ p.1) :
    RT (tStep acc p) ∧ (∀ x, cov (tStep acc p) x ↔ cov acc x ∨ (p.1 ≤ x ∧ x < p.2)) ∧ ∀ q ∈ tStep acc p, q.1 ≤ p.1 := by
  unfold tStep
  by_cases e : p.2 ≤ p.1
  · rw [if_pos e]
    refine ⟨h, fun x => ⟨.inl, fun z => ?_⟩, hh⟩
    rcases z with z | z
    · exact z
    · omega
  · rw [if_neg e]
    cases acc with
    | nil =>
      refine ⟨⟨fun q hq => ?_, List.pairwise_singleton _ _⟩, fun x => ?_, fun q hq => ?_⟩
      · rw [List.mem_singleton.mp hq]; omega
      · show cov [p] x ↔ _
        rw [cov_cons]
        exact ⟨fun z => z.elim .inr .inl, fun z => z.elim .inr .inl⟩
      · rw [List.mem_singleton.mp hq]; exact Int.le_refl _
    | cons q r =>
      have hq1 := h.ok q List.mem_cons_self
      have hr : RT r := ⟨fun z hz => h.ok z (List.mem_cons_of_mem _ hz), (List.pairwise_cons.mp h.gap).2⟩
      have hg := (List.pairwise_cons.mp h.gap).1
      have hl := hh q List.mem_cons_self
      show RT (if q.2 < p.1 then p :: q :: r else if q.2 < p.2 then (q.1, p.2) :: r else q :: r) ∧ (∀ x, cov (if q.2 < p.1 then p :: q :: r else if q.2 < p.2 then (q.1, p.2) :: r else q :: r) x ↔ _) ∧ ∀ z ∈ (if q.2 < p.1 then p :: q :: r else if q.2 < p.2 then (q.1, p.2) :: r else q :: r), _
      by_cases c1 : q.2 < p.1
      · rw [if_pos c1]
        refine ⟨⟨fun z hz => ?_, List.pairwise_cons.mpr ⟨fun z hz => ?_, h.gap⟩⟩, fun x => ?_, fun z hz => ?_⟩
        · rcases List.mem_cons.mp hz with rfl | hz
          · omega
          · exact h.ok z hz
        · rcases List.mem_cons.mp hz with rfl | hz
          · exact c1
          · have := hg z hz; omega
        · rw [cov_cons]; exact Or.comm
        · rcases List.mem_cons.mp hz with rfl | hz
          · exact Int.le_refl _
          · exact hh z hz
      · rw [if_neg c1]
        by_cases c2 : q.2 < p.2
        · rw [if_pos c2]
          refine ⟨⟨fun z hz => ?_, List.pairwise_cons.mpr ⟨fun z hz => hg z hz, hr.gap⟩⟩, fun x => ?_, fun z hz => ?_⟩
          · rcases List.mem_cons.mp hz with rfl | hz
            · show q.1 < p.2; omega
            · exact hr.ok z hz
          · rw [cov_cons, cov_cons]
            show (q.1 ≤ x ∧ x < p.2) ∨ cov r x ↔ _
            constructor
            · rintro (z | z)
              · by_cases x < q.2
                · exact .inl (.inl ⟨z.1, by assumption⟩)
                · exact .inr ⟨by omega, z.2⟩
              · exact .inl (.inr z)
            · rintro ((z | z) | z)
              · exact .inl ⟨z.1, by omega⟩
              · exact .inr z
              · exact .inl ⟨by omega, z.2⟩
          · rcases List.mem_cons.mp hz with rfl | hz
            · exact hl
            · exact hh z (List.mem_cons_of_mem _ hz)
        · rw [if_neg c2]
          refine ⟨h, fun x => ⟨.inl, fun z => ?_⟩, hh⟩
          rcases z with z | z
          · exact z
          · exact cov_cons.mpr (.inl ⟨by omega, by omega⟩)
theorem fold_tidy : ∀ (ys acc : List Pr), RT acc → ys.Pairwise (fun p q => p.1 ≤ q.1) → (∀ q ∈ acc, ∀ p ∈ ys, q.1 ≤ p.1) →
    RT (ys.foldl tStep acc) ∧ ∀ x, cov (ys.foldl tStep acc) x ↔ cov acc x ∨ cov ys x
  | [], acc, h, _, _ => ⟨h, fun x => ⟨.inl, fun z => z.elim id fun z => absurd z cov_nil⟩⟩
  | p :: ys, acc, h, hs, hh => by
    obtain ⟨h1, h2, h3⟩ := h.step (p := p) fun q hq => hh q hq p List.mem_cons_self
    have hs' := List.pairwise_cons.mp hs
    obtain ⟨k1, k2⟩ := fold_tidy ys (tStep acc p) h1 hs'.2 fun q hq z hz => Int.le_trans (h3 q hq) (hs'.1 z hz)
    refine ⟨k1, fun x => ?_⟩
    show cov (ys.foldl tStep (tStep acc p)) x ↔ _
    rw [k2, h2, cov_cons, or_assoc]
/-- what tidy makes of rows in order -/
def tidyF (ys : List Pr) : List Pr := (ys.foldl tStep []).reverse
theorem tidyF_tdy {ys : List Pr} (hs : ys.Pairwise (fun p q => p.1 ≤ q.1)) : Tdy (tidyF ys) ∧ ∀ x, cov (tidyF ys) x ↔ cov ys x := by
  obtain ⟨h1, h2⟩ := fold_tidy ys [] ⟨fun p hp => (by cases hp), List.Pairwise.nil⟩ hs (fun q hq => by cases hq)
  refine ⟨h1.tdy, fun x => ?_⟩
  unfold tidyF
  rw [cov_rev, h2]
  exact ⟨fun z => z.elim (fun z => absurd z cov_nil) id, .inr⟩
/-- how many places -/
def wid (ps : List Pr) : Int := (ps.map fun p => p.2 - p.1).sum
theorem wid_cons {p : Pr} {r : List Pr} : wid (p :: r) = p.2 - p.1 + wid r := by
  unfold wid; rw [List.map_cons, List.sum_cons]
theorem wid_append {a b : List Pr} : wid (a ++ b) = wid a + wid b := by
  unfold wid; rw [List.map_append, List.sum_append]
theorem wid_rev : ∀ (a : List Pr), wid a.reverse = wid a
  | [] => rfl
  | p :: r => by
    rw [List.reverse_cons, wid_append, wid_rev r, wid_cons, wid_cons]
    show wid r + (p.2 - p.1 + 0) = _
    omega
/-- one turn of the law's own rows -/
def rStep (acc : List Pr) (x : Int) : List Pr := match acc with
  | [] => [(x, x + 1)]
  | q :: r => if q.2 = x then (q.1, x + 1) :: r else (x, x + 1) :: q :: r
theorem rStep_wid (acc : List Pr) (x : Int) : wid (rStep acc x) = wid acc + 1 := by
  cases acc with
  | nil => unfold rStep; rw [wid_cons]; show x + 1 - x + 0 = 0 + 1; omega
  | cons q r =>
    show wid (if q.2 = x then (q.1, x + 1) :: r else (x, x + 1) :: q :: r) = _
    by_cases c : q.2 = x
    · rw [if_pos c, wid_cons, wid_cons]; show x + 1 - q.1 + wid r = _; omega
    · rw [if_neg c, wid_cons]; show x + 1 - x + wid (q :: r) = _; omega
theorem rStep_eq {acc : List Pr} {x : Int} (h : ∀ q ∈ acc, q.2 ≤ x) : rStep acc x = tStep acc (x, x + 1) := by
  unfold tStep
  rw [if_neg (show ¬ (x + 1 ≤ x) by omega)]
  cases acc with
  | nil => rfl
  | cons q r =>
    have := h q List.mem_cons_self
    show (if q.2 = x then (q.1, x + 1) :: r else (x, x + 1) :: q :: r) = (if q.2 < x then (x, x + 1) :: q :: r else if q.2 < x + 1 then (q.1, x + 1) :: r else q :: r)
    by_cases c : q.2 = x
    · rw [if_pos c, if_neg (by omega), if_pos (by omega)]
    · rw [if_neg c, if_pos (by omega)]
theorem rStep_le {acc : List Pr} {x : Int} (h : ∀ q ∈ acc, q.2 ≤ x) : ∀ q ∈ rStep acc x, q.2 ≤ x + 1 := by
  intro q hq
  cases acc with
  | nil =>
    have e : q = (x, x + 1) := List.mem_singleton.mp hq
    rw [e]; exact Int.le_refl _
  | cons p r =>
    have hq : q ∈ (if p.2 = x then (p.1, x + 1) :: r else (x, x + 1) :: p :: r) := hq
    by_cases c : p.2 = x
    · rw [if_pos c] at hq
      rcases List.mem_cons.mp hq with e | hq
      · rw [e]; exact Int.le_refl _
      · have := h q (List.mem_cons_of_mem _ hq); omega
    · rw [if_neg c] at hq
      rcases List.mem_cons.mp hq with e | hq
      · rw [e]; exact Int.le_refl _
      · have := h q hq; omega
def ones (xs : List Int) : List Pr := xs.map fun x => (x, x + 1)
theorem fold_rows : ∀ (xs : List Int) (acc : List Pr), xs.Pairwise (· < ·) → (∀ q ∈ acc, ∀ x ∈ xs, q.2 ≤ x) →
    xs.foldl rStep acc = (ones xs).foldl tStep acc ∧ wid (xs.foldl rStep acc) = wid acc + xs.length
  | [], acc, _, _ => ⟨rfl, by show wid acc = wid acc + 0; omega⟩
  | x :: xs, acc, hs, hh => by
    have hs' := List.pairwise_cons.mp hs
    have h1 : ∀ q ∈ acc, q.2 ≤ x := fun q hq => hh q hq x List.mem_cons_self
    obtain ⟨k1, k2⟩ := fold_rows xs (rStep acc x) hs'.2 fun q hq z hz => by
      have a := rStep_le h1 q hq
      have b := hs'.1 z hz
      omega
    constructor
    · show xs.foldl rStep (rStep acc x) = (ones xs).foldl tStep (tStep acc (x, x + 1))
      rw [k1, rStep_eq h1]
    · show wid (xs.foldl rStep (rStep acc x)) = _
      rw [k2, rStep_wid, List.length_cons]
      omega
theorem cov_ones {xs : List Int} {x : Int} : cov (ones xs) x ↔ x ∈ xs := by
  unfold cov ones
  constructor
  · rintro ⟨q, hq, h⟩
    obtain ⟨y, hy, e⟩ := List.mem_map.mp hq
    subst e
    have h1 : y ≤ x := h.1
    have h2 : x < y + 1 := h.2
    have e : x = y := by omega
    rw [e]; exact hy
  · intro h
    exact ⟨(x, x + 1), List.mem_map.mpr ⟨x, h, rfl⟩, Int.le_refl _, by show x < x + 1; omega⟩
/-- the law's own rows of places in order -/
def rowsF (xs : List Int) : List Pr := (xs.foldl rStep []).reverse
theorem rowsF_tdy {xs : List Int} (hs : xs.Pairwise (· < ·)) : Tdy (rowsF xs) ∧ (∀ x, cov (rowsF xs) x ↔ x ∈ xs) ∧ wid (rowsF xs) = xs.length := by
  obtain ⟨k1, k2⟩ := fold_rows xs [] hs fun q hq => by cases hq
  have e : rowsF xs = tidyF (ones xs) := by unfold rowsF tidyF; rw [k1]
  have hp : (ones xs).Pairwise (fun p q => p.1 ≤ q.1) := by
    unfold ones
    rw [List.pairwise_map]
    exact hs.imp fun h => Int.le_of_lt h
  obtain ⟨t1, t2⟩ := tidyF_tdy hp
  refine ⟨e ▸ t1, fun x => ?_, ?_⟩
  · rw [e, t2, cov_ones]
  · unfold rowsF; rw [wid_rev, k2]; show (0 : Int) + _ = _; omega
/-- times by, and moved -/
def sc (by_ high : Int) (p : Pr) : Pr := (p.1 * by_ + high, p.2 * by_ + high)
theorem cov_sc {by_ high : Int} (hb : 0 < by_) {ps : List Pr} {x : Int} : cov (ps.map (sc by_ high)) x ↔ cov ps ((x - high) / by_) := by
  have key : ∀ a : Int, a * by_ + high ≤ x ↔ a ≤ (x - high) / by_ := fun a => by
    rw [Int.le_ediv_iff_mul_le hb]; omega
  unfold cov
  constructor
  · rintro ⟨q, hq, h1, h2⟩
    obtain ⟨p, hp, rfl⟩ := List.mem_map.mp hq
    have k1 := key p.1
    have k2 := key p.2
    have h1 : p.1 * by_ + high ≤ x := h1
    have h2 : x < p.2 * by_ + high := h2
    refine ⟨p, hp, k1.mp h1, ?_⟩
    have : ¬ p.2 ≤ (x - high) / by_ := fun z => by have := k2.mpr z; omega
    omega
  · rintro ⟨p, hp, h1, h2⟩
    have k1 := key p.1
    have k2 := key p.2
    refine ⟨sc by_ high p, List.mem_map.mpr ⟨p, hp, rfl⟩, k1.mpr h1, ?_⟩
    show x < p.2 * by_ + high
    have : ¬ p.2 * by_ + high ≤ x := fun z => by have := k2.mp z; omega
    omega
theorem sc_lt {by_ a b : Int} (high : Int) (hb : 0 < by_) (h : a < b) : a * by_ + high < b * by_ + high := by
  have := Int.mul_lt_mul_of_pos_right h hb
  omega
theorem Tdy.scale {by_ high : Int} (hb : 0 < by_) {ps : List Pr} (h : Tdy ps) : Tdy (ps.map (sc by_ high)) := by
  refine ⟨fun q hq => ?_, ?_⟩
  · obtain ⟨p, hp, rfl⟩ := List.mem_map.mp hq
    exact sc_lt high hb (h.ok p hp)
  · rw [List.pairwise_map]
    exact h.gap.imp fun z => sc_lt high hb z
theorem wid_sc {by_ high : Int} : ∀ ps : List Pr, wid (ps.map (sc by_ high)) = wid ps * by_
  | [] => by show (0 : Int) = 0 * by_; rw [Int.zero_mul]
  | p :: r => by
    rw [List.map_cons, wid_cons, wid_cons, wid_sc r, Int.add_mul, Int.sub_mul]
    show p.2 * by_ + high - (p.1 * by_ + high) + _ = _
    omega
end Rep
namespace Rep
open PySem L2
/-! pairs on the heap -/
def kOf (H : Hp) (v : V) : Pr := match v with
  | .ref t => (match H t with
    | some (.tup [.int a, .int b]) => (a, b)
    | _ => (0, 0))
  | _ => (0, 0)
def IsPr (H : Hp) (v : V) : Prop := ∃ t, v = .ref t ∧ H t = some (.tup [.int (kOf H v).1, .int (kOf H v).2])
theorem kOf_at {H : Hp} {t : Addr} {a b : Int} (h : H t = some (.tup [.int a, .int b])) : kOf H (.ref t) = (a, b) := by
  show (match H t with
    | some (.tup [.int a, .int b]) => (a, b)
    | _ => (0, 0)) = (a, b)
  rw [h]
theorem IsPr.of {H : Hp} {t : Addr} {a b : Int} (h : H t = some (.tup [.int a, .int b])) : IsPr H (.ref t) :=
  ⟨t, rfl, by rw [kOf_at h]; exact h⟩
/-- tuples stay -/
def TS (H H' : Hp) : Prop := ∀ t xs, H t = some (.tup xs) → H' t = some (.tup xs)
theorem TS.of {H H' : Hp} (h : Same H H') : TS H H' := fun t xs e => h t _ e
theorem TS.refl (H : Hp) : TS H H := fun _ _ e => e
theorem TS.trans {H H1 H2 : Hp} (a : TS H H1) (b : TS H1 H2) : TS H H2 := fun t xs e => b t xs (a t xs e)
theorem TS.lst {H : Hp} {o : Addr} {zs : List V} {u : HO} (h : H o = some (.lst zs)) : TS H (upd H o u) := fun t xs e => by
  rw [upd_ne (ne_of e h (by intro z; cases z))]
  exact e
theorem TS.dict {H : Hp} {o : Addr} {zs : List (Key × V)} {u : HO} (h : H o = some (.dK zs)) : TS H (upd H o u) := fun t xs e => by
  rw [upd_ne (ne_of e h (by intro z; cases z))]
  exact e
theorem same_upd {H : Hp} {p : Addr} {o : HO} (h : H p = none) : Same H (upd H p o) := fun b x e => by
  rw [upd_ne (ne_of_none e h)]
  exact e
theorem TS.new {H : Hp} {p : Addr} {o : HO} (h : H p = none) : TS H (upd H p o) := TS.of (same_upd h)
theorem same_over {H H' : Hp} {o : Addr} {u : HO} (h : Same H H') (n : H o = none) : Same H (upd H' o u) := fun b x e => by
  rw [upd_ne (ne_of_none e n)]
  exact h b x e
theorem kOf_ts {H H' : Hp} (s : TS H H') {v : V} (h : IsPr H v) : kOf H' v = kOf H v := by
  obtain ⟨t, e, h⟩ := h
  have h2 := s _ _ h
  subst e
  rw [kOf_at h2]
theorem IsPr.ts {H H' : Hp} (s : TS H H') {v : V} (h : IsPr H v) : IsPr H' v := by
  have e := kOf_ts s h
  obtain ⟨t, rfl, h⟩ := h
  exact ⟨t, rfl, by rw [e]; exact s _ _ h⟩
structure PL (H : Hp) (vs : List V) (ps : List Pr) : Prop where
  all : ∀ v ∈ vs, IsPr H v
  eq : vs.map (kOf H) = ps
theorem PL.nil {H : Hp} : PL H [] [] := ⟨fun v h => (by cases h), rfl⟩
theorem PL.len {H : Hp} {vs : List V} {ps : List Pr} (h : PL H vs ps) : vs.length = ps.length := by rw [← h.eq, List.length_map]
theorem PL.ts {H H' : Hp} (s : TS H H') {vs : List V} {ps : List Pr} (h : PL H vs ps) : PL H' vs ps := by
  refine ⟨fun v hv => (h.all v hv).ts s, ?_⟩
  rw [← h.eq]
  exact List.map_congr_left fun v hv => kOf_ts s (h.all v hv)
theorem PL.snoc {H : Hp} {vs : List V} {ps : List Pr} {t : Addr} {a b : Int} (h : PL H vs ps) (ht : H t = some (.tup [.int a, .int b])) : PL H (vs ++ [.ref t]) (ps ++ [(a, b)]) := by
  refine ⟨fun v hv => ?_, ?_⟩
  · rcases List.mem_append.mp hv with hv | hv
    · exact h.all v hv
    · rw [List.mem_singleton.mp hv]; exact .of ht
  · rw [List.map_append, h.eq]
    show ps ++ [kOf H (.ref t)] = _
    rw [kOf_at ht]
theorem PL.get {H : Hp} {vs : List V} {ps : List Pr} (h : PL H vs ps) {i : Nat} {v : V} (e : vs[i]? = some v) : ∃ t p, v = .ref t ∧ H t = some (.tup [.int p.1, .int p.2]) ∧ ps[i]? = some p := by
  obtain ⟨t, et, ht⟩ := h.all v (List.mem_of_getElem? e)
  refine ⟨t, kOf H v, et, ht, ?_⟩
  rw [← h.eq, List.getElem?_map, e]
  rfl
theorem PL.cut {H : Hp} {vs : List V} {ps : List Pr} {p : Pr} (h : PL H vs (ps ++ [p])) : ∃ ws t, vs = ws ++ [.ref t] ∧ PL H ws ps ∧ H t = some (.tup [.int p.1, .int p.2]) := by
  have hl := h.len
  rw [List.length_append, List.length_singleton] at hl
  have hn : vs ≠ [] := fun e => by rw [e] at hl; simp at hl
  refine ⟨vs.dropLast, ?_⟩
  have e := (List.dropLast_concat_getLast hn).symm
  obtain ⟨t, et, ht⟩ := h.all _ (List.getLast_mem hn)
  have q := h.eq
  rw [e, List.map_append] at q
  have q2 : vs.dropLast.map (kOf H) = ps ∧ [kOf H (vs.getLast hn)] = [p] := List.append_inj' q rfl
  refine ⟨t, by rw [← et]; exact e, ⟨fun v hv => h.all v (List.dropLast_subset _ hv), q2.1⟩, ?_⟩
  have q3 : kOf H (vs.getLast hn) = p := by simpa using q2.2
  rw [← q3]; exact ht
theorem PL.perm {H : Hp} {vs ys : List V} {ps : List Pr} (h : PL H vs ps) (p : ys.Perm vs) : PL H ys (ys.map (kOf H)) ∧ (ys.map (kOf H)).Perm ps :=
  ⟨⟨fun v hv => h.all v (p.mem_iff.mp hv), rfl⟩, by rw [← h.eq]; exact p.map _⟩
theorem cov_perm {a b : List Pr} (h : a.Perm b) {x : Int} : cov a x ↔ cov b x := by
  unfold cov
  constructor
  · rintro ⟨q, hq, z⟩; exact ⟨q, h.mem_iff.mp hq, z⟩
  · rintro ⟨q, hq, z⟩; exact ⟨q, h.mem_iff.mpr hq, z⟩
theorem tYes_ok {σ : L2.St} {H : Hp} {A : Bool → Hp → Prop} (h : A true H) : tYes σ H A := h
/-! data at a depth -/
inductive DT (H : Hp) : Nat → V → PyData → Prop
  | non {n : Nat} : DT H n .non .none
  | bl {n : Nat} (b : Bool) : DT H n (.bl b) (.bool b)
  | int {n : Nat} (i : Int) : DT H n (.int i) (.int i)
  | str {n : Nat} (x : Str) : DT H n (.str x) (.str x)
  | lst {n : Nat} {a : Addr} {xs : List V} {ds : List PyData} : H a = some (.lst xs) → xs.length = ds.length → xs.length ≤ 14000000 → (∀ (i : Nat) (x : V) (d : PyData), xs[i]? = some x → ds[i]? = some d → DT H n x d) → DT H (n + 1) (.ref a) (.list ds)
  | tup {n : Nat} {a : Addr} {xs : List V} {ds : List PyData} : H a = some (.tup xs) → xs.length = ds.length → xs.length ≤ 14000000 → (∀ (i : Nat) (x : V) (d : PyData), xs[i]? = some x → ds[i]? = some d → DT H n x d) → DT H (n + 1) (.ref a) (.tuple ds)
theorem DT.same {H H' : Hp} (s : Same H H') {n : Nat} {v : V} {d : PyData} (h : DT H n v d) : DT H' n v d := by
  induction h with
  | non => exact .non
  | bl b => exact .bl b
  | int i => exact .int i
  | str x => exact .str x
  | lst e l b _ ih => exact .lst (s _ _ e) l b ih
  | tup e l b _ ih => exact .tup (s _ _ e) l b ih
def pD (p : Pr) : PyData := .tuple [.int p.1, .int p.2]
theorem DT.pair {H : Hp} {n : Nat} {t : Addr} {p : Pr} (h : H t = some (.tup [.int p.1, .int p.2])) : DT H (n + 1) (.ref t) (pD p) := by
  refine .tup h rfl (by show 2 ≤ 14000000; decide) fun i x d hx hd => ?_
  match i, hx, hd with
  | 0, hx, hd => cases hx; cases hd; exact .int _
  | 1, hx, hd => cases hx; cases hd; exact .int _
theorem PL.dt {H : Hp} {n : Nat} {a : Addr} {vs : List V} {ps : List Pr} (h : PL H vs ps) (ha : H a = some (.lst vs)) (hl : ps.length ≤ 14000000) : DT H (n + 2) (.ref a) (.list (ps.map pD)) := by
  refine .lst ha (by rw [h.len, List.length_map]) (by rw [h.len]; exact hl) fun i x d hx hd => ?_
  obtain ⟨t, p, rfl, ht, hp⟩ := h.get hx
  rw [List.getElem?_map, hp] at hd
  cases hd
  exact .pair ht
/-- as the layer's deep data -/
theorem PL.dp {K : PySem.W.Frag} {H : Hp} : ∀ {vs : List V} {ps : List Pr}, PL H vs ps → DpAll K H vs (ps.map pD)
  | [], ps, h => by
    have := h.eq
    subst this
    exact .nil
  | v :: vs, ps, h => by
    have e := h.eq
    subst e
    obtain ⟨t, et, ht⟩ := h.all v List.mem_cons_self
    refine .cons ?_ (PL.dp ⟨fun w hw => h.all w (List.mem_cons_of_mem _ hw), rfl⟩)
    rw [et] at ht ⊢
    exact .tup (.inl (.inl ht)) (.cons (.int _) (.cons (.int _) .nil))
theorem canAll : ∀ ps : List Pr, PyData.canLayAll0 (ps.map pD) = true
  | [] => rfl
  | _ :: r => by
    show (true && PyData.canLayAll0 (r.map pD)) = true
    rw [canAll r]; rfl
end Rep
namespace Rep
/-! likeness by steps in either direction -/
inductive Eqv (R : Int → Int → Prop) : Int → Int → Prop
  | refl (x : Int) : Eqv R x x
  | of {x y : Int} : R x y → Eqv R x y
  | symm {x y : Int} : Eqv R x y → Eqv R y x
  | trans {x y z : Int} : Eqv R x y → Eqv R y z → Eqv R x z
theorem Eqv.bind {R S : Int → Int → Prop} (h : ∀ x y, R x y → Eqv S x y) {x y : Int} (e : Eqv R x y) : Eqv S x y := by
  induction e with
  | refl x => exact .refl x
  | of r => exact h _ _ r
  | symm _ ih => exact .symm ih
  | trans _ _ a b => exact .trans a b
theorem Eqv.mono {R S : Int → Int → Prop} (h : ∀ x y, R x y → S x y) {x y : Int} (e : Eqv R x y) : Eqv S x y := e.bind fun x y r => .of (h x y r)
/-- a saying: the lesser start, the greater, how many, turned -/
structure Sy where
  lo : Int
  hi : Int
  n : Int
  t : Bool
  deriving DecidableEq
def Sy.en (s : Sy) : Int := s.hi + s.n
/-- the place that a place of the first stretch is said alike to -/
def mate (lo hi n : Int) (t : Bool) (x : Int) : Int := if t then lo + hi + n - 1 - x else x - lo + hi
def says (lo hi n : Int) (t : Bool) (x y : Int) : Prop := lo ≤ x ∧ x < lo + n ∧ y = mate lo hi n t x
def rel (s : Sy) (x y : Int) : Prop := says s.lo s.hi s.n s.t x y
def relL (K : List Sy) (x y : Int) : Prop := ∃ s ∈ K, rel s x y
/-- a saying of what is left of the song, below e -/
structure Ok (e : Int) (s : Sy) : Prop where
  lo0 : 0 ≤ s.lo
  lt : s.lo < s.hi
  n1 : 1 ≤ s.n
  le : s.hi + s.n ≤ e
  ov : s.t = true → s.lo + s.n ≤ s.hi
theorem Ok.mono {e e' : Int} {s : Sy} (h : Ok e s) (l : s.hi + s.n ≤ e') : Ok e' s := ⟨h.lo0, h.lt, h.n1, l, h.ov⟩
theorem says_t {lo hi n x y : Int} : says lo hi n true x y ↔ lo ≤ x ∧ x < lo + n ∧ y = lo + hi + n - 1 - x := Iff.rfl
theorem says_f {lo hi n x y : Int} : says lo hi n false x y ↔ lo ≤ x ∧ x < lo + n ∧ y = x - lo + hi := Iff.rfl
/-! as it is kept -/
def keptF (a b n : Int) (t : Bool) : Option Sy :=
  let lo := min a b
  let hi := max a b
  if t = true ∧ hi < lo + n then
    let r := hi + n - lo
    if r / 2 < 1 ∨ lo = lo + r - r / 2 then none else some ⟨lo, lo + r - r / 2, r / 2, t⟩
  else if n < 1 ∨ lo = hi then none else some ⟨lo, hi, n, t⟩
/-- what a kept form says, if there is one -/
def relO (o : Option Sy) (x y : Int) : Prop := ∃ s, o = some s ∧ rel s x y
theorem says_swap {a b n : Int} {t : Bool} {x y : Int} (h : says a b n t x y) : says b a n t y x := by
  cases t with
  | true => rw [says_t] at *; omega
  | false => rw [says_f] at *; omega
theorem says_minmax {a b n : Int} {t : Bool} {x y : Int} (h : says a b n t x y) : Eqv (says (min a b) (max a b) n t) x y := by
  rcases Int.le_total a b with l | l
  · rw [Int.min_eq_left l, Int.max_eq_right l]; exact .of h
  · rw [Int.min_eq_right l, Int.max_eq_left l]; exact .symm (.of (says_swap h))
theorem minmax_says {a b n : Int} {t : Bool} {x y : Int} (h : says (min a b) (max a b) n t x y) : Eqv (says a b n t) x y := by
  rcases Int.le_total a b with l | l
  · rw [Int.min_eq_left l, Int.max_eq_right l] at h; exact .of h
  · rw [Int.min_eq_right l, Int.max_eq_left l] at h; exact .symm (.of (says_swap h))
theorem kept_ok {a b n e : Int} {t : Bool} {s : Sy} (ha : 0 ≤ a) (hb : 0 ≤ b) (hae : a + n ≤ e) (hbe : b + n ≤ e) (h : keptF a b n t = some s) : Ok e s ∧ s.hi + s.n = max a b + n := by
  unfold keptF at h
  have h0 : 0 ≤ min a b := by omega
  have h1 : max a b + n ≤ e := by omega
  have h2 : min a b ≤ max a b := by omega
  generalize min a b = lo at *
  generalize max a b = hi at *
  by_cases c : t = true ∧ hi < lo + n
  · rw [if_pos c] at h
    by_cases d : (hi + n - lo) / 2 < 1 ∨ lo = lo + (hi + n - lo) - (hi + n - lo) / 2
    · rw [if_pos d] at h; cases h
    · rw [if_neg d] at h
      cases h
      refine ⟨⟨h0, ?_, ?_, ?_, fun _ => ?_⟩, ?_⟩
      · show lo < lo + (hi + n - lo) - (hi + n - lo) / 2; omega
      · show 1 ≤ (hi + n - lo) / 2; omega
      · show lo + (hi + n - lo) - (hi + n - lo) / 2 + (hi + n - lo) / 2 ≤ e; omega
      · show lo + (hi + n - lo) / 2 ≤ lo + (hi + n - lo) - (hi + n - lo) / 2; omega
      · show lo + (hi + n - lo) - (hi + n - lo) / 2 + (hi + n - lo) / 2 = _; omega
  · rw [if_neg c] at h
    by_cases d : n < 1 ∨ lo = hi
    · rw [if_pos d] at h; cases h
    · rw [if_neg d] at h
      cases h
      refine ⟨⟨h0, by show lo < hi; omega, by show 1 ≤ n; omega, h1, fun ht => ?_⟩, rfl⟩
      show lo + n ≤ hi
      have ht : t = true := ht
      have : ¬ hi < lo + n := fun z => c ⟨ht, z⟩
      omega
/-- nothing is lost and nothing is added -/
theorem kept_eq {a b n : Int} {t : Bool} : (∀ x y, says a b n t x y → Eqv (relO (keptF a b n t)) x y) ∧ ∀ x y, relO (keptF a b n t) x y → Eqv (says a b n t) x y := by
  have key : (∀ x y, says (min a b) (max a b) n t x y → Eqv (relO (keptF a b n t)) x y) ∧ ∀ x y, relO (keptF a b n t) x y → Eqv (says (min a b) (max a b) n t) x y := by
    unfold keptF
    have h2 : min a b ≤ max a b := by omega
    generalize min a b = lo at *
    generalize max a b = hi at *
    by_cases c : t = true ∧ hi < lo + n
    · simp only [if_pos c]
      obtain ⟨rfl, c⟩ := c
      by_cases d : (hi + n - lo) / 2 < 1 ∨ lo = lo + (hi + n - lo) - (hi + n - lo) / 2
      · rw [if_pos d]
        refine ⟨fun x y h => ?_, fun x y h => ?_⟩
        · rw [says_t] at h
          have e : x = y := by omega
          rw [e]; exact .refl y
        · obtain ⟨s, hs, _⟩ := h; cases hs
      · rw [if_neg d]
        refine ⟨fun x y h => ?_, fun x y h => ?_⟩
        · rw [says_t] at h
          by_cases c1 : x < lo + (hi + n - lo) / 2
          · refine .of ⟨_, rfl, ?_⟩
            show says lo (lo + (hi + n - lo) - (hi + n - lo) / 2) ((hi + n - lo) / 2) true x y
            rw [says_t]; omega
          · by_cases c2 : x = y
            · rw [c2]; exact .refl y
            · refine .symm (.of ⟨_, rfl, ?_⟩)
              show says lo (lo + (hi + n - lo) - (hi + n - lo) / 2) ((hi + n - lo) / 2) true y x
              rw [says_t]; omega
        · obtain ⟨s, hs, h⟩ := h
          cases hs
          have h : says lo (lo + (hi + n - lo) - (hi + n - lo) / 2) ((hi + n - lo) / 2) true x y := h
          refine .of ?_
          rw [says_t] at *
          omega
    · simp only [if_neg c]
      by_cases d : n < 1 ∨ lo = hi
      · rw [if_pos d]
        refine ⟨fun x y h => ?_, fun x y h => ?_⟩
        · cases t with
          | true =>
            rw [says_t] at h
            have : ¬ hi < lo + n := fun z => c ⟨rfl, z⟩
            omega
          | false =>
            rw [says_f] at h
            have e : x = y := by omega
            rw [e]; exact .refl y
        · obtain ⟨s, hs, _⟩ := h; cases hs
      · rw [if_neg d]
        refine ⟨fun x y h => .of ⟨_, rfl, h⟩, fun x y h => ?_⟩
        obtain ⟨s, hs, h⟩ := h
        cases hs
        exact .of h
  exact ⟨fun x y h => (says_minmax h).bind key.1, fun x y h => (key.2 x y h).bind fun x y h => minmax_says h⟩
/-! two beats -/
/-- each two places of [a, b) that are t apart are alike -/
def Beat (E : Int → Int → Prop) (a b t : Int) : Prop := ∀ x, a ≤ x → x + t < b → E x (x + t)
theorem beat_sub {R : Int → Int → Prop} {a b t u : Int} (ht : 0 < t) (hu : t < u) (hl : t + u ≤ b - a) (h1 : Beat (Eqv R) a b t) (h2 : Beat (Eqv R) a b u) : Beat (Eqv R) a b (u - t) := by
  intro x hx hb
  by_cases c : x + u < b
  · have e1 := h2 x hx c
    have e2 := h1 (x + (u - t)) (by omega) (by omega)
    rw [show x + (u - t) + t = x + u by omega] at e2
    exact .trans e1 (.symm e2)
  · have e1 := h1 (x - t) (by omega) (by omega)
    rw [show x - t + t = x by omega] at e1
    have e2 := h2 (x - t) (by omega) (by omega)
    rw [show x - t + u = x + (u - t) by omega] at e2
    exact .trans (.symm e1) e2
theorem beat_gcd {R : Int → Int → Prop} {a b : Int} : ∀ (k : Nat) (t u : Nat), t + u ≤ k → 0 < t → 0 < u → (t : Int) + u ≤ b - a → Beat (Eqv R) a b t → Beat (Eqv R) a b u → Beat (Eqv R) a b (Nat.gcd t u : Nat)
  | 0, t, u, hk, ht, hu, _, _, _ => by omega
  | k + 1, t, u, hk, ht, hu, hl, h1, h2 => by
    rcases Nat.lt_trichotomy t u with c | c | c
    · have h3 : Beat (Eqv R) a b ((u - t : Nat) : Int) := by
        have := beat_sub (by omega) (by omega) hl h1 h2
        rw [show ((u - t : Nat) : Int) = (u : Int) - (t : Int) by omega]
        exact this
      have := beat_gcd k t (u - t) (by omega) ht (by omega) (by omega) h1 h3
      rw [Nat.gcd_sub_self_right (Nat.le_of_lt c)] at this
      exact this
    · subst c
      rw [Nat.gcd_self]
      exact h1
    · have h3 : Beat (Eqv R) a b ((t - u : Nat) : Int) := by
        have := beat_sub (R := R) (a := a) (b := b) (t := u) (u := t) (by omega) (by omega) (by omega) h2 h1
        rw [show ((t - u : Nat) : Int) = (t : Int) - (u : Int) by omega]
        exact this
      have := beat_gcd k (t - u) u (by omega) (by omega) hu (by omega) h3 h2
      rw [Nat.gcd_sub_self_left (Nat.le_of_lt c)] at this
      exact this
/-- a beat, many times -/
theorem beat_mul {R : Int → Int → Prop} {a b t : Int} (ht : 0 < t) (h : Beat (Eqv R) a b t) : ∀ (k : Nat) (x : Int), a ≤ x → x + (k : Int) * t < b → Eqv R x (x + (k : Int) * t)
  | 0, x, _, _ => by
    rw [show x + ((0 : Nat) : Int) * t = x by rw [Int.natCast_zero, Int.zero_mul]; omega]
    exact .refl x
  | k + 1, x, hx, hb => by
    have e : ((k + 1 : Nat) : Int) * t = (k : Int) * t + t := by rw [Int.natCast_add, Int.add_mul]; omega
    rw [e] at hb ⊢
    have hk : 0 ≤ (k : Int) * t := Int.mul_nonneg (by omega) (by omega)
    have h1 := beat_mul ht h k x hx (by omega)
    have h2 := h (x + (k : Int) * t) (by omega) (by omega)
    rw [show x + (k : Int) * t + t = x + ((k : Int) * t + t) by omega] at h2
    exact .trans h1 h2
/-- from a part to the whole: a beat t of the whole carries each place into the part -/
theorem into_part {R : Int → Int → Prop} {a b a' b' t : Int} (ht : 0 < t) (h : Beat (Eqv R) a b t) (h1 : a ≤ a') (h2 : b' ≤ b) (h3 : t ≤ b' - a') {x : Int} (hx : a ≤ x) (hb : x < b) :
    ∃ y, Eqv R x y ∧ a' ≤ y ∧ y < a' + t ∧ ∃ k : Int, y = x + k * t := by
  -- the place of [a', a' + t) that is a number of beats away
  have e := Int.emod_add_mul_ediv (x - a') t
  have m0 : 0 ≤ (x - a') % t := Int.emod_nonneg _ (by omega)
  have m1 : (x - a') % t < t := Int.emod_lt_of_pos _ ht
  generalize hr : (x - a') % t = r at *
  generalize hk : (x - a') / t = k at *
  have ey : a' + r = x + (-k) * t := by rw [Int.neg_mul, Int.mul_comm k t]; omega
  refine ⟨a' + r, ?_, by omega, by omega, -k, ey⟩
  rcases Int.le_total 0 k with c | c
  · obtain ⟨j, rfl⟩ : ∃ j : Nat, k = (j : Int) := ⟨k.toNat, by omega⟩
    have hx' : x = a' + r + (j : Int) * t := by rw [Int.mul_comm]; omega
    have := beat_mul ht h j (a' + r) (by omega) (by rw [← hx']; exact hb)
    rw [← hx'] at this
    exact .symm this
  · obtain ⟨j, rfl⟩ : ∃ j : Nat, k = -(j : Int) := ⟨(-k).toNat, by omega⟩
    have hx' : a' + r = x + (j : Int) * t := by rw [ey, Int.neg_neg]
    have := beat_mul ht h j x hx (by rw [← hx']; omega)
    rw [← hx'] at this
    exact this
theorem beat_spread {R : Int → Int → Prop} {a b a' b' t g : Int} (ht : 0 < t) (hg : 0 < g) (h : Beat (Eqv R) a b t) (h1 : a ≤ a') (h2 : b' ≤ b) (h3 : t + g ≤ b' - a') (hp : Beat (Eqv R) a' b' g) : Beat (Eqv R) a b g := by
  intro x hx hb
  obtain ⟨y, e1, l1, l2, k, ek⟩ := into_part ht h h1 h2 (by omega) hx (by omega)
  have e2 := hp y l1 (by omega)
  -- and x + g comes to y + g by as many beats
  have e3 : Eqv R (x + g) (y + g) := by
    have ey : y + g = x + g + k * t := by omega
    rcases Int.le_total 0 k with c | c
    · obtain ⟨j, rfl⟩ : ∃ j : Nat, k = (j : Int) := ⟨k.toNat, by omega⟩
      have := beat_mul ht h j (x + g) (by omega) (by rw [← ey]; omega)
      rw [← ey] at this
      exact this
    · obtain ⟨j, rfl⟩ : ∃ j : Nat, k = -(j : Int) := ⟨(-k).toNat, by omega⟩
      have ey' : x + g = y + g + (j : Int) * t := by rw [ey, Int.neg_mul]; omega
      have := beat_mul ht h j (y + g) (by omega) (by rw [← ey']; exact hb)
      rw [← ey'] at this
      exact .symm this
  exact .trans e1 (.trans e2 (.symm e3))
end Rep
namespace Rep
/-! two lists of sayings that say the same -/
structure EqR (R S : Int → Int → Prop) : Prop where
  to : ∀ x y, R x y → Eqv S x y
  back : ∀ x y, S x y → Eqv R x y
theorem EqR.refl (R : Int → Int → Prop) : EqR R R := ⟨fun _ _ h => .of h, fun _ _ h => .of h⟩
theorem EqR.symm {R S : Int → Int → Prop} (h : EqR R S) : EqR S R := ⟨h.back, h.to⟩
theorem EqR.trans {R S T : Int → Int → Prop} (h : EqR R S) (k : EqR S T) : EqR R T := ⟨fun x y r => (h.to x y r).bind k.to, fun x y r => (k.back x y r).bind h.back⟩
theorem EqR.iff {R S : Int → Int → Prop} (h : EqR R S) {x y : Int} : Eqv R x y ↔ Eqv S x y := ⟨fun e => e.bind h.to, fun e => e.bind h.back⟩
theorem EqR.of_iff {R S : Int → Int → Prop} (h : ∀ x y, R x y ↔ S x y) : EqR R S := ⟨fun x y r => .of ((h x y).mp r), fun x y r => .of ((h x y).mpr r)⟩
def orR (R S : Int → Int → Prop) (x y : Int) : Prop := R x y ∨ S x y
theorem EqR.orl {R S : Int → Int → Prop} (T : Int → Int → Prop) (h : EqR R S) : EqR (orR R T) (orR S T) :=
  ⟨fun x y r => r.elim (fun r => (h.to x y r).mono fun _ _ z => .inl z) fun r => .of (.inr r), fun x y r => r.elim (fun r => (h.back x y r).mono fun _ _ z => .inl z) fun r => .of (.inr r)⟩
theorem EqR.orr {R S : Int → Int → Prop} (T : Int → Int → Prop) (h : EqR R S) : EqR (orR T R) (orR T S) :=
  ⟨fun x y r => r.elim (fun r => .of (.inl r)) fun r => (h.to x y r).mono fun _ _ z => .inr z, fun x y r => r.elim (fun r => .of (.inl r)) fun r => (h.back x y r).mono fun _ _ z => .inr z⟩
/-- what is added follows -/
theorem EqR.more {R S T : Int → Int → Prop} (h : ∀ x y, S x y → Eqv (orR R T) x y) (k : ∀ x y, T x y → Eqv (orR R S) x y) : EqR (orR R S) (orR R T) :=
  ⟨fun x y r => r.elim (fun r => .of (.inl r)) fun r => h x y r, fun x y r => r.elim (fun r => .of (.inl r)) fun r => k x y r⟩
theorem relL_cons {s : Sy} {K : List Sy} {x y : Int} : relL (s :: K) x y ↔ orR (rel s) (relL K) x y := by
  unfold relL orR
  constructor
  · rintro ⟨u, hu, h⟩
    rcases List.mem_cons.mp hu with rfl | hu
    · exact .inl h
    · exact .inr ⟨u, hu, h⟩
  · rintro (h | ⟨u, hu, h⟩)
    · exact ⟨s, List.mem_cons_self, h⟩
    · exact ⟨u, List.mem_cons_of_mem _ hu, h⟩
theorem relL_append {K L : List Sy} {x y : Int} : relL (K ++ L) x y ↔ orR (relL K) (relL L) x y := by
  unfold relL orR
  constructor
  · rintro ⟨u, hu, h⟩
    rcases List.mem_append.mp hu with hu | hu
    · exact .inl ⟨u, hu, h⟩
    · exact .inr ⟨u, hu, h⟩
  · rintro (⟨u, hu, h⟩ | ⟨u, hu, h⟩)
    · exact ⟨u, List.mem_append_left _ hu, h⟩
    · exact ⟨u, List.mem_append_right _ hu, h⟩
theorem relL_mem {K L : List Sy} (h : ∀ s, s ∈ K ↔ s ∈ L) : EqR (relL K) (relL L) :=
  .of_iff fun x y => ⟨fun ⟨s, hs, r⟩ => ⟨s, (h s).mp hs, r⟩, fun ⟨s, hs, r⟩ => ⟨s, (h s).mpr hs, r⟩⟩
theorem relL_nil {x y : Int} : ¬ relL [] x y := fun ⟨_, h, _⟩ => by cases h
/-! joining -/
def lead (s : Sy) : Int := s.hi - s.lo
def gcdI (a b : Int) : Int := (Nat.gcd a.toNat b.toNat : Nat)
def shared (s o : Sy) : Int := min (s.hi + s.n) (o.hi + o.n) - max s.lo o.lo
def joinF (s o : Sy) : Sy := ⟨min s.lo o.lo, min s.lo o.lo + gcdI (lead s) (lead o), max (s.hi + s.n) (o.hi + o.n) - min s.lo o.lo - gcdI (lead s) (lead o), false⟩
theorem gcd_facts {a b : Int} (ha : 0 < a) (hb : 0 < b) : 0 < gcdI a b ∧ gcdI a b ≤ a ∧ gcdI a b ≤ b ∧ (∃ k : Nat, a = (k : Int) * gcdI a b) ∧ ∃ k : Nat, b = (k : Int) * gcdI a b := by
  unfold gcdI
  have h0 : 0 < Nat.gcd a.toNat b.toNat := Nat.gcd_pos_of_pos_left _ (by omega)
  have h1 : Nat.gcd a.toNat b.toNat ≤ a.toNat := Nat.gcd_le_left _ (by omega)
  have h2 : Nat.gcd a.toNat b.toNat ≤ b.toNat := Nat.gcd_le_right _ (by omega)
  obtain ⟨k, hk⟩ := Nat.gcd_dvd_left a.toNat b.toNat
  obtain ⟨j, hj⟩ := Nat.gcd_dvd_right a.toNat b.toNat
  refine ⟨by omega, by omega, by omega, ⟨k, ?_⟩, ⟨j, ?_⟩⟩
  · have e := congrArg (fun n : Nat => (n : Int)) hk
    simp only [Int.natCast_mul] at e
    rw [Int.mul_comm]
    omega
  · have e := congrArg (fun n : Nat => (n : Int)) hj
    simp only [Int.natCast_mul] at e
    rw [Int.mul_comm]
    omega
theorem rel_straight {s : Sy} (h : s.t = false) {x y : Int} : rel s x y ↔ s.lo ≤ x ∧ x < s.lo + s.n ∧ y = x + lead s := by
  unfold rel
  rw [h, says_f]
  unfold lead
  constructor
  · intro z; omega
  · intro z; omega
theorem rel_beat {s : Sy} (h : s.t = false) {R : Int → Int → Prop} (hr : ∀ x y, rel s x y → Eqv R x y) : Beat (Eqv R) s.lo (s.hi + s.n) (lead s) := by
  intro x hx hb
  refine hr _ _ ((rel_straight h).mpr ⟨hx, ?_, rfl⟩)
  unfold lead at hb
  omega
theorem join_ok {e : Int} {s o : Sy} (hs : Ok e s) (ho : Ok e o) (hsh : lead s + lead o ≤ shared s o) : Ok e (joinF s o) := by
  have l1 : 0 < lead s := by have := hs.lt; unfold lead; omega
  have l2 : 0 < lead o := by have := ho.lt; unfold lead; omega
  obtain ⟨g0, g1, g2, _, _⟩ := gcd_facts l1 l2
  have a1 := hs.lo0
  have a2 := ho.lo0
  have a3 := hs.le
  have a4 := ho.le
  unfold shared at hsh
  unfold joinF
  generalize gcdI (lead s) (lead o) = g at *
  refine ⟨?_, ?_, ?_, ?_, fun h => (by cases h)⟩
  · show 0 ≤ min s.lo o.lo; omega
  · show min s.lo o.lo < min s.lo o.lo + g; omega
  · show 1 ≤ max (s.hi + s.n) (o.hi + o.n) - min s.lo o.lo - g; omega
  · show min s.lo o.lo + g + (max (s.hi + s.n) (o.hi + o.n) - min s.lo o.lo - g) ≤ e; omega
theorem join_eq {e : Int} {s o : Sy} (hs : Ok e s) (ho : Ok e o) (ts : s.t = false) (to : o.t = false) (hsh : lead s + lead o ≤ shared s o) : EqR (orR (rel s) (rel o)) (rel (joinF s o)) := by
  have l1 : 0 < lead s := by have := hs.lt; unfold lead; omega
  have l2 : 0 < lead o := by have := ho.lt; unfold lead; omega
  obtain ⟨g0, g1, g2, ⟨k1, e1⟩, ⟨k2, e2⟩⟩ := gcd_facts l1 l2
  have jl : lead (joinF s o) = gcdI (lead s) (lead o) := by unfold lead joinF; show min s.lo o.lo + _ - min s.lo o.lo = _; unfold lead; omega
  have je : (joinF s o).hi + (joinF s o).n = max (s.hi + s.n) (o.hi + o.n) := by
    show min s.lo o.lo + gcdI (lead s) (lead o) + (max (s.hi + s.n) (o.hi + o.n) - min s.lo o.lo - gcdI (lead s) (lead o)) = _
    omega
  have jb := rel_beat (s := joinF s o) rfl (R := rel (joinF s o)) fun x y h => .of h
  rw [jl, je] at jb
  have jb : Beat (Eqv (rel (joinF s o))) (min s.lo o.lo) (max (s.hi + s.n) (o.hi + o.n)) (gcdI (lead s) (lead o)) := jb
  have sb := rel_beat ts (R := orR (rel s) (rel o)) fun x y h => .of (.inl h)
  have ob := rel_beat to (R := orR (rel s) (rel o)) fun x y h => .of (.inr h)
  have d1 := hs.n1
  have d2 := ho.n1
  refine ⟨fun x y h => ?_, fun x y h => ?_⟩
  · rcases h with h | h
    · have h := (rel_straight ts).mp h
      have := beat_mul g0 jb k1 x (by omega) (by rw [← e1]; unfold lead; omega)
      rw [← e1, ← h.2.2] at this
      exact this
    · have h := (rel_straight to).mp h
      have := beat_mul g0 jb k2 x (by omega) (by rw [← e2]; unfold lead; omega)
      rw [← e2, ← h.2.2] at this
      exact this
  · have h := (rel_straight (s := joinF s o) rfl).mp h
    rw [jl] at h
    have hx : min s.lo o.lo ≤ x := h.1
    have hb : x + gcdI (lead s) (lead o) < max (s.hi + s.n) (o.hi + o.n) := by
      have := h.2.1
      have h2 : x < min s.lo o.lo + (max (s.hi + s.n) (o.hi + o.n) - min s.lo o.lo - gcdI (lead s) (lead o)) := this
      omega
    -- the beat within what both have
    have ib : Beat (Eqv (orR (rel s) (rel o))) (max s.lo o.lo) (min (s.hi + s.n) (o.hi + o.n)) (gcdI (lead s) (lead o)) := by
      have b1 : Beat (Eqv (orR (rel s) (rel o))) (max s.lo o.lo) (min (s.hi + s.n) (o.hi + o.n)) ((lead s).toNat : Int) := fun z h1 h2 => by
        rw [show ((lead s).toNat : Int) = lead s by omega] at h2 ⊢
        exact sb z (by omega) (by omega)
      have b2 : Beat (Eqv (orR (rel s) (rel o))) (max s.lo o.lo) (min (s.hi + s.n) (o.hi + o.n)) ((lead o).toNat : Int) := fun z h1 h2 => by
        rw [show ((lead o).toNat : Int) = lead o by omega] at h2 ⊢
        exact ob z (by omega) (by omega)
      unfold shared at hsh
      exact beat_gcd _ (lead s).toNat (lead o).toNat (Nat.le_refl _) (by omega) (by omega) (by omega) b1 b2
    unfold shared at hsh
    rw [h.2.2]
    generalize gcdI (lead s) (lead o) = g at *
    by_cases c : s.lo ≤ x ∧ x + g < s.hi + s.n
    · exact beat_spread l1 g0 sb (by omega) (by omega) (by omega) ib x c.1 c.2
    · exact beat_spread l2 g0 ob (by omega) (by omega) (by omega) ib x (by omega) (by omega)
/-! taking in -/
def fits (s o : Sy) : Bool := !o.t && decide (lead s + lead o ≤ shared s o)
def partnerF (K : List Sy) (s : Sy) : Option Nat := if s.t = true then none else K.findIdx? (fits s)
theorem partner_some {K : List Sy} {s : Sy} {k : Nat} (h : partnerF K s = some k) : s.t = false ∧ ∃ o, K[k]? = some o ∧ o.t = false ∧ lead s + lead o ≤ shared s o := by
  unfold partnerF at h
  by_cases c : s.t = true
  · rw [if_pos c] at h; cases h
  · rw [if_neg c] at h
    obtain ⟨hk, hf, _⟩ := List.findIdx?_eq_some_iff_getElem.mp h
    unfold fits at hf
    rw [Bool.and_eq_true] at hf
    refine ⟨by cases e : s.t with | false => rfl | true => exact absurd e c, K[k], List.getElem?_eq_getElem hk, ?_, of_decide_eq_true hf.2⟩
    have := hf.1
    cases e : K[k].t with
    | false => rfl
    | true => rw [e] at this; cases this
def takenF : Nat → List Sy → List Sy → List Sy
  | 0, out, _ => out
  | _ + 1, out, [] => out
  | f + 1, out, s :: w => match partnerF out s with
    | none => takenF f (out ++ [s]) w
    | some k => match out[k]? with
      | none => out
      | some o => takenF f (out.eraseIdx k) (joinF o s :: w)
theorem shared_comm (s o : Sy) : shared s o = shared o s := by
  unfold shared
  rw [Int.min_comm, Int.max_comm]
theorem mem_erase {α : Type} {l : List α} {k : Nat} {o : α} (h : l[k]? = some o) (x : α) : x ∈ l ↔ x = o ∨ x ∈ l.eraseIdx k := by
  obtain ⟨hk, e⟩ := List.getElem?_eq_some_iff.mp h
  rw [List.eraseIdx_eq_take_drop_succ]
  conv => lhs; rw [← List.take_append_drop k l, List.drop_eq_getElem_cons hk, e]
  rw [List.mem_append, List.mem_append, List.mem_cons]
  constructor
  · rintro (h | h | h)
    · exact .inr (.inl h)
    · exact .inl h
    · exact .inr (.inr h)
  · rintro (h | h | h)
    · exact .inr (.inl h)
    · exact .inl h
    · exact .inr (.inr h)
theorem taken_ok {e : Int} : ∀ (f : Nat) (out w : List Sy), 2 * w.length + out.length ≤ f → (∀ s ∈ out, Ok e s) → (∀ s ∈ w, Ok e s) →
    (∀ s ∈ takenF f out w, Ok e s) ∧ EqR (relL (takenF f out w)) (orR (relL out) (relL w)) ∧ (takenF f out w).length ≤ out.length + w.length
  | 0, out, w, hf, ho, hw => by
    have e0 : w = [] := List.length_eq_zero_iff.mp (by omega)
    subst e0
    refine ⟨ho, .of_iff fun x y => ⟨.inl, fun h => h.elim id fun h => absurd h relL_nil⟩, by show out.length ≤ _; omega⟩
  | f + 1, out, [], hf, ho, hw => ⟨ho, .of_iff fun x y => ⟨.inl, fun h => h.elim id fun h => absurd h relL_nil⟩, by show out.length ≤ _; omega⟩
  | f + 1, out, s :: w, hf, ho, hw => by
    have hs := hw s List.mem_cons_self
    have hw' : ∀ u ∈ w, Ok e u := fun u hu => hw u (List.mem_cons_of_mem _ hu)
    rw [List.length_cons] at hf
    show (∀ u ∈ (match partnerF out s with | none => takenF f (out ++ [s]) w | some k => match out[k]? with | none => out | some o => takenF f (out.eraseIdx k) (joinF o s :: w)), Ok e u) ∧ EqR (relL (match partnerF out s with | none => takenF f (out ++ [s]) w | some k => match out[k]? with | none => out | some o => takenF f (out.eraseIdx k) (joinF o s :: w))) _ ∧ (match partnerF out s with | none => takenF f (out ++ [s]) w | some k => match out[k]? with | none => out | some o => takenF f (out.eraseIdx k) (joinF o s :: w)).length ≤ _
    cases hp : partnerF out s with
    | none =>
      obtain ⟨a, b, c⟩ := taken_ok f (out ++ [s]) w (by rw [List.length_append, List.length_singleton]; omega) (fun u hu => by
        rcases List.mem_append.mp hu with hu | hu
        · exact ho u hu
        · rw [List.mem_singleton.mp hu]; exact hs) hw'
      refine ⟨a, b.trans (.of_iff fun x y => ?_), ?_⟩
      · unfold orR
        rw [relL_append, relL_cons]
        unfold orR
        rw [relL_cons]
        unfold orR
        constructor
        · rintro ((h | h | h) | h)
          · exact .inl h
          · exact .inr (.inl h)
          · exact absurd h relL_nil
          · exact .inr (.inr h)
        · rintro (h | h | h)
          · exact .inl (.inl h)
          · exact .inl (.inr (.inl h))
          · exact .inr h
      · rw [List.length_append, List.length_singleton] at c
        rw [List.length_cons]
        simp only
        omega
    | some k =>
      obtain ⟨ts, o, hk, to, hsh⟩ := partner_some hp
      have hoo := ho o (List.mem_of_getElem? hk)
      have hsh' : lead o + lead s ≤ shared o s := by rw [shared_comm]; omega
      have hkl : k < out.length := (List.getElem?_eq_some_iff.mp hk).1
      have hlen : (out.eraseIdx k).length = out.length - 1 := by rw [List.length_eraseIdx, if_pos hkl]
      simp only [hk]
      obtain ⟨a, b, c⟩ := taken_ok f (out.eraseIdx k) (joinF o s :: w) (by rw [List.length_cons, hlen]; omega) (fun u hu => ho u ((mem_erase hk u).mpr (.inr hu))) (fun u hu => by
        rcases List.mem_cons.mp hu with rfl | hu
        · exact join_ok hoo hs hsh'
        · exact hw' u hu)
      refine ⟨a, b.trans ?_, ?_⟩
      · have j := (join_eq hoo hs to ts hsh').symm
        have e1 : EqR (orR (relL (out.eraseIdx k)) (relL (joinF o s :: w))) (orR (rel (joinF o s)) (orR (relL (out.eraseIdx k)) (relL w))) := .of_iff fun x y => by
          unfold orR; rw [relL_cons]; unfold orR
          constructor
          · rintro (h | h | h)
            · exact .inr (.inl h)
            · exact .inl h
            · exact .inr (.inr h)
          · rintro (h | h | h)
            · exact .inr (.inl h)
            · exact .inl h
            · exact .inr (.inr h)
        refine e1.trans ((j.orl _).trans (.of_iff fun x y => ?_))
        unfold orR
        rw [relL_cons]
        unfold orR
        have em : relL out x y ↔ rel o x y ∨ relL (out.eraseIdx k) x y := by
          unfold relL
          constructor
          · rintro ⟨u, hu, h⟩
            rcases (mem_erase hk u).mp hu with rfl | hu
            · exact .inl h
            · exact .inr ⟨u, hu, h⟩
          · rintro (h | ⟨u, hu, h⟩)
            · exact ⟨o, (mem_erase hk o).mpr (.inl rfl), h⟩
            · exact ⟨u, (mem_erase hk u).mpr (.inr hu), h⟩
        rw [em]
        constructor
        · rintro ((h | h) | h | h)
          · exact .inl (.inl h)
          · exact .inr (.inl h)
          · exact .inl (.inr h)
          · exact .inr (.inr h)
        · rintro ((h | h) | h | h)
          · exact .inl (.inl h)
          · exact .inr (.inl h)
          · exact .inl (.inr h)
          · exact .inr (.inr h)
      · rw [List.length_cons, hlen] at c
        rw [List.length_cons]
        omega
end Rep
namespace Rep
/-! carrying by the leader -/
/-- the places of (st, n) are, by R, those of (st', n), the one way round or the other -/
def Mv (R : Int → Int → Prop) (st st' n : Int) (f : Bool) : Prop := ∀ i, 0 ≤ i → i < n → Eqv R (st + i) (if f = true then st' + n - 1 - i else st' + i)
theorem Mv.id (R : Int → Int → Prop) (st n : Int) : Mv R st st n false := fun i _ _ => by
  rw [if_neg (by decide)]; exact .refl _
theorem carry_eq {R : Int → Int → Prop} {a a' b b' n : Int} {t f g : Bool} (ha : Mv R a a' n f) (hb : Mv R b b' n g) : EqR (orR R (says a b n t)) (orR R (says a' b' n ((t ^^ f) ^^ g))) := by
  refine .more (fun x y h => ?_) (fun x y h => ?_)
  · -- x = a + i
    obtain ⟨i, hi0, hi1, rfl⟩ : ∃ i, 0 ≤ i ∧ i < n ∧ x = a + i := ⟨x - a, by have := h.1; omega, by have := h.2.1; omega, by omega⟩
    have hy : y = b + (if t = true then n - 1 - i else i) := by
      cases t with
      | true => rw [says_t] at h; rw [if_pos rfl]; omega
      | false => rw [says_f] at h; rw [if_neg (by decide)]; omega
    have e1 := (ha i hi0 hi1).mono (S := orR R (says a' b' n ((t ^^ f) ^^ g))) fun _ _ z => .inl z
    have e2 : Eqv (orR R (says a' b' n ((t ^^ f) ^^ g))) y (if g = true then b' + n - 1 - (if t = true then n - 1 - i else i) else b' + (if t = true then n - 1 - i else i)) := by
      rw [hy]
      refine (hb _ ?_ ?_).mono fun _ _ z => .inl z
      · split <;> omega
      · split <;> omega
    refine .trans e1 (.trans (.of (.inr ?_)) (.symm e2))
    cases t <;> cases f <;> cases g <;> simp only [Bool.true_xor, Bool.false_xor, Bool.not_true, Bool.not_false, if_true, if_false, Bool.false_eq_true] <;> first | (rw [says_t]; omega) | (rw [says_f]; omega)
  · obtain ⟨j, hj0, hj1, rfl⟩ : ∃ j, 0 ≤ j ∧ j < n ∧ x = a' + j := ⟨x - a', by have := h.1; omega, by have := h.2.1; omega, by omega⟩
    -- the place of the stretch that was carried there
    have hi : ∃ i, 0 ≤ i ∧ i < n ∧ (if f = true then a' + n - 1 - i else a' + i) = a' + j ∧ (if g = true then b' + n - 1 - (if t = true then n - 1 - i else i) else b' + (if t = true then n - 1 - i else i)) = y := by
      cases f with
      | true =>
        refine ⟨n - 1 - j, by omega, by omega, by rw [if_pos rfl]; omega, ?_⟩
        cases t <;> cases g <;> simp only [Bool.true_xor, Bool.false_xor, Bool.not_true, Bool.not_false, if_true, if_false, Bool.false_eq_true] at h ⊢ <;> first | (rw [says_t] at h; omega) | (rw [says_f] at h; omega)
      | false =>
        refine ⟨j, hj0, hj1, by rw [if_neg (by decide)], ?_⟩
        cases t <;> cases g <;> simp only [Bool.true_xor, Bool.false_xor, Bool.not_true, Bool.not_false, if_true, if_false, Bool.false_eq_true] at h ⊢ <;> first | (rw [says_t] at h; omega) | (rw [says_f] at h; omega)
    obtain ⟨i, h0, h1, ex, ey⟩ := hi
    have e1 := (ha i h0 h1).mono (S := orR R (says a b n t)) fun _ _ z => .inl z
    have e2 : Eqv (orR R (says a b n t)) (b + (if t = true then n - 1 - i else i)) y := by
      rw [← ey]
      refine (hb _ ?_ ?_).mono fun _ _ z => .inl z
      · split <;> omega
      · split <;> omega
    rw [ex] at e1
    refine .trans (.symm e1) (.trans (.of (.inr ?_)) e2)
    cases t with
    | true => rw [says_t, if_pos rfl]; omega
    | false => rw [says_f, if_neg (by decide)]; omega
/-- where a stretch within the leader's high one starts when it is carried -/
def cstart (l : Sy) (st n : Int) : Int := if l.t = true then l.lo + l.hi + l.n - st - n else st - ((st - l.hi) / (l.hi - l.lo) + 1) * (l.hi - l.lo)
theorem mul_le_of {q d x : Int} (hd : 0 < d) : q * d ≤ x ↔ q ≤ x / d := (Int.le_ediv_iff_mul_le hd).symm
theorem div_bounds {x d : Int} (hd : 0 < d) : x / d * d ≤ x ∧ x < (x / d + 1) * d := by
  have h1 := Int.emod_nonneg x (show d ≠ 0 by omega)
  have h2 := Int.emod_lt_of_pos x hd
  have h3 := Int.emod_add_mul_ediv x d
  rw [Int.mul_comm] at h3
  rw [Int.add_mul]
  omega
theorem cstart_mv {e : Int} {l : Sy} (hl : Ok e l) (he : l.hi + l.n = e) {st n : Int} (h1 : l.hi ≤ st) (h2 : st + n ≤ e) (hn : 1 ≤ n) :
    Mv (rel l) st (cstart l st n) n l.t ∧ 0 ≤ cstart l st n ∧ cstart l st n < st := by
  have hlt := hl.lt
  have h0 := hl.lo0
  unfold cstart
  by_cases c : l.t = true
  · rw [if_pos c]
    have hov := hl.ov c
    refine ⟨fun i hi0 hi1 => ?_, by omega, by omega⟩
    rw [if_pos c]
    refine .symm (.of ?_)
    unfold rel
    rw [c, says_t]
    omega
  · rw [if_neg c]
    have c' : l.t = false := by cases e : l.t with | false => rfl | true => exact absurd e c
    have hd : 0 < l.hi - l.lo := by omega
    obtain ⟨b1, b2⟩ := div_bounds (x := st - l.hi) hd
    have hq : 0 ≤ (st - l.hi) / (l.hi - l.lo) := Int.ediv_nonneg (by omega) (by omega)
    have hB := rel_beat c' (R := rel l) fun x y h => .of h
    rw [he] at hB
    have eL : lead l = l.hi - l.lo := rfl
    obtain ⟨k, hk⟩ : ∃ k : Nat, (st - l.hi) / (l.hi - l.lo) + 1 = (k : Int) := ⟨((st - l.hi) / (l.hi - l.lo) + 1).toNat, by omega⟩
    rw [hk] at b2 ⊢
    have b3 : (k : Int) * (l.hi - l.lo) ≤ st - l.hi + (l.hi - l.lo) := by
      rw [← hk, Int.add_mul]
      omega
    have b4 : l.hi - l.lo ≤ (k : Int) * (l.hi - l.lo) := by
      rw [← hk, Int.add_mul]
      have := Int.mul_nonneg hq (show 0 ≤ l.hi - l.lo by omega)
      omega
    refine ⟨fun i hi0 hi1 => ?_, by omega, by omega⟩
    rw [if_neg c]
    have := beat_mul (R := rel l) (t := lead l) hd hB k (st - (k : Int) * (l.hi - l.lo) + i) (by omega) (by rw [eL]; omega)
    rw [eL, show st - (k : Int) * (l.hi - l.lo) + i + (k : Int) * (l.hi - l.lo) = st + i by omega] at this
    exact .symm this
/-- a saying, each of its stretches carried that lies within the leader's high one: not yet as it is kept -/
def carryF (l s : Sy) : Int × Int × Int × Bool :=
  (if l.hi ≤ s.lo then cstart l s.lo s.n else s.lo, if l.hi ≤ s.hi then cstart l s.hi s.n else s.hi, s.n, (s.t ^^ (decide (l.hi ≤ s.lo) && l.t)) ^^ (decide (l.hi ≤ s.hi) && l.t))
def saysQ (q : Int × Int × Int × Bool) (x y : Int) : Prop := says q.1 q.2.1 q.2.2.1 q.2.2.2 x y
theorem carryF_ok {e : Int} {l s : Sy} (hl : Ok e l) (he : l.hi + l.n = e) (hs : Ok e s) (hh : l.hi ≤ s.hi) :
    EqR (orR (rel l) (rel s)) (orR (rel l) (saysQ (carryF l s))) ∧ 0 ≤ (carryF l s).1 ∧ 0 ≤ (carryF l s).2.1 ∧ (carryF l s).1 + s.n < e ∧ (carryF l s).2.1 + s.n < e := by
  have a1 := hs.lo0
  have a2 := hs.lt
  have a3 := hs.n1
  have a4 := hs.le
  obtain ⟨m2, c2, d2⟩ := cstart_mv hl he hh a4 a3
  have eh : (if l.hi ≤ s.hi then cstart l s.hi s.n else s.hi) = cstart l s.hi s.n := if_pos hh
  have fh : (decide (l.hi ≤ s.hi) && l.t) = l.t := by rw [decide_eq_true hh]; rfl
  unfold carryF saysQ
  simp only [eh, fh]
  by_cases c : l.hi ≤ s.lo
  · obtain ⟨m1, c1, d1⟩ := cstart_mv hl he c (show s.lo + s.n ≤ e by omega) a3
    rw [if_pos c, decide_eq_true c]
    simp only [Bool.true_and]
    exact ⟨carry_eq m1 m2, c1, c2, by omega, by omega⟩
  · rw [if_neg c, decide_eq_false c]
    simp only [Bool.false_and]
    exact ⟨carry_eq (Mv.id _ _ _) m2, a1, c2, by omega, by omega⟩
/-! the cut -/
structure Ct where
  lo : Int
  be : Int
  by_ : Int
  t : Bool
def led (c : Ct) (x : Int) : Int := if c.t = true then c.by_ - x else x - ((x - c.lo) / c.by_ + 1) * c.by_
def link (c : Ct) (x y : Int) : Prop := 0 < c.by_ ∧ c.lo ≤ x ∧ x < c.be ∧ y = led c x
def shortF (l : Sy) (e' : Int) : Int × Int × Int × Bool := if l.t = true then (l.lo + (l.hi + l.n - e'), l.hi, l.n - (l.hi + l.n - e'), true) else (l.lo, l.hi, l.n - (l.hi + l.n - e'), false)
def cutF (l : Sy) (e' : Int) : Ct := ⟨e', l.hi + l.n, if l.t = true then l.lo + l.hi + l.n - 1 else l.hi - l.lo, l.t⟩
theorem cut_by_pos {e : Int} {l : Sy} (hl : Ok e l) (e' : Int) : 0 < (cutF l e').by_ := by
  have := hl.lt
  have := hl.lo0
  have := hl.n1
  unfold cutF
  show 0 < if l.t = true then _ else _
  split <;> omega
theorem cut_led {e e' : Int} {l : Sy} (hl : Ok e l) (h1 : l.hi ≤ e') {x : Int} (hx : e' ≤ x) (hb : x < l.hi + l.n) : 0 ≤ led (cutF l e') x ∧ led (cutF l e') x < e' ∧ Eqv (rel l) x (led (cutF l e') x) := by
  have hlt := hl.lt
  have h0 := hl.lo0
  unfold led cutF
  by_cases c : l.t = true
  · simp only [if_pos c]
    have hov := hl.ov c
    refine ⟨by omega, by omega, .symm (.of ?_)⟩
    unfold rel
    rw [c, says_t]
    omega
  · simp only [if_neg c]
    have c' : l.t = false := by cases e : l.t with | false => rfl | true => exact absurd e c
    have hd : 0 < l.hi - l.lo := by omega
    obtain ⟨b1, b2⟩ := div_bounds (x := x - e') hd
    have hq : 0 ≤ (x - e') / (l.hi - l.lo) := Int.ediv_nonneg (by omega) (by omega)
    have hB := rel_beat c' (R := rel l) fun x y h => .of h
    have eL : lead l = l.hi - l.lo := rfl
    obtain ⟨k, hk⟩ : ∃ k : Nat, (x - e') / (l.hi - l.lo) + 1 = (k : Int) := ⟨((x - e') / (l.hi - l.lo) + 1).toNat, by omega⟩
    rw [hk] at b2 ⊢
    have b3 : (k : Int) * (l.hi - l.lo) ≤ x - e' + (l.hi - l.lo) := by
      rw [← hk, Int.add_mul]
      omega
    refine ⟨by omega, by omega, ?_⟩
    have := beat_mul (R := rel l) (t := lead l) hd hB k (x - (k : Int) * (l.hi - l.lo)) (by omega) (by rw [eL]; omega)
    rw [eL, show x - (k : Int) * (l.hi - l.lo) + (k : Int) * (l.hi - l.lo) = x by omega] at this
    exact .symm this
theorem cut_eq {e e' : Int} {l : Sy} (hl : Ok e l) (h1 : l.hi ≤ e') (h2 : e' ≤ l.hi + l.n) : EqR (rel l) (orR (saysQ (shortF l e')) (link (cutF l e'))) := by
  have hlt := hl.lt
  have h0 := hl.lo0
  refine ⟨fun x y h => ?_, fun x y h => ?_⟩
  · by_cases c : l.t = true
    · have hs : saysQ (shortF l e') = says (l.lo + (l.hi + l.n - e')) l.hi (l.n - (l.hi + l.n - e')) true := by unfold saysQ shortF; rw [if_pos c]
      have hov := hl.ov c
      unfold rel at h
      rw [c, says_t] at h
      by_cases d : y < e'
      · refine .of (.inl ?_)
        rw [hs, says_t]
        omega
      · refine .symm (.of (.inr ⟨cut_by_pos hl e', ?_, ?_, ?_⟩))
        · show e' ≤ y; omega
        · show y < l.hi + l.n; omega
        · unfold led cutF
          simp only [if_pos c]
          omega
    · have c' : l.t = false := by cases e : l.t with | false => rfl | true => exact absurd e c
      have hs : saysQ (shortF l e') = says l.lo l.hi (l.n - (l.hi + l.n - e')) false := by unfold saysQ shortF; rw [if_neg c]
      have h := (rel_straight c').mp h
      have eL : lead l = l.hi - l.lo := rfl
      rw [eL] at h
      have hd : 0 < l.hi - l.lo := by omega
      by_cases d : y < e'
      · refine .of (.inl ?_)
        rw [hs, says_f]
        omega
      · have hy : Eqv (orR (saysQ (shortF l e')) (link (cutF l e'))) y (led (cutF l e') y) := .of (.inr ⟨cut_by_pos hl e', by show e' ≤ y; omega, by show y < l.hi + l.n; omega, rfl⟩)
        have ly : led (cutF l e') y = y - ((y - e') / (l.hi - l.lo) + 1) * (l.hi - l.lo) := by
          unfold led cutF; simp only [if_neg c]
        by_cases g : x < e'
        · have e0 : (y - e') / (l.hi - l.lo) = 0 := Int.ediv_eq_zero_of_lt (by omega) (by omega)
          rw [ly, e0] at hy
          rw [show y - (0 + 1) * (l.hi - l.lo) = x by omega] at hy
          exact .symm hy
        · have hx : Eqv (orR (saysQ (shortF l e')) (link (cutF l e'))) x (led (cutF l e') x) := .of (.inr ⟨cut_by_pos hl e', by show e' ≤ x; omega, by show x < l.hi + l.n; omega, rfl⟩)
          have lx : led (cutF l e') x = x - ((x - e') / (l.hi - l.lo) + 1) * (l.hi - l.lo) := by
            unfold led cutF; simp only [if_neg c]
          have e0 : (y - e') / (l.hi - l.lo) = (x - e') / (l.hi - l.lo) + 1 := by
            have : y - e' = (x - e') + (l.hi - l.lo) := by omega
            rw [this, Int.add_ediv_of_dvd_right (Int.dvd_refl _), Int.ediv_self (by omega)]
          have ee : led (cutF l e') y = led (cutF l e') x := by
            rw [ly, lx, e0, Int.add_mul, Int.add_mul]
            omega
          rw [ee] at hy
          exact .trans hx (.symm hy)
  · rcases h with h | h
    · by_cases c : l.t = true
      · have hs : saysQ (shortF l e') = says (l.lo + (l.hi + l.n - e')) l.hi (l.n - (l.hi + l.n - e')) true := by unfold saysQ shortF; rw [if_pos c]
        rw [hs, says_t] at h
        refine .of ?_
        unfold rel
        rw [c, says_t]
        omega
      · have c' : l.t = false := by cases e : l.t with | false => rfl | true => exact absurd e c
        have hs : saysQ (shortF l e') = says l.lo l.hi (l.n - (l.hi + l.n - e')) false := by unfold saysQ shortF; rw [if_neg c]
        rw [hs, says_f] at h
        refine .of ?_
        unfold rel
        rw [c', says_f]
        omega
    · obtain ⟨_, hx, hb, rfl⟩ := h
      exact (cut_led hl h1 hx hb).2.2
/-! following -/
def fOf : List Ct → Int → Int
  | [], x => x
  | c :: r, x => if c.lo ≤ x then (if 0 < c.by_ then fOf r (led c x) else x) else fOf r x
/-- what the cuts of a song below e are to the sayings that are left: told from the song's end -/
inductive Stg : Int → List Sy → List Ct → Prop
  | nil {K : List Sy} : (∀ s ∈ K, Ok 0 s) → Stg 0 K []
  | free {e e' : Int} {K : List Sy} {C : List Ct} : 0 ≤ e' → e' < e → (∀ s ∈ K, Ok e' s) → Stg e' K C → Stg e K (⟨e', e, 0, false⟩ :: C)
  | led {e e' : Int} {K K' : List Sy} {c : Ct} {C : List Ct} : 0 ≤ e' → e' < e → (∀ s ∈ K, Ok e s) → (∀ s ∈ K', Ok e' s) → c.lo = e' → c.be = e → 0 < c.by_ → (∀ x, e' ≤ x → x < e → 0 ≤ led c x ∧ led c x < e') →
      EqR (relL K) (orR (relL K') (link c)) → Stg e' K' C → Stg e K (c :: C)
theorem Ok.both {e : Int} {s : Sy} (h : Ok e s) {x y : Int} (r : rel s x y) : (0 ≤ x ∧ x < e) ∧ 0 ≤ y ∧ y < e := by
  have a1 := h.lo0
  have a2 := h.lt
  have a4 := h.le
  unfold rel at r
  cases c : s.t with
  | true => rw [c, says_t] at r; omega
  | false => rw [c, says_f] at r; omega
theorem fOf_ok {e : Int} {K : List Sy} {C : List Ct} (h : Stg e K C) :
    (∀ x, 0 ≤ x → x < e → 0 ≤ fOf C x ∧ fOf C x ≤ x ∧ Eqv (relL K) x (fOf C x)) ∧ ∀ x y, Eqv (relL K) x y → (x = y ∨ (0 ≤ x ∧ x < e ∧ 0 ≤ y ∧ y < e ∧ fOf C x = fOf C y)) := by
  -- a relation within [0, e) that f keeps is kept along any number of steps
  have along : ∀ {R : Int → Int → Prop} {e : Int} {F : Int → Int}, (∀ x y, R x y → 0 ≤ x ∧ x < e ∧ 0 ≤ y ∧ y < e ∧ F x = F y) → ∀ x y, Eqv R x y → (x = y ∨ (0 ≤ x ∧ x < e ∧ 0 ≤ y ∧ y < e ∧ F x = F y)) := by
    intro R e F hR x y h
    induction h with
    | refl x => exact .inl rfl
    | of r => exact .inr (hR _ _ r)
    | symm _ ih =>
      rcases ih with e | ⟨a, b, c, d, e⟩
      · exact .inl e.symm
      · exact .inr ⟨c, d, a, b, e.symm⟩
    | trans _ _ i1 i2 =>
      rcases i1 with e1 | ⟨a, b, c, d, e1⟩
      · rw [e1]; exact i2
      · rcases i2 with e2 | ⟨_, _, c', d', e2⟩
        · rw [← e2]; exact .inr ⟨a, b, c, d, e1⟩
        · exact .inr ⟨a, b, c', d', e1.trans e2⟩
  induction h with
  | nil hK =>
    refine ⟨fun x h0 h1 => by omega, along fun x y ⟨s, hs, r⟩ => ?_⟩
    have := (hK s hs).both r
    omega
  | @free e e' K C h0 h1 hK _ ih =>
    obtain ⟨i1, i2⟩ := ih
    have f1 : ∀ x, e' ≤ x → fOf (⟨e', e, 0, false⟩ :: C) x = x := fun x hx => by
      show (if e' ≤ x then (if (0 : Int) < 0 then _ else x) else _) = x
      rw [if_pos hx, if_neg (by decide)]
    have f2 : ∀ x, x < e' → fOf (⟨e', e, 0, false⟩ :: C) x = fOf C x := fun x hx => by
      show (if e' ≤ x then _ else fOf C x) = _
      rw [if_neg (by omega)]
    refine ⟨fun x hx hb => ?_, along fun x y ⟨s, hs, r⟩ => ?_⟩
    · by_cases c : e' ≤ x
      · rw [f1 x c]; exact ⟨hx, Int.le_refl _, .refl x⟩
      · rw [f2 x (by omega)]; exact i1 x hx (by omega)
    · have hb := (hK s hs).both r
      refine ⟨hb.1.1, by omega, hb.2.1, by omega, ?_⟩
      rw [f2 x (by omega), f2 y (by omega)]
      rcases i2 x y (.of ⟨s, hs, r⟩) with e | e
      · rw [e]
      · exact e.2.2.2.2
  | @led e e' K K' c C h0 h1 hK hK' hlo hbe hby hled heq _ ih =>
    obtain ⟨i1, i2⟩ := ih
    have f1 : ∀ x, e' ≤ x → fOf (c :: C) x = fOf C (led c x) := fun x hx => by
      show (if c.lo ≤ x then (if 0 < c.by_ then _ else x) else _) = _
      rw [hlo, if_pos hx, if_pos hby]
    have f2 : ∀ x, x < e' → fOf (c :: C) x = fOf C x := fun x hx => by
      show (if c.lo ≤ x then _ else fOf C x) = _
      rw [hlo, if_neg (by omega)]
    have up : ∀ {x y}, Eqv (relL K') x y → Eqv (relL K) x y := fun {x y} h => heq.iff.mpr (h.mono fun _ _ z => .inl z)
    refine ⟨fun x hx hb => ?_, fun x y h => ?_⟩
    · by_cases d : e' ≤ x
      · obtain ⟨l0, l1⟩ := hled x d hb
        obtain ⟨a, b, g⟩ := i1 _ l0 l1
        rw [f1 x d]
        refine ⟨a, by omega, .trans (heq.iff.mpr (.of (.inr ⟨hby, by rw [hlo]; exact d, by rw [hbe]; exact hb, rfl⟩))) (up g)⟩
      · rw [f2 x (by omega)]
        obtain ⟨a, b, g⟩ := i1 x hx (by omega)
        exact ⟨a, b, up g⟩
    · refine along (R := orR (relL K') (link c)) (fun x y r => ?_) x y (heq.iff.mp h)
      rcases r with ⟨s, hs, r⟩ | ⟨_, hx, hb, rfl⟩
      · have hb := (hK' s hs).both r
        refine ⟨hb.1.1, by omega, hb.2.1, by omega, ?_⟩
        rw [f2 x (by omega), f2 y (by omega)]
        rcases i2 x y (.of ⟨s, hs, r⟩) with e | e
        · rw [e]
        · exact e.2.2.2.2
      · rw [hlo] at hx
        rw [hbe] at hb
        obtain ⟨l0, l1⟩ := hled x hx hb
        refine ⟨by omega, hb, l0, by omega, ?_⟩
        rw [f1 x hx, f2 _ l1]
/-- so what is come to is the least place alike -/
theorem fOf_least {e : Int} {K : List Sy} {C : List Ct} (h : Stg e K C) {x y : Int} (hx : 0 ≤ x) (hb : x < e) (hy : Eqv (relL K) x y) : fOf C x ≤ y := by
  obtain ⟨a, b⟩ := fOf_ok h
  rcases b x y hy with e | ⟨_, _, c, d, e⟩
  · rw [← e]; exact (a x hx hb).2.1
  · rw [e]; exact (a y c d).2.1
end Rep
namespace Rep
/-! the whole reckoning -/
def keptL (qs : List (Int × Int × Int × Bool)) : List Sy := qs.filterMap fun q => keptF q.1 q.2.1 q.2.2.1 q.2.2.2
def relQ (qs : List (Int × Int × Int × Bool)) (x y : Int) : Prop := ∃ q ∈ qs, saysQ q x y
theorem keptL_eq (qs : List (Int × Int × Int × Bool)) : EqR (relQ qs) (relL (keptL qs)) := by
  refine ⟨fun x y ⟨q, hq, h⟩ => ?_, fun x y ⟨s, hs, h⟩ => ?_⟩
  · refine ((kept_eq (a := q.1) (b := q.2.1) (n := q.2.2.1) (t := q.2.2.2)).1 x y h).mono fun x y ⟨s, e, r⟩ => ⟨s, ?_, r⟩
    exact List.mem_filterMap.mpr ⟨q, hq, e⟩
  · obtain ⟨q, hq, e⟩ := List.mem_filterMap.mp hs
    exact ((kept_eq (a := q.1) (b := q.2.1) (n := q.2.2.1) (t := q.2.2.2)).2 x y ⟨s, e, h⟩).mono fun x y r => ⟨q, hq, r⟩
def gE (K : List Sy) : Int := K.foldl (fun a s => max a (s.hi + s.n)) 0
theorem gE_fold : ∀ (K : List Sy) (a : Int), a ≤ K.foldl (fun a s => max a (s.hi + s.n)) a ∧ (∀ s ∈ K, s.hi + s.n ≤ K.foldl (fun a s => max a (s.hi + s.n)) a) ∧ ∀ e, a < e → (∀ s ∈ K, s.hi + s.n < e) → K.foldl (fun a s => max a (s.hi + s.n)) a < e
  | [], a => ⟨Int.le_refl _, fun s h => (by cases h), fun e h _ => h⟩
  | s :: K, a => by
    obtain ⟨h1, h2, h3⟩ := gE_fold K (max a (s.hi + s.n))
    refine ⟨?_, fun u hu => ?_, fun e ha hK => ?_⟩
    · show a ≤ K.foldl _ (max a (s.hi + s.n)); omega
    · show u.hi + u.n ≤ K.foldl _ (max a (s.hi + s.n))
      rcases List.mem_cons.mp hu with rfl | hu
      · omega
      · exact h2 u hu
    · refine h3 e ?_ fun u hu => hK u (List.mem_cons_of_mem _ hu)
      have := hK s List.mem_cons_self
      omega
theorem gE_nonneg (K : List Sy) : 0 ≤ gE K := (gE_fold K 0).1
theorem gE_ge {K : List Sy} {s : Sy} (h : s ∈ K) : s.hi + s.n ≤ gE K := (gE_fold K 0).2.1 s h
theorem gE_lt {K : List Sy} {e : Int} (h0 : 0 < e) (h : ∀ s ∈ K, s.hi + s.n < e) : gE K < e := (gE_fold K 0).2.2 e h0 h
/-- ends later, or as late with longer stretches -/
def better (a b : Sy) : Bool := decide (b.hi + b.n < a.hi + a.n ∨ (b.hi + b.n = a.hi + a.n ∧ b.n < a.n))
def bestF (s : Sy) (K : List Sy) : Sy := K.foldl (fun b s => if better s b = true then s else b) s
theorem best_ok : ∀ (K : List Sy) (s : Sy), bestF s K ∈ s :: K ∧ ∀ u ∈ s :: K, better u (bestF s K) = false
  | [], s => ⟨List.mem_cons_self, fun u hu => by
    have e : u = s := List.mem_singleton.mp hu
    rw [e]
    show better s s = false
    unfold better
    exact decide_eq_false (by omega)⟩
  | v :: K, s => by
    show (K.foldl _ (if better v s = true then v else s)) ∈ _ ∧ ∀ u ∈ _, better u (K.foldl _ (if better v s = true then v else s)) = false
    have hv : ∀ u, u = s ∨ u = v → better u (if better v s = true then v else s) = false := by
      intro u hu
      unfold better
      by_cases c : v.hi + v.n > s.hi + s.n ∨ (s.hi + s.n = v.hi + v.n ∧ s.n < v.n)
      · rw [if_pos (decide_eq_true (by omega))]
        rcases hu with rfl | rfl
        · exact decide_eq_false (by omega)
        · exact decide_eq_false (by omega)
      · rw [if_neg (fun z => c (by have := of_decide_eq_true z; omega))]
        rcases hu with rfl | rfl
        · exact decide_eq_false (by omega)
        · exact decide_eq_false (by omega)
    obtain ⟨a, b⟩ := best_ok K (if better v s = true then v else s)
    unfold bestF at a b
    refine ⟨?_, fun u hu => ?_⟩
    · rcases List.mem_cons.mp a with a | a
      · rw [a]
        by_cases c : better v s = true
        · rw [if_pos c]; exact List.mem_cons_of_mem _ List.mem_cons_self
        · rw [if_neg c]; exact List.mem_cons_self
      · exact List.mem_cons_of_mem _ (List.mem_cons_of_mem _ a)
    · rcases List.mem_cons.mp hu with h | hu
      · have h1 := hv u (.inl h)
        have h2 := b _ List.mem_cons_self
        unfold better at *
        have h1 := of_decide_eq_false h1
        have h2 := of_decide_eq_false h2
        exact decide_eq_false (by omega)
      · rcases List.mem_cons.mp hu with h | hu
        · have h1 := hv u (.inr h)
          have h2 := b _ List.mem_cons_self
          unfold better at *
          have h1 := of_decide_eq_false h1
          have h2 := of_decide_eq_false h2
          exact decide_eq_false (by omega)
        · exact b u (List.mem_cons_of_mem _ hu)
def leadF : List Sy → Option Sy
  | [] => none
  | s :: K => some (bestF s K)
/-- what is left behind the leader's cut, and where the song ends then -/
def stillF (l : Sy) (O : List Sy) : List Sy := O.filter fun s => decide (s.hi < l.hi)
def freshF (l : Sy) (O : List Sy) : List Sy := keptL ((O.filter fun s => decide (l.hi ≤ s.hi)).map (carryF l))
def endF (l : Sy) (O : List Sy) : Int := max (max l.hi (gE (stillF l O))) (gE (freshF l O))
def nextF (l : Sy) (O : List Sy) : List Sy :=
  let fr := freshF l O ++ keptL [shortF l (endF l O)]
  takenF (2 * fr.length + (stillF l O).length) (stillF l O) fr.reverse
structure Leads (e : Int) (l : Sy) (O : List Sy) : Prop where
  ok : Ok e l
  en : l.hi + l.n = e
  oth : ∀ s ∈ O, Ok e s
  best : ∀ s ∈ O, better s l = false
theorem Leads.still {e : Int} {l : Sy} {O : List Sy} (h : Leads e l O) : ∀ s ∈ stillF l O, Ok e s ∧ s.hi + s.n < e := by
  intro s hs
  obtain ⟨h1, h2⟩ := List.mem_filter.mp hs
  have h2 := of_decide_eq_true h2
  have h3 := h.oth s h1
  have h4 := of_decide_eq_false (h.best s h1)
  have h5 := h3.le
  have h6 := h.en
  exact ⟨h3, by omega⟩
theorem Leads.fresh {e : Int} {l : Sy} {O : List Sy} (h : Leads e l O) : ∀ s ∈ freshF l O, Ok e s ∧ s.hi + s.n < e := by
  intro s hs
  obtain ⟨q, hq, e1⟩ := List.mem_filterMap.mp hs
  obtain ⟨u, hu, rfl⟩ := List.mem_map.mp hq
  obtain ⟨h1, h2⟩ := List.mem_filter.mp hu
  have h2 := of_decide_eq_true h2
  obtain ⟨_, c1, c2, c3, c4⟩ := carryF_ok h.ok h.en (h.oth u h1) h2
  have en : (carryF l u).2.2.1 = u.n := rfl
  rw [en] at e1
  obtain ⟨k1, k2⟩ := kept_ok c1 c2 (show (carryF l u).1 + u.n ≤ e by omega) (show (carryF l u).2.1 + u.n ≤ e by omega) e1
  exact ⟨k1, by omega⟩
theorem Leads.end_ {e : Int} {l : Sy} {O : List Sy} (h : Leads e l O) : l.hi ≤ endF l O ∧ endF l O < e := by
  have h1 := h.ok.lo0
  have h2 := h.ok.lt
  have h3 := h.ok.n1
  have h4 := h.en
  have g1 := gE_lt (K := stillF l O) (e := e) (by omega) fun s hs => (h.still s hs).2
  have g2 := gE_lt (K := freshF l O) (e := e) (by omega) fun s hs => (h.fresh s hs).2
  unfold endF
  omega
theorem Leads.stage {e : Int} {l : Sy} {O : List Sy} (h : Leads e l O) :
    (∀ s ∈ nextF l O, Ok (endF l O) s) ∧ EqR (orR (rel l) (relL O)) (orR (relL (nextF l O)) (link (cutF l (endF l O)))) ∧ (nextF l O).length ≤ O.length + 1 := by
  obtain ⟨e1, e2⟩ := h.end_
  have en := h.en
  have l0 := h.ok.lo0
  have l1 := h.ok.lt
  have l2 := h.ok.n1
  -- the shortened leader
  have hsh : ∀ s ∈ keptL [shortF l (endF l O)], Ok (endF l O) s := fun s hs => by
    obtain ⟨q, hq, k⟩ := List.mem_filterMap.mp hs
    have eq_ : q = shortF l (endF l O) := List.mem_singleton.mp hq
    subst eq_
    by_cases c : l.t = true
    · have es : shortF l (endF l O) = (l.lo + (l.hi + l.n - endF l O), l.hi, l.n - (l.hi + l.n - endF l O), true) := if_pos c
      rw [es] at k
      have hov := h.ok.ov c
      exact (kept_ok (by show 0 ≤ l.lo + (l.hi + l.n - endF l O); omega) (by show 0 ≤ l.hi; omega) (by show l.lo + (l.hi + l.n - endF l O) + (l.n - (l.hi + l.n - endF l O)) ≤ endF l O; omega) (by show l.hi + (l.n - (l.hi + l.n - endF l O)) ≤ endF l O; omega) k).1
    · have es : shortF l (endF l O) = (l.lo, l.hi, l.n - (l.hi + l.n - endF l O), false) := if_neg c
      rw [es] at k
      exact (kept_ok (by show 0 ≤ l.lo; omega) (by show 0 ≤ l.hi; omega) (by show l.lo + (l.n - (l.hi + l.n - endF l O)) ≤ endF l O; omega) (by show l.hi + (l.n - (l.hi + l.n - endF l O)) ≤ endF l O; omega) k).1
  have hst : ∀ s ∈ stillF l O, Ok (endF l O) s := fun s hs => (h.still s hs).1.mono (by have := gE_ge hs; unfold endF; omega)
  have hfr : ∀ s ∈ freshF l O, Ok (endF l O) s := fun s hs => (h.fresh s hs).1.mono (by have := gE_ge hs; unfold endF; omega)
  have hw : ∀ s ∈ (freshF l O ++ keptL [shortF l (endF l O)]).reverse, Ok (endF l O) s := fun s hs => by
    rcases List.mem_append.mp (List.mem_reverse.mp hs) with hs | hs
    · exact hfr s hs
    · exact hsh s hs
  obtain ⟨t1, t2, t3⟩ := taken_ok (e := endF l O) (2 * (freshF l O ++ keptL [shortF l (endF l O)]).length + (stillF l O).length) (stillF l O) (freshF l O ++ keptL [shortF l (endF l O)]).reverse (by rw [List.length_reverse]; omega) hst hw
  refine ⟨t1, ?_, ?_⟩
  · -- the others, carried
    have c1 : EqR (orR (rel l) (relL O)) (orR (rel l) (orR (relL (stillF l O)) (relQ ((O.filter fun s => decide (l.hi ≤ s.hi)).map (carryF l))))) := by
      refine .more (fun x y ⟨s, hs, r⟩ => ?_) (fun x y r => ?_)
      · by_cases c : l.hi ≤ s.hi
        · refine ((carryF_ok h.ok en (h.oth s hs) c).1.to x y (.inr r)).mono fun x y z => ?_
          rcases z with z | z
          · exact .inl z
          · exact .inr (.inr ⟨_, List.mem_map.mpr ⟨s, List.mem_filter.mpr ⟨hs, decide_eq_true c⟩, rfl⟩, z⟩)
        · exact .of (.inr (.inl ⟨s, List.mem_filter.mpr ⟨hs, decide_eq_true (by omega)⟩, r⟩))
      · rcases r with ⟨s, hs, r⟩ | ⟨q, hq, r⟩
        · exact .of (.inr ⟨s, (List.mem_filter.mp hs).1, r⟩)
        · obtain ⟨s, hs, rfl⟩ := List.mem_map.mp hq
          obtain ⟨h1, h2⟩ := List.mem_filter.mp hs
          refine ((carryF_ok h.ok en (h.oth s h1) (of_decide_eq_true h2)).1.back x y (.inr r)).mono fun x y z => ?_
          rcases z with z | z
          · exact .inl z
          · exact .inr ⟨s, h1, z⟩
    have c2 : EqR (relQ ((O.filter fun s => decide (l.hi ≤ s.hi)).map (carryF l))) (relL (freshF l O)) := keptL_eq _
    have c3 : EqR (rel l) (orR (relL (keptL [shortF l (endF l O)])) (link (cutF l (endF l O)))) := by
      refine (cut_eq h.ok e1 (by omega)).trans (EqR.orl _ ?_)
      refine EqR.trans (.of_iff fun x y => ?_) (keptL_eq [shortF l (endF l O)])
      constructor
      · intro r; exact ⟨_, List.mem_singleton.mpr rfl, r⟩
      · rintro ⟨q, hq, r⟩
        rw [List.mem_singleton.mp hq] at r
        exact r
    refine (c1.trans (((c2.orr _).orr _).trans (c3.orl _))).trans ?_
    refine EqR.trans (.of_iff fun x y => ?_) (EqR.orl _ (t2.symm))
    unfold orR
    have em : relL (freshF l O ++ keptL [shortF l (endF l O)]).reverse x y ↔ relL (freshF l O) x y ∨ relL (keptL [shortF l (endF l O)]) x y := by
      have e0 : relL (freshF l O ++ keptL [shortF l (endF l O)]).reverse x y ↔ relL (freshF l O ++ keptL [shortF l (endF l O)]) x y :=
        ⟨fun ⟨s, hs, r⟩ => ⟨s, List.mem_reverse.mp hs, r⟩, fun ⟨s, hs, r⟩ => ⟨s, List.mem_reverse.mpr hs, r⟩⟩
      rw [e0, relL_append]
      rfl
    rw [em]
    constructor
    · rintro ((h | h) | h | h)
      · exact .inl (.inr (.inr h))
      · exact .inr h
      · exact .inl (.inl h)
      · exact .inl (.inr (.inl h))
    · rintro ((h | h | h) | h)
      · exact .inr (.inl h)
      · exact .inr (.inr h)
      · exact .inl (.inl h)
      · exact .inl (.inr h)
  · refine Nat.le_trans t3 ?_
    rw [List.length_reverse, List.length_append]
    have f1 : (freshF l O).length ≤ (O.filter fun s => decide (l.hi ≤ s.hi)).length := by
      unfold freshF keptL
      refine Nat.le_trans (List.length_filterMap_le _ _) ?_
      rw [List.length_map]
      exact Nat.le_refl _
    have f2 : (keptL [shortF l (endF l O)]).length ≤ 1 := List.length_filterMap_le _ _
    have f3 : (stillF l O).length + (O.filter fun s => decide (l.hi ≤ s.hi)).length = O.length := by
      unfold stillF
      clear t1 t2 t3 hw hfr hst hsh f1 f2 h en e1 e2
      induction O with
      | nil => rfl
      | cons s O ih =>
        by_cases c : s.hi < l.hi
        · have e1 : (s :: O).filter (fun s => decide (s.hi < l.hi)) = s :: O.filter (fun s => decide (s.hi < l.hi)) := by simp [c]
          have e2 : (s :: O).filter (fun s => decide (l.hi ≤ s.hi)) = O.filter (fun s => decide (l.hi ≤ s.hi)) := by
            have c' : ¬ l.hi ≤ s.hi := by omega
            simp [c']
          rw [e1, e2, List.length_cons, List.length_cons]
          omega
        · have e1 : (s :: O).filter (fun s => decide (s.hi < l.hi)) = O.filter (fun s => decide (s.hi < l.hi)) := by simp [c]
          have e2 : (s :: O).filter (fun s => decide (l.hi ≤ s.hi)) = s :: O.filter (fun s => decide (l.hi ≤ s.hi)) := by
            have c' : l.hi ≤ s.hi := by omega
            simp [c']
          rw [e1, e2, List.length_cons, List.length_cons]
          omega
    omega
/-- one cut of what is left -/
def cutBy (K : List Sy) : Option (Ct × List Sy) := match leadF K with
  | none => none
  | some l => some (cutF l (endF l (K.erase l)), nextF l (K.erase l))
theorem lead_leads {e : Int} {K : List Sy} {l : Sy} (hK : ∀ s ∈ K, Ok e s) (he : e ≤ gE K) (h0 : 0 < e) (hl : leadF K = some l) : Leads e l (K.erase l) ∧ l ∈ K := by
  cases K with
  | nil => cases hl
  | cons s K =>
    cases hl
    obtain ⟨a, b⟩ := best_ok K s
    refine ⟨⟨hK _ a, ?_, fun u hu => hK u (List.mem_of_mem_erase hu), fun u hu => b u (List.mem_of_mem_erase hu)⟩, a⟩
    -- it ends last
    have h1 := (hK _ a).le
    by_cases c : (bestF s K).hi + (bestF s K).n < e
    · have : gE (s :: K) < e := gE_lt h0 fun u hu => by
        have := of_decide_eq_false (b u hu)
        omega
      omega
    · omega
theorem lead_some {K : List Sy} (h : 0 < gE K) : ∃ l, leadF K = some l := by
  cases K with
  | nil => exact absurd h (by decide)
  | cons s K => exact ⟨_, rfl⟩
theorem relL_erase {K : List Sy} {l : Sy} (h : l ∈ K) : EqR (relL K) (orR (rel l) (relL (K.erase l))) := .of_iff fun x y => by
  constructor
  · rintro ⟨s, hs, r⟩
    by_cases c : s = l
    · subst c; exact .inl r
    · exact .inr ⟨s, (List.mem_erase_of_ne c).mpr hs, r⟩
  · rintro (r | ⟨s, hs, r⟩)
    · exact ⟨l, h, r⟩
    · exact ⟨s, List.mem_of_mem_erase hs, r⟩
/-- all cuts, from the song's end -/
def cutsF : Nat → Int → List Sy → List Ct
  | 0, _, _ => []
  | f + 1, e, K => if e ≤ 0 then [] else if gE K < e then ⟨gE K, e, 0, false⟩ :: cutsF f (gE K) K else match cutBy K with
    | none => []
    | some (c, K') => c :: cutsF f c.lo K'
theorem cuts_stg : ∀ (f : Nat) (e : Int) (K : List Sy), e ≤ (f : Int) → 0 ≤ e → (∀ s ∈ K, Ok e s) → Stg e K (cutsF f e K)
  | 0, e, K, hf, h0, hK => by
    have e0 : e = 0 := by omega
    subst e0
    exact .nil hK
  | f + 1, e, K, hf, h0, hK => by
    show Stg e K (if e ≤ 0 then [] else if gE K < e then ⟨gE K, e, 0, false⟩ :: cutsF f (gE K) K else match cutBy K with | none => [] | some (c, K') => c :: cutsF f c.lo K')
    by_cases c : e ≤ 0
    · have e0 : e = 0 := by omega
      subst e0
      rw [if_pos c]
      exact .nil hK
    · rw [if_neg c]
      by_cases d : gE K < e
      · rw [if_pos d]
        have hK' : ∀ s ∈ K, Ok (gE K) s := fun s hs => (hK s hs).mono (gE_ge hs)
        exact .free (gE_nonneg K) d hK' (cuts_stg f (gE K) K (by omega) (gE_nonneg K) hK')
      · rw [if_neg d]
        obtain ⟨l, hl⟩ := lead_some (K := K) (by omega)
        obtain ⟨L, hm⟩ := lead_leads hK (by omega) (by omega) hl
        obtain ⟨s1, s2, s3⟩ := L.stage
        obtain ⟨e1, e2⟩ := L.end_
        have en := L.en
        have b0 := L.ok.lo0
        have b1 := L.ok.lt
        have ec : cutBy K = some (cutF l (endF l (K.erase l)), nextF l (K.erase l)) := by unfold cutBy; rw [hl]
        rw [ec]
        refine .led (e' := endF l (K.erase l)) (by omega) e2 hK s1 rfl (by show l.hi + l.n = e; exact en) (cut_by_pos L.ok _) (fun x hx hb => ?_) ((relL_erase hm).trans s2) (cuts_stg f (endF l (K.erase l)) _ (by omega) (by omega) s1)
        have := cut_led L.ok e1 hx (by rw [en]; exact hb)
        exact ⟨this.1, this.2.1⟩
end Rep
namespace Rep
open PySem PySem.Spec PyProof.Rows L2
/-! rules that the layer lacks: max(ints, default=d), xs.remove(tuple) -/
theorem dp_ints {K : PySem.W.Frag} {H : Hp} : ∀ ns : List Int, DpAll K H (ns.map V.int) (ns.map PyData.int)
  | [] => .nil
  | n :: r => .cons (.int n) (dp_ints r)
theorem depth_ints : ∀ ns : List Int, PyData.depthAll (ns.map PyData.int) = 0
  | [] => rfl
  | n :: r => by
    show max 0 (PyData.depthAll (r.map PyData.int)) = 0
    rw [depth_ints r]; rfl
def maxI : List Int → Int → Int
  | [], d => d
  | n :: r, _ => r.foldl max n
theorem cr_maxD {X : Cx} (hc : X.calm = true) (hu : X.A.units + 64 < cLine) : CallRK X (.builtin "max") [Str.ofString "default"] (fun vs zs H Q => ∃ (a : Addr) (ns : List Int) (d : Int), vs = [.ref a] ∧ zs = [.int d] ∧ SqL X.K H a (ns.map V.int) ∧ Q (.int (maxI ns d)) H) := by
  intro pins s σ H vs zs us ws Q I r rz h
  obtain ⟨a, ns, d, rfl, rfl, hs, q⟩ := h
  obtain rfl := Vals.ref1 r
  obtain ⟨w1, rfl, e1⟩ := vals1 rz
  obtain ⟨t1, rfl⟩ := e1
  obtain ⟨its, rv, hl, hz⟩ := I.list hs
  obtain ⟨as, hr⟩ := Dp.readsAll I _ _ its (dp_ints ns) rv
  refine PySem.W.max_list_default (xs := ns.map PyData.int) (I.ok.hd hc) hl.isList (by simpa using hr) ⟨fun x hx y hy => ?_, fun x hx => ?_⟩ (by rw [depth_ints]; omega) (fun e h' tk k => ?_) (fun y ys i v h' tk bs e hv rd k => ?_)
  · obtain ⟨i, _, rfl⟩ := List.mem_map.mp hx
    obtain ⟨j, _, rfl⟩ := List.mem_map.mp hy
    rfl
  · obtain ⟨i, _, rfl⟩ := List.mem_map.mp hx
    intro z; cases z
  · have e0 : ns = [] := List.map_eq_nil_iff.mp e
    subst e0
    exact ⟨.int d, H, I.kept k, ⟨t1, rfl⟩, q⟩
  · cases ns with
    | nil => cases e
    | cons n rr =>
      cases e
      rw [PySem.W.maxD_ints] at rd
      cases rd
      exact ⟨.int _, H, I.kept k, ⟨_, rfl⟩, q⟩
/-- xs.remove(v), the items and v data: the first that is == v goes -/
theorem mt_removeD {X : Cx} (hu : X.A.units + 200 < cLine) : MtM X "list.remove" (fun x xs H Q => ∃ (l : Addr) (ys : List V) (y : V) (ds : List PyData) (d : PyData) (j : Nat), x = .ref l ∧ xs = [y] ∧ H l = some (.lst ys) ∧ DpAll X.K H ys ds ∧ Dp X.K H y d ∧ PyData.plainAll ds = true ∧ d.plain = true ∧ d.depth ≤ 64 ∧
    SeqAt.dataPlace ds d = some j ∧ Q .non (upd H l (.lst (ys.eraseIdx j)))) := by
  intro pins s σ H x xs v us Q I rx rxs h
  obtain ⟨l, ys, y, ds, d, j, rfl, rfl, hH, hds, hd, p1, p2, p3, hj, q⟩ := h
  cases rx
  obtain ⟨u, rfl, ru⟩ := vals1 rxs
  obtain ⟨z, its, n, r, hl, e⟩ := I.lstM hH
  obtain ⟨as, hr⟩ := Dp.readsAll I _ _ its hds r
  obtain ⟨bs, hr2⟩ := Dp.reads I d y u hd ru
  refine SeqAt.remove_list_data (vs := its.toArray) ⟨_, e, rfl, n, rfl⟩ (by simpa using hr) hr2 p1 p2 (by have := Nat.min_le_right (PyData.depthAll ds) d.depth; omega) hj (by rw [List.size_toArray]; omega) ?_
  refine ⟨.non, _, I.lset (its' := its.eraseIdx j) hH e ?_ (r.eraseIdx j) ?_, rfl, q⟩
  · show its.toArray.eraseIdxIfInBounds j = (its.eraseIdx j).toArray
    rw [List.eraseIdxIfInBounds_toArray]
  · have := len_erase ys j
    omega
end Rep
namespace Rep
open PySem PySem.Spec PyProof.Rows L2
/-! a lambda of one parameter that captures nothing, called -/
theorem lam1_run {P : Program} {w : World} {K : PySem.W.Frag} {mg : Str → Option Value} {base : Heap} {A : Around} {outer : List Env} {s : Shared} {H : Hp} {f c' : Addr} {q x : Str} {params : Arguments} {body : Expr} {scope : Scope} {pm ctv u : Value} {v : V} {N : List Str} {k : Nat} {Q : VK} {t : TE}
    (S : FnScope N [x] scope) (hf : s.heap.get? f = some (PySem.W.kla_obj "<lambda>" q params body scope [] pm c' ctv)) (hco : H c' = some (LamX.CodeO c' q)) (hr : Room (k + 1) A) (e0 : Env0 P w K mg base A outer s H)
    (hb : bindArgs (PySem.W.kla_fn "<lambda>" q params body scope [] pm (.ref c') ctv) ⟨[u], []⟩ = pure [(x, u)]) (rv : RelV v u)
    (hbody : Room k (A.deeper (envOfC q scope s.heap.objs.size f (.ref c'))) → PE (cxOf CX0 P w K mg base N q scope f (.ref c') A outer s H E0).nox body t) (hq : t (L2.start N [v]) H Q) :
    codeAny (model P w) A (.call (.ref f) ⟨[u], []⟩) (CR CX0 outer P w H s Q E0) s := by
  have lim : s.heap.NoLimit := e0.mod.nolimit.keeps fun b o e => (e0.bs b o e).1
  obtain ⟨⟨oc, vs, tq, hoc, hdc, hvc⟩, _, _⟩ := e0.hok c' _ hco
  refine PySem.W.kla_callFunE hr.depth hf rfl S.co S.gen rfl ⟨c', oc, vs, tq, rfl, hoc, hdc, hvc⟩ ?_
  rw [hb]
  have hkind : ∀ y ∈ [(x, u)], scope.names.lookup y.1 = some .local ∨ (scope.names.lookup y.1 = some .cell ∧ ((cellsFrom (s.heap.objs.size + 1) scope.names []).lookup y.1).isSome = true) := fun y hy => by
    rw [List.mem_singleton.mp hy]
    rcases S.par x List.mem_cons_self with h | h
    · exact .inl h
    · exact .inr ⟨h, PySem.W.cellsFrom_some _ _ _ (.inl h)⟩
  refine wpAny_pure (wpAny_newFunctionEnv_cells S.kind hkind fun env he s1 xc => ?_)
  subst he
  refine ⟨lim.keeps xc.toInCall.keep, ?_⟩
  have I : Inv (cxOf CX0 P w K mg base N q scope f (.ref c') A outer s H E0) [] (L2.start N [v]) H s1 := inv_start (us := [u]) S hr.hd e0 rfl (.cons rv .nil) xc
  refine PySem.W.kla_codeExpr (wpAny_mono (((hbody (hr.deeper _)).nox).run [] s1 (L2.start N [v]) H Q I hq) (fun v' s' hs => ?_) fun e s' hs => hs)
  obtain ⟨w', H', J, rv', q'⟩ := hs
  exact ⟨w', H', J.os, J.bare, J.base, J.hok, rv', q'⟩
end Rep
namespace Rep
open PySem PySem.W PySem.Spec PyProof.Rows L2
section
variable {X : Cx} {pins : List (Addr × Obj)} {σ : L2.St} {H H2 : Hp} {s s0 : Shared}
theorem no_frame (I : Inv X pins σ H s) {f : Addr} (hf : s.heap.objs.size ≤ f) : f ∉ frs X.stack := fun z => by
  rcases List.mem_cons.mp (I.stkSub _ z) with e | e
  · have h1 := I.lt
    rw [← e] at h1
    exact Nat.lt_irrefl _ (Nat.lt_of_lt_of_le h1 hf)
  · exact I.nofs hf e
theorem relV_int {a : V} {i : Int} {t : Tok} (h : RelV a (.int i t)) : a = .int i := by
  cases a with
  | int j => obtain ⟨t', e⟩ := h; cases e; rfl
  | non => cases h
  | bl b => cases h
  | str x => obtain ⟨_, e⟩ := h; cases e
  | byt x => obtain ⟨_, e⟩ := h; cases e
  | flt x => obtain ⟨_, e⟩ := h; cases e
  | ref x => cases h
  | ty x => cases h
/-- H' is H2 and, besides, tuples -/
structure Grown (H2 H' : Hp) : Prop where
  all : ∀ b o, H2 b = some o → H' b = some o
  new : ∀ b o, H2 b = none → H' b = some o → ∃ xs, o = .tup xs
theorem Grown.refl (H : Hp) : Grown H H := ⟨fun _ _ h => h, fun b o h h' => by rw [h] at h'; cases h'⟩
theorem Grown.tup {H2 H' : Hp} (g : Grown H2 H') {p : Addr} {xs : List V} (n : H' p = none) : Grown H2 (upd H' p (.tup xs)) := by
  refine ⟨fun b o h => ?_, fun b o h h' => ?_⟩
  · have h1 := g.all b o h
    rw [upd_ne (ne_of_none h1 n)]
    exact h1
  · by_cases e : b = p
    · subst e
      rw [upd_same] at h'
      exact ⟨xs, (Option.some.inj h').symm⟩
    · rw [upd_ne e] at h'
      exact g.new b o h h'
/-- what stays while max asks for its keys -/
structure Asks (X : Cx) (pins : List (Addr × Obj)) (σ : L2.St) (H2 : Hp) (f I S : Addr) (fo : Obj) (s : Shared) : Prop where
  ex : ∃ H', Inv X pins σ H' s ∧ Grown H2 H' ∧ H' I = none ∧ H' S = none ∧ H' f = none
  fn : s.heap.get? f = some fo
/-- the key of an item, as it lies on the heap -/
def KeyAt (H2 : Hp) (S I : Addr) (k : Int × Int) (v : Value) (s : Shared) : Prop := ∃ (t : Addr) (o : Obj) (n : Nat) (t1 t2 : Tok), v = .ref t ∧ H2 t = none ∧ t ∉ [S, I] ∧ s.heap.get? t = some o ∧ o.cls = .type "tuple" ∧ o.data = .seq #[.int k.1 t1, .int k.2 t2] n
theorem KeyAt.reads {S I : Addr} {k : Int × Int} {v : Value} (h : KeyAt H2 S I k v s) : Reads s.heap v (.tuple [.int k.1, .int k.2]) [] := by
  obtain ⟨t, o, n, t1, t2, rfl, _, _, e, c, d⟩ := h
  exact .tuple (as := []) e c d (.cons (.int _ _) (.cons (.int _ _) .nil))
end
/-- max(xs, key=lambda x: body), xs locked: the keys are pairs of ints -/
theorem key_run {X : Cx} {pins : List (Addr × Obj)} {σ : L2.St} {H2 : Hp} {s0 : Shared} {l f c' : Addr} {lo : Obj} {ys : List V} {vs : Array Value} {q x : Str} {params : Arguments} {body : Expr} {scope : Scope} {pm ctv : Value} {N : List Str} {k : Nat} {t : TE} {kk : V → Int × Int}
    (I0 : Inv X pins σ H2 s0) (hl : H2 l = some (.frz lo (.lst ys))) (hv : Vals ys vs.toList) (Sc : FnScope N [x] scope) (hf : s0.heap.get? f = some (PySem.W.kla_obj "<lambda>" q params body scope [] pm c' ctv)) (hfn : H2 f = none) (hfr : f ∉ frs X.stack) (hco : H2 c' = some (LamX.CodeO c' q)) (hr : Room (k + 2) X.A)
    (hb : ∀ u : Value, bindArgs (PySem.W.kla_fn "<lambda>" q params body scope [] pm (.ref c') ctv) ⟨[u], []⟩ = pure [(x, u)])
    (hbody : ∀ (A : Around) (outer : List Env) (s : Shared) (H : Hp) (g : Addr) (cd : Value), Room k (A.deeper (envOfC q scope s.heap.objs.size g cd)) → PE (cxOf CX0 X.prog X.w X.K X.mg X.base N q scope g cd A outer s H E0).nox body t)
    (hq : ∀ y ∈ ys, ∀ (H' : Hp) (Q : VK), Grown H2 H' → (∀ p, H' p = none → Q (.ref p) (upd H' p (.tup [.int (kk y).1, .int (kk y).2]))) → t (L2.start N [y]) H' Q)
    (hS : s0.heap.objs.size + 1 = S) :
    KeyRun X.prog X.w X.A.in1 (.ref f) .Gt S [s0.heap.objs.size] (fun a b => b = a) vs.size (fun i v => vs[i]? = some v) (fun i s' => s'.heap.IsListIter s0.heap.objs.size l i ∧ s'.heap.IsList l vs)
      (Asks X pins σ H2 f s0.heap.objs.size S (PySem.W.kla_obj "<lambda>" q params body scope [] pm c' ctv)) (fun i v s' => KeyAt H2 S s0.heap.objs.size (kk (ys.getD i .non)) v s')
      (fun i j => dataLt (.tuple [.int (kk (ys.getD j .non)).1, .int (kk (ys.getD j .non)).2]) (.tuple [.int (kk (ys.getD i .non)).1, .int (kk (ys.getD i .non)).2])) := by
  have fI : f ≠ s0.heap.objs.size := Nat.ne_of_lt (Heap.lt_size hf)
  have fS : f ≠ S := Nat.ne_of_lt (by rw [← hS]; exact Nat.lt_succ_of_lt (Heap.lt_size hf))
  have iS : s0.heap.objs.size ≠ S := by rw [← hS]; exact Nat.ne_of_lt (Nat.lt_succ_self _)
  have hSge : s0.heap.objs.size ≤ S := by rw [← hS]; exact Nat.le_succ _
  refine ⟨fun s s' J m => ?_, fun i v s s' V m => ?_, fun i v s o Q E hi hP J st hSo hQ => ?_, fun i j ki kj s Q E J Vi Vj h => ?_⟩
  · obtain ⟨⟨H', I, g, n1, n2, n3⟩, fn⟩ := J
    have fn' := m.heap f _ (by simp [fI, fS]) fn
    refine ⟨⟨H', ?_, g, n1, n2, n3⟩, fn'⟩
    have I' := I.turnedL (t' := s'.toks) (h' := s'.heap) (ch := [S, s0.heap.objs.size]) (fun b o hb e => m.heap b o hb e) (fun b hb => by
      rcases List.mem_cons.mp hb with rfl | hb
      · exact I0.fpOk hSge n2
      · rw [List.mem_singleton.mp hb]; exact I0.fpOk (Nat.le_refl _) n1)
    have es : s' = { s with heap := s'.heap, toks := s'.toks } := by
      obtain ⟨a1, a2, a3, a4, a5⟩ := s'
      have g1 : a2 = s.gens := m.gens
      have g2 : a3 = s.drawn := m.drawn
      have g3 := m.os
      simp only at g3
      subst g1 g2 g3
      rfl
    rw [es]
    exact I'
  · obtain ⟨t', o, n, t1, t2, e, a1, a2, a3, a4, a5⟩ := V
    exact ⟨t', o, n, t1, t2, e, a1, a2, m.heap t' o (by simpa using a2) a3, a4, a5⟩
  · obtain ⟨⟨H', I, g, n1, n2, n3⟩, fn⟩ := J
    -- the item
    have hvi : vs.toList[i]? = some v := by rw [Array.getElem?_toList]; exact hP
    have hyl : i < ys.length := by
      rw [hv.length]
      exact (List.getElem?_eq_some_iff.mp hvi).1
    obtain ⟨u, hu, ru⟩ := hv.get (List.getElem?_eq_getElem hyl)
    rw [hvi] at hu
    cases hu
    have eg : ys.getD i .non = ys[i] := by rw [List.getD_eq_getElem?_getD, List.getElem?_eq_getElem hyl]; rfl
    have r1 : Room (k + 1) X.A.in1 := hr.in1
    have rc := lam1_run (P := X.prog) (w := X.w) (K := X.K) (mg := X.mg) (base := X.base) (A := X.A.in1) (outer := X.stack) (s := s) (H := H') (k := k) (Q := fun w' H'' => ∃ p, w' = .ref p ∧ H' p = none ∧ H'' = upd H' p (.tup [.int (kk ys[i]).1, .int (kk ys[i]).2])) Sc fn (g.all _ _ hco) r1 I.env0.in1 (hb v) ru (fun hr' => hbody _ _ _ _ _ _ hr') (hq _ (List.getElem_mem hyl) H' _ g fun p np => ⟨p, rfl, np, rfl⟩)
    refine wpAny_call (codeAny_mono rc fun r s' hr' => ?_)
    cases r with
    | error e => exact (show False from hr').elim
    | ok fl =>
      cases fl with
      | next => exact (show False from hr').elim
      | brk => exact (show False from hr').elim
      | cont => exact (show False from hr').elim
      | ret w' =>
        obtain ⟨y', H'', os, bare, un, hok, rw', p, rfl, np, rfl⟩ := hr'
        obtain rfl : w' = Value.ref p := rw'
        have I' : Inv X pins σ (upd H' p (.tup [.int (kk ys[i]).1, .int (kk ys[i]).2])) s' := by
          obtain ⟨hh, gg, d, tt, os'⟩ := s'
          obtain rfl : os' = s.os := os
          exact I.call (h' := hh) (g' := gg) (d' := d) (t' := tt) (ch := []) un hok bare (fun b z => absurd z (by simp))
        have kS := un.keep S o hSo n2 (no_frame I0 hSge) (by simp)
        have kf := un.keep f _ fn n3 hfr (by simp)
        have pS : p ≠ S := fun e => by
          have := un.free S o hSo n2 (by simp)
          rw [← e, upd_same] at this
          cases this
        obtain ⟨⟨oi, ei, ci, di⟩, hls⟩ := st
        have kI := un.keep _ oi ei n1 (no_frame I0 (Nat.le_refl _)) (by simp)
        have pI : p ≠ s0.heap.objs.size := fun e => by
          have := un.free _ oi ei n1 (by simp)
          rw [← e, upd_same] at this
          cases this
        have pf : p ≠ f := fun e => by
          have := un.free f _ fn n3 (by simp)
          rw [← e, upd_same] at this
          cases this
        have p2 : H2 p = none := by
          cases h2 : H2 p with
          | none => rfl
          | some o2 => rw [g.all _ _ h2] at np; cases np
        have nu : ∀ b, b ≠ p → H' b = none → upd H' p (.tup [.int (kk ys[i]).1, .int (kk ys[i]).2]) b = none := fun b hb hn => by rw [upd_ne hb]; exact hn
        -- the list is the very object that it was
        have l1 : s.heap.get? l = some lo := (I.hok l _ (g.all _ _ hl)).1
        have l2' : upd H' p (.tup [.int (kk ys[i]).1, .int (kk ys[i]).2]) l = some (.frz lo (.lst ys)) := by rw [upd_ne (ne_of_none (g.all _ _ hl) np)]; exact g.all _ _ hl
        have l2 : s'.heap.get? l = some lo := (hok l _ l2').1
        have hls' : s'.heap.IsList l vs := by
          obtain ⟨ol, el, cl, nl, dl⟩ := hls
          rw [l1] at el
          cases el
          exact ⟨lo, l2, cl, nl, dl⟩
        refine hQ (.ref p) s' ⟨⟨_, I', g.tup np, nu _ pI.symm n1, nu _ pS.symm n2, nu _ pf.symm n3⟩, kf⟩ ⟨⟨oi, kI, ci, di⟩, hls'⟩ kS ?_ (fun j k' V => ?_)
        · -- the new key
          obtain ⟨_, its, rits, ot, eo, co, nt, dt⟩ := hok p _ upd_same
          obtain ⟨u1, u2, rfl, q1, q2⟩ := vals2 rits
          obtain ⟨t1, rfl⟩ := q1
          obtain ⟨t2, rfl⟩ := q2
          rw [eg]
          exact ⟨p, ot, nt, t1, t2, rfl, p2, by simp [pS, pI], eo, co, dt⟩
        · obtain ⟨t', o', n', t1, t2, e1, a1, a2, a3, a4, a5⟩ := V
          cases ht : H' t' with
          | none =>
            obtain ⟨sl, e2⟩ := un.any a3 ht (by simp)
            exact ⟨t', _, n', t1, t2, e1, a1, a2, e2, a4, a5⟩
          | some ob =>
            obtain ⟨xs, rfl⟩ := g.new _ _ a1 ht
            obtain ⟨_, its, rits, ot, eo, co, nt, dt⟩ := I.hok t' _ ht
            rw [a3] at eo
            cases eo
            rw [a5] at dt
            have ed : its.toArray = #[.int (kk (ys.getD j .non)).1 t1, .int (kk (ys.getD j .non)).2 t2] := by
              injection dt with d1 d2
              exact d1.symm
            have ei' : its = [.int (kk (ys.getD j .non)).1 t1, .int (kk (ys.getD j .non)).2 t2] := by
              have := congrArg Array.toList ed
              simpa using this
            subst ei'
            have t3 := un.tups _ _ ht
            obtain ⟨_, its2, rits2, ot2, eo2, co2, nt2, dt2⟩ := hok t' _ t3
            cases rits with
            | cons b1 rr =>
              cases rr with
              | cons b2' rr2 =>
                cases rr2
                have x1 := relV_int b1
                have x2 := relV_int b2'
                subst x1 x2
                obtain ⟨u1, u2, rfl, q1, q2⟩ := vals2 rits2
                obtain ⟨t5, rfl⟩ := q1
                obtain ⟨t6, rfl⟩ := q2
                exact ⟨t', ot2, nt2, t5, t6, e1, a1, a2, eo2, co2, dt2⟩
  · have r1 := Vi.reads
    have r2 := Vj.reads
    obtain ⟨⟨H', I, _⟩, _⟩ := J
    exact rcGt_alike _ _ X.A.in1 s ki kj _ _ r1 r2 rfl (by intro z; cases z) (by
      have := hr.un
      show X.A.units + 1 + min 1 1 < cLine
      omega) X.prog X.w E Q h
end Rep
namespace Rep
open PySem PySem.W PySem.Spec PyProof.Rows L2
def kD (k : Int × Int) : PyData := .tuple [.int k.1, .int k.2]
/-- the place of the first item whose key is the greatest -/
def topAt (kk : V → Int × Int) (ys : List V) : Nat := argBest (fun i j => dataLt (.tuple [.int (kk (ys.getD j .non)).1, .int (kk (ys.getD j .non)).2]) (.tuple [.int (kk (ys.getD i .non)).1, .int (kk (ys.getD i .non)).2])) (ys.length - 1)
def rMaxLam (T : List (Addr × Str)) (N : List Str) (t : TE) (Q : VK) (vs : List V) (H1 : Hp) : Prop := ∃ (l : Addr) (ys : List V) (kk : V → Int × Int), vs = [.ref l] ∧ H1 l = some (.lst ys) ∧ ys ≠ [] ∧ LamX.Tabs T H1 ∧
  (∀ y ∈ ys, ∀ (H' : Hp) (Q' : VK), (∀ b xs, H1 b = some (.tup xs) → H' b = some (.tup xs)) → (∀ p, H' p = none → Q' (.ref p) (upd H' p (.tup [.int (kk y).1, .int (kk y).2]))) → t (L2.start N [y]) H' Q') ∧
  ∀ H3 y, LamX.ExtN H1 H3 → LamX.Tabs T H3 → ys[topAt kk ys]? = some y → Q y H3
def tMaxLam (T : List (Addr × Str)) (N : List Str) (t : TE) (ta : TA) : TE := fun σ H Q => ta σ H (rMaxLam T N t Q)
theorem pe_maxLam {X : Cx} {T : List (Addr × Str)} {c P : Addr} {k : Nat} {x : Str} {params : Arguments} {body : Expr} {scope : Scope} {lpos p pos kpos : Pos} {e : Expr} {t : TE} {ta : TA} {N : List Str}
    (hg : Gl X "max") (hm : X.mg "max" = none) (ha : PA X [e] ta) (TB : LamX.TabB X.base X.mg c P) (hcode : X.env.code = .ref c) (hmT : (P, X.env.qual ++ "<lambda>") ∈ T) (hu : ∀ p ∈ T, p.1 = P → p.2 = X.env.qual ++ "<lambda>")
    (hdef : defaultsOf params X.env = ([], [])) (hnf : ∀ y ∈ scope.names, y.2 ≠ .free) (hclo : cloFrom X.env.cells scope.names [] = []) (hr : Room (k + 2) X.A) (Sc : FnScope N [x] scope)
    (hb : ∀ (q : Str) (pm cv ctv u : Value), bindArgs (kla_fn "<lambda>" q params body scope [] pm cv ctv) ⟨[u], []⟩ = pure [(x, u)])
    (hbody : ∀ (A : Around) (outer : List Env) (s : Shared) (H : Hp) (g : Addr) (cd : Value), Room k (A.deeper (envOfC (X.env.qual ++ "<lambda>") scope s.heap.objs.size g cd)) → PE (cxOf CX0 X.prog X.w X.K X.mg X.base N (X.env.qual ++ "<lambda>") scope g cd A outer s H E0).nox body t)
    (hs : backTo pos (starEach [e] X.env) = (false, eval e X.env) :: backTo pos (starEach [] X.env) := by rfl) (hpl : (backTo pos (starEach [e] X.env)).any (·.1) = false := by rfl) :
    PE X (.Call (.Name "max" p) [e] [⟨some "key", .Lambda params body scope lpos, kpos⟩] pos) (tMaxLam T N t ta) := by
  refine ⟨fun pins s σ H Q I h => ?_⟩
  refine wpAny_Call_Name_kw (ld_blt I hg hm (show bootBuiltins "max" = some (.builtin "max") by decide +kernel) ?_)
  refine PyProof.Rows.callWith_kw (thn (ha.run pos pins s σ H (rMaxLam T N t Q) I h) fun us s1 ⟨vs, H1, I1, r1, q1⟩ => ?_) hs hpl
  obtain ⟨l, ys, kk, rfl, hl, hne, hT, hk, hfin⟩ := q1
  obtain rfl := Vals.ref1 r1
  show wpAny _ _ (evalAll ((do let v ← eval (.Lambda params body scope lpos) X.env; standAt pos; pure v) :: [])) _ _ s1
  refine wpAny_evalAll_cons (wpAny_bind (LamX.lam_make2 I1 TB hcode hmT hu hT hdef (fun y hy e => absurd e (hnf y hy)) fun f c' pm ctv H2 s2 I2 eN T2 hf hfn hfr hco => wpAny_bind (wpAny_standAt (wpAny_pure ?_))))
  refine wpAny_evalAll_nil ?_
  rw [hclo] at hf
  have hl2 : H2 l = some (.lst ys) := eN l _ hl (fun ps z => by cases z)
  obtain ⟨od, I3⟩ := I2.lock hl2 trivial
  have nfl : f ≠ l := fun z => by rw [z, hl2] at hfn; cases hfn
  have ncl : c' ≠ l := fun z => by rw [z, hl2] at hco; unfold LamX.CodeO at hco; cases hco
  have hl3 : upd H2 l (.frz od (.lst ys)) l = some (.frz od (.lst ys)) := upd_same
  obtain ⟨_, _, its, n, rv, el⟩ := I3.hok l _ hl3
  have hlt : its.length = ys.length := rv.length.symm
  have hn0 : 0 < ys.length := List.length_pos_iff.mpr hne
  have hf3 : upd H2 l (.frz od (.lst ys)) f = none := by rw [upd_ne nfl]; exact hfn
  have hco3 : upd H2 l (.frz od (.lst ys)) c' = some (LamX.CodeO c' (X.env.qual ++ "<lambda>")) := by rw [upd_ne ncl]; exact hco
  have hh : X.A.in1.handled = none := hr.hd
  have tups : ∀ b xs, H1 b = some (.tup xs) → upd H2 l (.frz od (.lst ys)) b = some (.tup xs) := fun b xs hx => by
    have hb2 : H2 b = some (.tup xs) := eN b _ hx (fun ps z => by cases z)
    rw [upd_ne (ne_of hb2 hl2 (by intro z; cases z))]
    exact hb2
  refine call_max_walkK (PySem.W.iter_listW (A := X.A.in1) (vs := its.toArray) hh ⟨_, el, rfl, n, rfl⟩ fun s₃ e3 W st hfp hw hkp => ?_)
  have hsz : s₃.heap.objs.size = s2.heap.objs.size + 1 := by rw [e3]; exact Heap.size_push _ _
  have KR := key_run (S := s₃.heap.objs.size) (vs := its.toArray) (kk := kk) I3 hl3 (by simpa using rv) Sc hf hf3 hfr hco3 hr (fun u => hb _ _ _ _ u) hbody (fun y hy H' Q' g hq => hk y hy H' Q' (fun b xs hx => g.all _ _ (tups b xs hx)) hq) hsz.symm
  · have I4 : Inv X pins σ (upd H2 l (.frz od (.lst ys))) s₃ := by
      rw [e3]
      exact I3.kept (t' := s2.toks) (h' := s2.heap.push _) fun b o q => Heap.get?_push_of_some _ q
    refine ⟨_, _, _, _, _, _, _, _, _, _, rfl, W, st, hfp, by rw [List.size_toArray, hlt]; exact hn0, KR, ⟨⟨_, I4, Grown.refl _, I3.hok.fresh (Nat.le_refl _), I3.hok.fresh (by rw [hsz]; exact Nat.le_succ _), hf3⟩, hkp f _ hf⟩, fun v s4 hP hJ => ?_⟩
    obtain ⟨⟨H4, I5, g, _, _, _⟩, _⟩ := hJ
    have hl4 := g.all _ _ hl3
    have I6 := I5.unlock hl4 (I2.nofrz hl2 trivial)
    have same : ∀ b o, H2 b = some o → upd H4 l (.lst ys) b = some o := fun b o q => by
      by_cases c1 : b = l
      · subst c1; rw [upd_same, ← hl2]; exact q
      · rw [upd_ne c1]
        exact g.all _ _ (by rw [upd_ne c1]; exact q)
    have hP' : its[topAt kk ys]? = some v := by
      have e5 : its.toArray.size - 1 = ys.length - 1 := by rw [List.size_toArray, hlt]
      rw [e5, List.getElem?_toArray] at hP
      exact hP
    have hti : topAt kk ys < ys.length := by
      rw [← hlt]
      exact (List.getElem?_eq_some_iff.mp hP').1
    obtain ⟨u, hu', ru⟩ := rv.get (List.getElem?_eq_getElem hti)
    rw [hP'] at hu'
    cases hu'
    refine ⟨ys[topAt kk ys], _, I6, ru, hfin _ _ (fun b o q n => same b o (eN b o q n)) (T2.ext same) (List.getElem?_eq_getElem hti)⟩
end Rep
/-! what is walked and taken apart while an exception is handled -/
namespace RepHot
open PySem PySem.Spec PyProof.Rows L2 L2H HotX
section
variable {prog : Program} {w : World} {A : Around} {E : Value → Shared → Prop} {s : Shared}
def Kp (h h' : Heap) : Prop := ∀ b o, h.get? b = some o → h'.get? b = some o
theorem HotAt.kp {x : Addr} {h h' : Heap} (t : HotAt A x h) (k : ∀ o, h.get? x = some o → h'.get? x = some o) : HotAt A x h' := by
  obtain ⟨a, o, vs, e, d, c⟩ := t
  exact ⟨a, o, vs, k _ e, d, c⟩
/-- a new StopIteration -/
theorem stop_made {x : Addr} {Q : Value → Shared → Prop} (t : HotAt A x s.heap)
    (q : ∀ h' e oe vs, Kp s.heap h' → h'.get? e = some oe → oe.cls = .type "StopIteration" → oe.data = .fields vs → 2 < vs.size → x ≠ e → HotAt A x h' → (∀ b o, s.heap.get? b = some o → b ≠ e) → Q (.ref e) { s with heap := h' }) : wpAny (model prog w) A (newExc (.type "StopIteration") []) Q E s := by
  simp only [newExc, newTuple]
  refine wpAny_bind (wpAny_newObj_type ?_ (by size_fits))
  refine wpAny_bind (m := firstArgMember _ _) (wpAny_of_eq (a := Value.none) (by first | rfl | (simp only [firstArgMember]; rfl)) ?_)
  refine wpAny_newObj_type ?_ (by size_fits)
  obtain ⟨ah, ox, vx, zx, dx, cx⟩ := t
  exact q _ _ _ _ (fun b o z => Heap.get?_push_of_some _ (Heap.get?_push_of_some _ z)) (Heap.get?_push_size _ rfl) rfl rfl (by first | (simp; done) | (simp; omega) | (simp only [Array.size_append]; simp; omega)) (Nat.ne_of_lt (Heap.lt_size (Heap.get?_push_of_some _ zx))) ⟨ah, ox, vx, Heap.get?_push_of_some _ (Heap.get?_push_of_some _ zx), dx, cx⟩ (fun b o z => Nat.ne_of_lt (Heap.lt_size (Heap.get?_push_of_some _ z)))
/-- and raised -/
theorem stop_raised {α : Type} {x e : Addr} {oe : Obj} {vs : Array Value} {Q : α → Shared → Prop} (t : HotAt A x s.heap) (n : x ≠ e) (g : s.heap.get? e = some oe) (c : oe.cls = .type "StopIteration") (d : oe.data = .fields vs) (l : 2 < vs.size)
    (q : ∀ h', (∀ b o, b ≠ e → s.heap.get? b = some o → h'.get? b = some o) → (∃ o, h'.get? e = some o ∧ o.cls = .type "StopIteration") → E (.ref e) { s with heap := h' }) : wpAny (model prog w) A (raiseNew (.ref e) : Sem α) Q E s := by
  refine raiseNew_hot t n g d l (q _ (fun b o nb z => ?_) ⟨_, Heap.get?_update_self _ g (Obj.isFreed_of_fields (Obj.data_mapFields d _)), (Obj.cls_mapFields ..).trans c⟩)
  rw [Heap.get?_update_other _ _ nb.symm]; exact z
/-- a tuple's iterator at its end -/
theorem tup_end {it t x : Addr} {i : Nat} {items : Array Value} {Q : Option Value → Shared → Prop} (hot : HotAt A x s.heap) (nx : x ≠ it) (hit : IsTupIter s.heap it t i) (ht : IsTup s.heap t items) (no : items[i]? = none)
    (q : ∀ h', Heap.ExtBut it s.heap h' → Q none { s with heap := h' }) : wpAny (model prog w) A (pyNext (.ref it)) Q E s := by
  obtain ⟨o1, g1, _, d1⟩ := id hit
  obtain ⟨o2, g2, _, _, d2⟩ := ht
  unfold pyNext
  refine wpAny_bind (wpAny_attempt (wpAny_callSpecial?_slot (name := Str.ofString "__next__") hit.typeIs slot_tupleiter_next (wpAny_call_entry slot_tupleiter_next hit.typeIs entry_tupleiter_next ?_ (args_tupleiter_next _))))
  show wpAny _ _ (field (.ref it) 0 >>= _) _ _ s
  refine wpAny_bind (wpAny_field g1 d1 (x := .ref t) rfl ?_)
  show wpAny _ _ (if (Value.ref t == Value.none) = true then _ else _) _ _ s
  rw [if_neg (fun z : (Value.ref t == Value.none) = true => Bool.false_ne_true z)]
  show wpAny _ _ (field (.ref it) 1 >>= _) _ _ s
  refine wpAny_bind (wpAny_field g1 d1 (x := .int i 0) rfl ?_)
  show wpAny _ _ (seqItems? (.ref t) >>= _) _ _ s
  refine wpAny_bind (wpAny_seqItems g2 d2 ?_)
  simp only [Int.toNat_natCast, no]
  refine wpAny_bind (wpAny_rule (wpAny_bind (wpAny_setField g1 d1 (by simp) ?_)))
  show wpAny _ _ (newExc (.type "StopIteration") [] >>= _) _ _ _
  have ext := (Heap.SameBut.update s.heap it (Obj.mapFields (·.setIfInBounds 0 Value.none))).extBut
  refine wpAny_bind (stop_made (HotAt.kp hot fun o z => ext _ _ nx z) fun h1 e oe vs kp g c d l ne hot1 old => ?_)
  refine stop_raised hot1 ne g c d l fun h2 k2 he => ?_
  obtain ⟨o, ho, hc⟩ := he
  refine wpAny_bind (wpAny_isInstance (T := "StopIteration") (b := true) ⟨o, ho, hc⟩ isSubtype_stop ?_)
  refine wpAny_pure (q _ fun b o nb z => ?_)
  exact k2 b o (old b o (ext b o nb z)) (kp b o (ext b o nb z))
/-- a list's iterator at its end, within zip -/
theorem list_end {it t x : Addr} {i : Nat} {items : Array Value} {Q : Value → Shared → Prop} (hot : HotAt A x s.heap) (nx : x ≠ it) (hit : s.heap.IsListIter it t i) (ht : s.heap.IsList t items) (no : items[i]? = none)
    (q : ∀ h' e, Heap.ExtBut it s.heap h' → (∃ o, h'.get? e = some o ∧ o.cls = .type "StopIteration") → E (.ref e) { s with heap := h' }) : wpAny (model prog w) A (Builtin.SmallTypes.nextOf (.ref it)) Q E s := by
  obtain ⟨o1, g1, _, d1⟩ := id hit
  obtain ⟨o2, g2, _, _, d2⟩ := ht
  unfold Builtin.SmallTypes.nextOf
  refine wpAny_bind (wpAny_callSpecial?_slot (name := Str.ofString "__next__") hit.typeIs slot_listiter_next (wpAny_call_entry slot_listiter_next hit.typeIs entry_listiter_next ?_ (args_listiter_next _)))
  show wpAny _ _ (field (.ref it) 0 >>= _) _ _ s
  refine wpAny_bind (wpAny_field g1 d1 (x := .ref t) rfl ?_)
  show wpAny _ _ (if (Value.ref t == Value.none) = true then _ else _) _ _ s
  rw [if_neg (fun z : (Value.ref t == Value.none) = true => Bool.false_ne_true z)]
  show wpAny _ _ (field (.ref it) 1 >>= _) _ _ s
  refine wpAny_bind (wpAny_field g1 d1 (x := .int i 0) rfl ?_)
  show wpAny _ _ (seqItems? (.ref t) >>= _) _ _ s
  refine wpAny_bind (wpAny_seqItems g2 d2 ?_)
  simp only [Int.toNat_natCast, no]
  refine wpAny_bind (wpAny_rule (wpAny_bind (wpAny_setField g1 d1 (by simp) ?_)))
  show wpAny _ _ (newExc (.type "StopIteration") [] >>= _) _ _ _
  have ext := (Heap.SameBut.update s.heap it (Obj.mapFields (·.setIfInBounds 0 Value.none))).extBut
  refine wpAny_bind (stop_made (HotAt.kp hot fun o z => ext _ _ nx z) fun h1 e oe vs kp g c d l ne hot1 old => ?_)
  exact stop_raised hot1 ne g c d l fun h2 k2 he => q _ _ (fun b o nb z => k2 b o (old b o (ext b o nb z)) (kp b o (ext b o nb z))) he
/-- a tuple of so many, taken apart -/
theorem apart_tuple {env : Env} {elts : List Expr} {kk} {pos : Pos} {t x : Addr} {items : Array Value} {Q : Unit → Shared → Prop} (hot : HotAt A x s.heap) (ht : IsTup s.heap t items) (hn : (assignEach elts env).length = items.size) (hst : (assignEach elts env).findIdx? (·.1) = none)
    (q : ∀ h', Heap.ExtBut s.heap.objs.size s.heap h' → wpAny (model prog w) A (assignInOrder ((assignEach elts env).map (·.2)) items.toList) Q E { s with heap := h' }) : wpAny (model prog w) A (assign (.Tuple elts kk pos) env (.ref t)) Q E s := by
  have ne : t ≠ s.heap.objs.size := by obtain ⟨o, z, _⟩ := ht; exact Nat.ne_of_lt (Heap.lt_size z)
  have nx : x ≠ s.heap.objs.size := by obtain ⟨_, o, _, z, _⟩ := hot; exact Nat.ne_of_lt (Heap.lt_size z)
  rw [assign_Tuple]
  refine wpAny_bind (wpAny_standAt ?_)
  unfold unpack
  rw [hn, hst]
  refine wpAny_bind (wpAny_holding ?_)
  unfold unpackItems notIterableAtAll
  refine wpAny_bind (wpAny_bind (wpAny_specialOf ht.typeIs slot_tuple_iter.lookup (wpAny_pure ?_)))
  simp only [Bool.false_eq_true, if_false]
  refine wpAny_bind (wpAny_holding (iter_tuple ht ?_))
  refine wpAny_bind (wpAny_holding (draw_tuple ne items.size 0 _ _ ⟨_, Heap.get?_push_size _ rfl, rfl, rfl⟩ (ht.push _) (by omega) fun h1 it1 s1 => ?_))
  rw [show List.take items.size (List.drop 0 items.toList) = items.toList by rw [List.drop_zero]; exact List.take_of_length_le (by simp), if_neg (by simp)]
  have hot1 : HotAt A x h1 := HotAt.kp hot fun o z => s1.extBut _ _ nx (Heap.get?_push_of_some _ z)
  refine wpAny_bind (wpAny_holding (tup_end hot1 nx it1 ((ht.push _).extBut s1.extBut ne) (by simp) fun h2 e2 => ?_))
  simp only [Option.isSome_none, Bool.false_eq_true, if_false]
  exact wpAny_pure (q h2 fun b o nb z => e2 b o nb (s1.extBut b o nb (Heap.get?_push_of_some _ z)))
/-- zip of two lists at its end -/
theorem zip_end0 {z TI TO i1 i2 l1 l2 x : Addr} {k1 k2 : Nat} {xs ys : Array Value} {a b : Value} {Q : Fin → Shared → Prop} (hot : HotAt A x s.heap) (nz : x ≠ z) (nO : x ≠ TO) (n1 : x ≠ i1) (n2 : x ≠ i2) (D : ZipApart z TI TO i1 i2 l1 l2)
    (hz : IsZip s.heap z TI TO .none) (hTI : IsPair s.heap TI (.ref i1) (.ref i2)) (hTO : IsPair s.heap TO a b) (h1 : s.heap.IsListIter i1 l1 k1) (h2 : s.heap.IsListIter i2 l2 k2) (hl1 : s.heap.IsList l1 xs) (hl2 : s.heap.IsList l2 ys) (no : xs[k1]? = none ∨ ys[k2]? = none)
    (fin : ∀ (h' : Heap) (e : Addr), (∀ c o, c ≠ z → c ≠ TO → c ≠ i1 → c ≠ i2 → s.heap.get? c = some o → h'.get? c = some o) → (∃ o, h'.get? e = some o ∧ o.cls = .type "StopIteration") → E (.ref e) { s with heap := h' }) : wpAny (model prog w) A (Builtin.«zip.__next__» ⟨[.ref z], []⟩) Q E s := by
  show wpAny _ _ (field (.ref z) 2 >>= _) _ _ _
  refine wpAny_bind (wpAny_field hz rfl (x := .bool false) rfl ?_)
  show wpAny _ _ (field (.ref z) 3 >>= _) _ _ _
  refine wpAny_bind (wpAny_field hz rfl (x := .ref TI) rfl (wpAny_bind (wpAny_seqItems hTI rfl ?_)))
  show wpAny _ _ (Builtin.SmallTypes.ownedTupleIsFree (.ref z) >>= _) _ _ _
  unfold Builtin.SmallTypes.ownedTupleIsFree
  refine wpAny_bind (wpAny_bind (wpAny_field hz rfl (x := .none) rfl (wpAny_pure ?_)))
  simp only [if_true]
  refine wpAny_bind (wpAny_rule (wpAny_bind (wpAny_field hz rfl (x := .ref TO) rfl ?_)))
  refine wpAny_bind (wpAny_setField_rec hz (by simp) fun g1 zz1 e1 => ?_)
  replace zz1 : IsZip g1 z TI TO .ellipsis := zz1
  have hot1 : HotAt A x g1 := HotAt.kp hot fun o v => e1.extBut _ _ nz v
  refine wpAny_bind ?_
  simp only [List.zipIdx_cons, List.zipIdx_nil, List.forIn_cons, List.forIn_nil]
  refine wpAny_bind (wpAny_bind (wpAny_onRaise ?_))
  show wpAny _ _ (Builtin.SmallTypes.nextOf (.ref i1) >>= _) _ _ _
  cases hx : xs[k1]? with
  | none =>
    refine wpAny_bind (list_end hot1 n1 (h1.extBut e1.extBut D.i1z) (hl1.extBut e1.extBut D.l1z) hx fun g2 e e2 he => ?_)
    obtain ⟨oe, ge, ce⟩ := he
    have zz2 : IsZip g2 z TI TO .ellipsis := e2 _ _ D.i1z.symm zz1
    have ez : e ≠ z := fun v => by subst v; rw [zz2] at ge; cases ge; simp at ce
    exact wpAny_setField_rec zz2 (by simp) fun g3 _ e3 => fin g3 e (fun c o c1 _ c3 _ v => e3.extBut _ _ c1 (e2 _ _ c3 (e1.extBut _ _ c1 v))) ⟨oe, e3.extBut _ _ ez ge, ce⟩
  | some v1 =>
    have hy : ys[k2]? = none := no.resolve_left (by rw [hx]; simp)
    refine wpAny_bind (wpAny_nextOf_list_item (h1.extBut e1.extBut D.i1z) (hl1.extBut e1.extBut D.l1z) hx fun g2 _ e2 => wpAny_pure ?_)
    have pO : IsPair g2 TO a b := e2.extBut _ _ D.TOi1 (e1.extBut _ _ D.TOz hTO)
    refine wpAny_bind (wpAny_seqItems pO rfl (wpAny_bind (wpAny_updateSeq_pair pO fun g3 _ e3 => ?_)))
    have hot3 : HotAt A x g3 := HotAt.kp hot1 fun o v => e3.extBut _ _ nO (e2.extBut _ _ n1 v)
    refine wpAny_bind (wpAny_letGo (wpAny_pure (wpAny_bind (wpAny_bind (wpAny_onRaise ?_)))))
    show wpAny _ _ (Builtin.SmallTypes.nextOf (.ref i2) >>= _) _ _ _
    refine wpAny_bind (list_end hot3 n2 (((h2.extBut e1.extBut D.i2z).extBut e2.extBut D.i12.symm).extBut e3.extBut D.TOi2.symm) (((hl2.extBut e1.extBut D.l2z).extBut e2.extBut D.l2i1).extBut e3.extBut D.l2TO) hy fun g4 e e4 he => ?_)
    obtain ⟨oe, ge, ce⟩ := he
    have zz4 : IsZip g4 z TI TO .ellipsis := e4 _ _ D.i2z.symm (e3.extBut _ _ D.TOz.symm (e2.extBut _ _ D.i1z.symm zz1))
    have ez : e ≠ z := fun v => by subst v; rw [zz4] at ge; cases ge; simp at ce
    exact wpAny_setField_rec zz4 (by simp) fun g5 _ e5 => fin g5 e (fun c o c1 c2 c3 c4 v => e5.extBut _ _ c1 (e4 _ _ c4 (e3.extBut _ _ c2 (e2.extBut _ _ c3 (e1.extBut _ _ c1 v))))) ⟨oe, e5.extBut _ _ ez ge, ce⟩
theorem zip_end {z TI TO i1 i2 l1 l2 x : Addr} {k1 k2 : Nat} {xs ys : Array Value} {a b : Value} {Q : Option Value → Shared → Prop} (hot : HotAt A x s.heap) (nz : x ≠ z) (nO : x ≠ TO) (n1 : x ≠ i1) (n2 : x ≠ i2) (D : ZipApart z TI TO i1 i2 l1 l2)
    (hz : IsZip s.heap z TI TO .none) (hTI : IsPair s.heap TI (.ref i1) (.ref i2)) (hTO : IsPair s.heap TO a b) (h1 : s.heap.IsListIter i1 l1 k1) (h2 : s.heap.IsListIter i2 l2 k2) (hl1 : s.heap.IsList l1 xs) (hl2 : s.heap.IsList l2 ys) (no : xs[k1]? = none ∨ ys[k2]? = none)
    (q : ∀ h', (∀ c o, c ≠ z → c ≠ TO → c ≠ i1 → c ≠ i2 → s.heap.get? c = some o → h'.get? c = some o) → Q none { s with heap := h' }) : wpAny (model prog w) A (pyNext (.ref z)) Q E s := by
  have hT : s.TypeIs (.ref z) "zip" := ⟨_, hz, rfl⟩
  unfold pyNext
  refine wpAny_bind (wpAny_attempt (wpAny_callSpecial?_slot (name := Str.ofString "__next__") hT F.slot_zip_next (wpAny_call_entry F.slot_zip_next hT F.entry_zip_next (zip_end0 hot nz nO n1 n2 D hz hTI hTO h1 h2 hl1 hl2 no fun h' e kp he => ?_) (F.args_zip_next_1 _))))
  obtain ⟨o, ho, hc⟩ := he
  exact wpAny_bind (wpAny_isInstance (T := "StopIteration") (b := true) ⟨o, ho, hc⟩ isSubtype_stop (wpAny_pure (q _ kp)))
end
end RepHot
/-! rules for an except suite's callee -/
namespace RepHot
open PySem PySem.Spec PyProof.Rows L2 L2H HotX
abbrev St := L2.St
section
variable {X : Cx}
theorem pg_tupP {es : List Expr} {k : Nat} {t : TGs} {n : Nat} {pos : Pos} (hc : HotC X) (h : PGs X es t) (hn : (assignEach es X.env).length = n := by rfl) (hst : (assignEach es X.env).findIdx? (·.1) = none := by rfl) : PG X (.Tuple es k pos) (gTup X.K n t) := by
  refine ⟨fun ps s σ H v u Q I r hw => ?_⟩
  obtain ⟨a, xs, rfl, hq, hl, hw⟩ := hw
  cases r
  obtain ⟨vals, rel, tp, _⟩ := I.tuple hq
  obtain ⟨x, hot⟩ := hc.at I
  refine apart_tuple hot tp (by simp [hn, ← hl, rel.length]) hst fun h' ext => ?_
  have I' : Inv X ps σ H { s with heap := h' } := I.kept (t' := s.toks) fun b o z => ext b o (Nat.ne_of_lt (Heap.lt_size z)) z
  exact h.run ps _ σ H xs _ Q I' (by simpa using rel) hw
end
theorem five {c z TI TO i1 i2 : Addr} (h : c ∈ [z, TI, TO, i1, i2]) : c = z ∨ c = TI ∨ c = TO ∨ c = i1 ∨ c = i2 := by simpa using h
theorem turn_zipP {P : Program} {w : World} {K : PySem.W.Frag} {elts : List Expr} {kk : Nat} {tpos : Pos} {a b z TI TO i1 i2 : Addr} (D : ZipApart z TI TO i1 i2 a b) :
    TurnH P w K (.Tuple elts kk tpos) (Itz K a b) [z, TI, TO, i1, i2] z (fun i h => IsZip h z TI TO .none ∧ IsPair h TI (.ref i1) (.ref i2) ∧ (∃ x y, IsPair h TO x y) ∧ h.IsListIter i1 a i ∧ h.IsListIter i2 b i) where
  mem := (turn_zip (P := P) (w := w) (K := K) (elts := elts) (kk := kk) (tpos := tpos) D).mem
  obj := (turn_zip (P := P) (w := w) (K := K) (elts := elts) (kk := kk) (tpos := tpos) D).obj
  keep := (turn_zip (P := P) (w := w) (K := K) (elts := elts) (kk := kk) (tpos := tpos) D).keep
  item := by
    intro X eP ew eK _ i ps s σ H E I fr stt go
    subst eP ew eK
    obtain ⟨sz, sI, ⟨q1, q2, sO⟩, s1, s2⟩ := stt
    obtain ⟨xs, ys, v1, v2, lx, ly, gx, gy⟩ := go
    obtain ⟨us, ru, pu, _⟩ := I.list lx
    obtain ⟨ws, rw', pw, _⟩ := I.list ly
    obtain ⟨u, hu, vu⟩ := ru.get gx
    obtain ⟨u', hu', vu'⟩ := rw'.get gy
    have lz : z < s.heap.objs.size := Heap.lt_size sz
    refine wpAny_pyNext_zip_item D sz sI sO s1 s2 pu.isList pw.isList (x := u) (y := u') (by simpa using hu) (by simpa using hu') fun g zz pO n1 n2 pT _ kp => ⟨_, rfl, wpAny_letOwnedTupleGo_zip (s := { s with heap := g }) zz fun g' zz' sb => ?_⟩
    have pT' : g'.get? s.heap.objs.size = some { cls := .type "tuple", data := .seq #[u, u'] } := (sb.2 _ (Nat.ne_of_gt lz)).trans pT
    have ok : ObjOk X.prog X.w (upd H s.heap.objs.size (.tup [v1, v2])) g' s.heap.objs.size (.tup [v1, v2]) := ⟨by show 2 ≤ sizeLine; decide, [u, u'], .cons vu (.cons vu' .nil), ⟨_, pT', rfl, _, rfl⟩⟩
    have I' : Inv X ps σ (upd H s.heap.objs.size (.tup [v1, v2])) { s with heap := g' } := I.turnedNew (t' := s.toks) (ch := [z, TI, TO, i1, i2]) (fun c o hb q => (sb.2 c (fun e => hb (by simp [e]))).trans (kp c o (fun e => hb (by simp [e])) (fun e => hb (by simp [e])) (fun e => hb (by simp [e])) (fun e => hb (by simp [e])) q)) fr (Nat.le_refl _) ok
    have eqx : ∀ l, SqL X.K H a l → l[i]? = some v1 := fun l hl => by rw [I.list_inj hl lx]; exact gx
    have eqy : ∀ l, SqL X.K H b l → l[i]? = some v2 := fun l hl => by rw [I.list_inj hl ly]; exact gy
    refine ⟨.ref s.heap.objs.size, _, I', rfl, ⟨_, v1, v2, rfl, I.hok.fresh (Nat.le_refl _), rfl, eqx, eqy⟩, ⟨zz', (sb.2 _ D.TIz).trans (kp _ _ D.TIz D.TITO D.TIi1 D.TIi2 sI), ⟨u, u', (sb.2 _ D.TOz).trans pO⟩, n1.at fun o q => (sb.2 _ D.i1z).trans q, n2.at fun o q => (sb.2 _ D.i2z).trans q⟩, fun c hc => ?_⟩
    have lt : c < s.heap.objs.size := by
      rcases five hc with e | e | e | e | e
      · rw [e]; exact lz
      · rw [e]; exact Heap.lt_size sI
      · rw [e]; exact Heap.lt_size sO
      · rw [e]; obtain ⟨_, e1, _⟩ := s1; exact Heap.lt_size e1
      · rw [e]; obtain ⟨_, e2, _⟩ := s2; exact Heap.lt_size e2
    rw [upd_ne (Nat.ne_of_lt lt)]
    exact (fr c hc).1
  done := by
    intro X eP ew eK hot i ps s σ H E I fr stt stop
    subst eP ew eK
    obtain ⟨sz, sI, ⟨q1, q2, sO⟩, s1, s2⟩ := stt
    obtain ⟨xs, ys, lx, ly, no⟩ := stop
    obtain ⟨us, ru, pu, _⟩ := I.list lx
    obtain ⟨ws, rw', pw, _⟩ := I.list ly
    have e1 := ru.length
    have e2 := rw'.length
    obtain ⟨p, ⟨hh, vp, dp, cp⟩, hp⟩ := hot
    have np : ∀ c, c ∈ [z, TI, TO, i1, i2] → p.1 ≠ c := fun c hc => (fr c hc).2.2.2.2.2 p (List.mem_append_left _ hp)
    have hA : HotAt X.A p.1 s.heap := ⟨hh, p.2, vp, (I.pin p (List.mem_append_left _ hp)).1, dp, cp⟩
    have no' : us.toArray[i]? = none ∨ ws.toArray[i]? = none := no.imp (fun q => by simp; omega) (fun q => by simp; omega)
    exact zip_end hA (np z (by simp)) (np TO (by simp)) (np i1 (by simp)) (np i2 (by simp)) D sz sI sO s1 s2 pu.isList pw.isList no' fun g kp => ⟨rfl, I.turnedL (t' := s.toks) (ch := [z, TI, TO, i1, i2]) (fun c o hb q => kp c o (fun e => hb (by simp [e])) (fun e => hb (by simp [e])) (fun e => hb (by simp [e])) (fun e => hb (by simp [e])) q) fr⟩
  self := (turn_zip (P := P) (w := w) (K := K) (elts := elts) (kk := kk) (tpos := tpos) D).self
theorem pi_zipP {X : Cx} {e e2 : Expr} {ta : TA} {p pos tpos : Pos} {elts : List Expr} {kk : Nat} (hg : Gl X "zip") (hm : X.mg "zip" = none) (ha : PA X [e, e2] ta) (hs : starEach [e, e2] X.env = (false, eval e X.env) :: starEach [e2] X.env := by rfl) (hpl : (backTo pos (starEach [e2] X.env)).any (·.1) = false := by rfl) :
    PIH X (.Tuple elts kk tpos) (.Call (.Name "zip" p) [e, e2] [] pos) (iZip X.K ta) := by
  refine ⟨fun ps s σ H R I h => Call_ (ld_blt I hg hm PyProof.Rows.boot_zip (PyProof.Rows.callWith_type1 (thn (ha.run pos ps s σ H _ I h) fun us s1 ⟨vs, H1, I1, r1, q1⟩ => ?_) hs hpl))⟩
  obtain ⟨a, b, xs, ys, ev, lx, ly, q⟩ := q1
  subst ev
  cases r1 with
  | cons ra rr =>
    cases rr with
    | cons rb rr =>
      cases rr
      cases ra
      cases rb
      obtain ⟨_, _, pa, _⟩ := I1.list lx
      obtain ⟨_, _, pb, _⟩ := I1.list ly
      refine call_zip_2 pa.isList pb.isList fun g hz hI hO h1 h2 _ kp => wpAny_pyIter_zip hz ?_
      refine ⟨s1.heap.objs.size + 4, [s1.heap.objs.size + 4, s1.heap.objs.size + 2, s1.heap.objs.size + 3, s1.heap.objs.size, s1.heap.objs.size + 1], _, _, H1, rfl, I1.kept (t' := s1.toks) kp, turn_zipP (PySem.W.ktu_apart s1.heap.objs.size a b pa.lt pb.lt), ⟨hz, hI, ⟨_, _, hO⟩, h1, h2⟩, fun c hc => ?_, q⟩
      have le : s1.heap.objs.size ≤ c := by
        rcases five hc with e | e | e | e | e
        · rw [e]; exact Nat.le_add_right ..
        · rw [e]; exact Nat.le_add_right ..
        · rw [e]; exact Nat.le_add_right ..
        · rw [e]; exact Nat.le_refl _
        · rw [e]; exact Nat.le_add_right ..
      exact I1.fpOk le (I1.hok.fresh le)
/-! the comprehension: as the layer's own, the handled exception stays pinned in its block -/
abbrev blkP (X : Cx) (s : Shared) (H : Hp) (scope : Scope) (ce : Env) (fp : List Addr) (p : Addr × Obj) : Cx := { X.blk s H scope ce fp with pn := [p] }
section
variable {X : Cx}
theorem inv_pin {s0 : Shared} {H0 : Hp} {scope : Scope} {ce : Env} {fp : List Addr} {p : Addr × Obj} {σ : St} {H : Hp} {s : Shared} (I : Inv (X.blk s0 H0 scope ce fp) [] σ H s) (h : s.heap.get? p.1 = some p.2 ∧ H p.1 = none ∧ p.1 ≠ ce.locals ∧ p.1 ∉ frs X.stack ∧ ∀ v, p.2.data ≠ .cell v) : Inv (blkP X s0 H0 scope ce fp p) [] σ H s :=
  ⟨⟨I.ok.mod, I.ok.kind, I.ok.glob, I.ok.blt, I.ok.above, I.ok.inj, I.ok.has, I.ok.cab, I.ok.hd, I.ok.frames, I.ok.stk, I.ok.exf, I.ok.bs, I.ok.bsz, I.ok.noex, I.ok.exfs, I.ok.funs, I.ok.frf⟩, I.os, I.bare, I.base, I.loc, I.cell, I.free, I.freeC, fun q hq => by
    have e : q = p := by simpa using hq
    rw [e]; exact h, I.hok, I.len⟩
theorem pe_lcP {elt tg iter : Expr} {ifs : List Expr} {scope : Scope} {own : List (Str × Nat)} {pos : Pos} {wi : TI} {g : TG} {tt : TT} {te : TE} {p : Addr × Obj} (hot : Hot1 X.A p) (hp : p ∈ X.pn) (hN : X.N.Nodup) (hi : PIH X tg iter wi) (ok : BlkOk X.N X.env.scope scope own)
    (hg : ∀ (s : Shared) (H : Hp) (C : Addr) (cl : List (Str × Addr)) (fp : List Addr), PG (blkP X s H scope (compEnvC scope cl C X.env) fp p) tg g) (ht : ∀ (s : Shared) (H : Hp) (C : Addr) (cl : List (Str × Addr)) (fp : List Addr), PTs (blkP X s H scope (compEnvC scope cl C X.env) fp p) ifs tt)
    (he : ∀ (s : Shared) (H : Hp) (C : Addr) (cl : List (Str × Addr)) (fp : List Addr), PE (blkP X s H scope (compEnvC scope cl C X.env) fp p) elt te) (hs : ∀ x, foldedSetIterable iter X.env x = pure x := by intro _; rfl) : PE X (.ListComp elt [⟨tg, iter, ifs, 0⟩] scope pos) (tLc wi g tt te (own.map (·.2))) := by
  refine ⟨fun ps s σ H Q I h => ?_⟩
  rw [eval_ListComp]
  have hfr : ∀ y ∈ scope.names, y.2 = .free → ∃ c, X.env.cells.lookup y.1 = some c := fun y hy e => I.ok.has _ (ok.free y hy e)
  refine wpAny_comprehension_free (use := none) rfl hs (closure_ok hfr) ok.kind (fun y hy e => by rw [ok.uniq y hy, e]) (thn (hi.run ps s σ H _ I h) fun xv s1 hx => thn hx fun itv s2 h2 => ?_)
  obtain ⟨it, fp, tn, J, H2, e, I2, T, t2, f2, q⟩ := h2
  subst e
  refine wpAny_newObj_type (newEnv_comp ?_) (by show 0 ≤ sizeLine; decide)
  generalize eD : s2.heap.objs.size = D
  have nD : H2 D = none := I2.hok.fresh (Nat.le_of_eq eD)
  obtain ⟨W, ⟨m0, w0⟩, turn⟩ := q D nD
  generalize e3 : ({ s2 with heap := s2.heap.push { cls := .type "list", data := .seq ([] : List Value).toArray } } : Shared) = s3
  have h3 : s3.heap = s2.heap.push { cls := .type "list", data := .seq ([] : List Value).toArray } := by rw [← e3]
  have I3 : Inv X ps σ (upd H2 D (.lst [])) s3 := by
    rw [← e3]
    refine I2.laid (t' := s2.toks) (fun b o z => Heap.get?_push_of_some _ z) (Nat.le_of_eq eD) ⟨Nat.zero_le _, [], 0, .nil, ?_⟩
    rw [← eD]; exact Heap.get?_push_size _ rfl
  have lt2 : ∀ b ∈ fp, b < s2.heap.objs.size := fun b hb => by
    obtain ⟨o, z, _⟩ := T.obj _ _ t2 b hb
    exact Heap.lt_size z
  have f3 : ∀ b ∈ fp, FpOk X ps (upd H2 D (.lst [])) b ∧ b < s3.heap.objs.size := fun b hb => by
    refine ⟨⟨?_, (f2 b hb).2⟩, by rw [h3, Heap.size_push]; exact Nat.lt_succ_of_lt (lt2 b hb)⟩
    rw [upd_ne (by rw [← eD]; exact Nat.ne_of_lt (lt2 b hb))]
    exact (f2 b hb).1
  have t3 : tn 0 s3.heap := T.keep _ _ _ t2 fun b _ o z => by rw [h3]; exact Heap.get?_push_of_some _ z
  have I4 := block_start I3 ok hN f3
  have kg := hg s3 (upd H2 D (.lst [])) s3.heap.objs.size (cellsFrom (s3.heap.objs.size + 1) scope.names (cloFrom X.env.cells scope.names [])) fp
  have kt := ht s3 (upd H2 D (.lst [])) s3.heap.objs.size (cellsFrom (s3.heap.objs.size + 1) scope.names (cloFrom X.env.cells scope.names [])) fp
  have ke := he s3 (upd H2 D (.lst [])) s3.heap.objs.size (cellsFrom (s3.heap.objs.size + 1) scope.names (cloFrom X.env.cells scope.names [])) fp
  have n3 : ∀ b ∈ fp, (upd H2 D (.lst [])) b = none := fun b hb => (f3 b hb).1.1
  have P3 := I3.pin p (List.mem_append_left _ hp)
  have pst : p.1 ∉ frs X.stack := fun hm => (List.mem_cons.mp (I3.stkSub p.1 hm)).elim P3.2.2.1 P3.2.2.2.1
  show codeAny _ _ (.compStart (.ListComp elt [⟨tg, iter, ifs, 0⟩] scope pos) 0 (.ref it) (.ref D) (compEnvC scope (cellsFrom (s3.heap.objs.size + 1) scope.names (cloFrom X.env.cells scope.names [])) s3.heap.objs.size X.env)) (compPost (model X.prog X.w) X.A X.xe none (EP X ps σ Q) (.ref D) s3.heap.objs.size) { s3 with heap := pushCells (s3.heap.push { cls := .type "dict", data := .dict #[] }) scope.names }
  generalize hce : compEnvC scope (cellsFrom (s3.heap.objs.size + 1) scope.names (cloFrom X.env.cells scope.names [])) s3.heap.objs.size X.env = ce at I4 kg kt ke ⊢
  have cL : ce.locals = s3.heap.objs.size := by subst hce; rfl
  generalize hH3 : upd H2 D (.lst []) = H3 at I3 I4 kg kt ke w0 n3 f3 P3
  generalize hs4 : ({ s3 with heap := pushCells (s3.heap.push { cls := .type "dict", data := .dict #[] }) scope.names } : Shared) = s4 at I4 ⊢
  have kp4 : ∀ b o, s3.heap.get? b = some o → s4.heap.get? b = some o := fun b o z => by rw [← hs4]; exact pushCells_keeps _ _ _ _ (Heap.get?_push_of_some _ z)
  have t4 : tn 0 s4.heap := T.keep _ _ _ t3 fun b _ o z => kp4 b o z
  have J4 := inv_pin (p := p) I4 ⟨kp4 _ _ P3.1, P3.2.1, (by rw [cL]; exact Nat.ne_of_lt (Heap.lt_size P3.1)), pst, P3.2.2.2.2⟩
  have hc : HotC (blkP X s3 H3 scope ce fp p) := ⟨p, hot, List.mem_singleton.mpr rfl⟩
  have npf : ∀ b ∈ fp, p.1 ≠ b := fun b hb => (f3 b hb).1.2.2.2.2.2 p (List.mem_append_left _ hp)
  have stat : ∀ {σ' : St} {H' : Hp} {s' : Shared}, Inv (blkP X s3 H3 scope ce fp p) [] σ' H' s' → (∀ b ∈ fp, H' b = none) → ∀ b ∈ fp, FpOk (blkP X s3 H3 scope ce fp p) [] H' b := fun {σ' H' s'} K' hn b hb =>
    ⟨hn b hb, (K'.ok.exf b hb).1, K'.ok.exfs b hb, .inl hb, fun x c z => (K'.ok.exf b hb).2 x c z, fun q hq => by
      have e : q = p := by simpa using hq
      rw [e]; exact npf b hb⟩
  have loop : codeAny (model X.prog X.w) X.A (.compLoop (.ListComp elt [⟨tg, iter, ifs, 0⟩] scope pos) 0 (.ref it) (.ref D) ce) (compPost (model X.prog X.w) X.A X.xe none (EP X ps σ Q) (.ref D) s3.heap.objs.size) s4 := by
    refine compLoop_any (fun n s' => ∃ i H', Inv (blkP X s3 H3 scope ce fp p) [] (wipe σ (own.map (·.2))) H' s' ∧ tn i s'.heap ∧ (∀ b ∈ fp, H' b = none) ∧ W i n H') ?_ m0 ⟨0, H3, J4, t4, n3, w0⟩
    rintro n s5 ⟨i, H5, I5, t5, n5, w5⟩
    rcases turn i n H5 w5 with ⟨stop, qq⟩ | ⟨go, Nx, hNx, step⟩
    · refine thnF (T.done (blkP X s3 H3 scope ce fp p) rfl rfl rfl hc i [] s5 _ H5 (fun _ _ => False) I5 (stat I5 n5) t5 stop) fun r s6 ⟨hr, I6⟩ => ?_
      subst hr
      have I7 : Inv X ps σ H5 s6 := I3.call' (ch := fp) I6.os I6.base I6.hok I6.bare fun b hb => ⟨(f3 b hb).1.2.2.2.1, (f3 b hb).1.2.1, (f3 b hb).1.2.2.2.2.1, (f3 b hb).1.2.2.2.2.2⟩
      have nC : H5 s3.heap.objs.size = none := by
        have z : H5 ce.locals = none := I6.free
        rwa [cL] at z
      obtain ⟨m, hm, _⟩ := I6.loc
      have hm : s6.heap.Ns ce.locals m := hm
      rw [cL] at hm
      obtain ⟨f0, f1, _, f3', f4, f5⟩ := I3.fpOk (b := s3.heap.objs.size) (Nat.le_refl _) nC
      exact ⟨m, hm, fun h'' sb => ⟨.ref D, H5, I7.turned (t' := s6.toks) (fun b o hb z => (sb.2 b hb).trans z) f0 f1 f3' f4 f5, rfl, qq⟩⟩
    · refine thnF (T.item (blkP X s3 H3 scope ce fp p) rfl rfl rfl hc i [] s5 _ H5 (fun _ _ => False) I5 (stat I5 n5) t5 go) fun r s6 ⟨u, hr, h6⟩ => ?_
      subst hr
      refine thnF h6 fun _ s7 ⟨x, H7, I7, r7, y7, t7, n7⟩ => ?_
      refine thnF (kg.run _ s7 _ H7 x u _ (I7.pinned (stat I7 n7) (T.obj _ _ t7)) r7 (step x H7 y7)) fun _ s8 ⟨σ8, H8, I8, hw8, q8⟩ => ?_
      refine thnF (kt.run _ s8 σ8 H8 _ I8 q8) fun b s9 ⟨H9, I9, q9⟩ => ?_
      have fin : ∀ {s' : Shared} {H' : Hp}, Inv (blkP X s3 H3 scope ce fp p) ([] ++ pinsAt fp s7.heap) σ8 H' s' → Nx H' → ∃ m, m < n ∧ ∃ i H', Inv (blkP X s3 H3 scope ce fp p) [] (wipe σ (own.map (·.2))) H' s' ∧ tn i s'.heap ∧ (∀ b ∈ fp, H' b = none) ∧ W i m H' := fun {s' H'} I' nx => by
        obtain ⟨m', hm, w'⟩ := hNx H' nx
        have pp : ∀ b ∈ fp, ∀ o, s7.heap.get? b = some o → s'.heap.get? b = some o ∧ H' b = none := fun b hb o z =>
          have v := I'.pin (b, o) (List.mem_append_right _ (List.mem_append_right _ (mem_pinsAt hb z)))
          ⟨v.1, v.2.1⟩
        have hl : (wipe σ (own.map (·.2))).length = σ8.length := by rw [← hw8, wipe_length]
        refine ⟨m', hm, i + 1, H', (I'.unpinned (pins := [])).weak hl (fun j v z => ?_), T.keep _ _ _ t7 fun b hb o z => (pp b hb o z).1, fun b hb => ?_, w'⟩
        · rw [← hw8] at z; exact (wipe_some z).1
        · obtain ⟨o, z, _⟩ := T.obj _ _ t7 b hb
          exact (pp b hb o z).2
      cases b with
      | false =>
        simp only [Bool.false_eq_true, if_false] at q9 ⊢
        exact fin I9 q9
      | true =>
        simp only [if_true] at q9 ⊢
        refine thnF (ke.run _ s9 σ8 H9 _ I9 q9) fun z s10 ⟨yv, H10, I10, r10, acc, hD10, hz10, nx⟩ => ?_
        exact app_ok (X := blkP X s3 H3 scope ce fp p) I10 hD10 hz10 r10 fun s11 I11 => fin I11 nx
  exact codeAny_compStart_list loop (T.self X.A 0 _ _ _ t4 loop)
end
end RepHot
/-! defs that raise; defs called with the handled exception -/
namespace RepHot
open PySem PySem.Spec PyProof.Rows L2 L2H HotX
section
variable {P : Program} {w : World} {K : PySem.W.Frag} {mg : Str → Option Value} {base : Heap}
/-- a def that may raise, its exceptions without a context -/
theorem okN {x qual : Str} {st : Stmt} {f : Addr} {fd : FuncData} {N ps : List Str} {k : Nat} {sp : Sp} (F : Fun K x qual st f fd) (S : FnScope N ps (defScope st)) (len : ∀ vs H Q E, sp vs H Q E → vs.length = ps.length)
    (hb : ∀ (cdv : Value) (A : Around) (outer : List Env) (s : Shared) (H : Hp) (vs : List V) (Q : VK) (E : XK), Room k (A.deeper (envOfC qual (defScope st) s.heap.objs.size f cdv)) → sp vs H Q E →
      ∃ t, PSs (cxOf (L2N.CX P w) P w K mg base N qual (defScope st) f cdv A outer s H E) (defBody st) t ∧ t { nx := fun _ H' => Q .non H', rt := Q } (start N vs) H) : FnOk P w K mg base (L2N.CX P w) (k + 1) f fd ps sp := by
  obtain ⟨_, _, _, _, _, _, cdv, _, _, rfl, lk, hcd⟩ := F.ex
  exact fn_of lk hcd S len fun A outer s H vs Q E hr h => hb cdv A outer s H vs Q E hr h
/-- what a def promises that is called with the exception that is handled: sp speaks of its address, its class and its dict -/
structure FnP (P : Program) (w : World) (K : PySem.W.Frag) (mg : Str → Option Value) (base : Heap) (CX : CXT) (k : Nat) (f : Addr) (fd : FuncData) (ps : List Str) (sp : Addr → Value → Option Addr → Sp) : Prop where
  len : ∀ a c d vs H Q E, sp a c d vs H Q E → vs.length = ps.length
  run : ∀ (A : Around) (outer : List Env) (s : Shared) (H : Hp) (args : Args) (us : List Value) (vs : List V) (Q : VK) (E : XK) (p : Addr × Obj) (c : Value) (d : Option Addr), RoomH k A → Hot1 A p → PinOk outer H s p → Zc c d p.2 → Env0 P w K mg base A outer s H → BindsTo s fd args (ps.zip us) → Vals vs us → sp p.1 c d vs H Q E →
    codeAny (model P w) A (.call (.ref f) args) (CR CX outer P w H s Q E) s
theorem okP {x qual : Str} {st : Stmt} {f : Addr} {fd : FuncData} {N ps : List Str} {k : Nat} {CX : CXT} {sp : Addr → Value → Option Addr → Sp} (F : Fun K x qual st f fd) (S : FnScope N ps (defScope st)) (len : ∀ a c d vs H Q E, sp a c d vs H Q E → vs.length = ps.length)
    (hb : ∀ (cdv : Value) (A : Around) (outer : List Env) (s : Shared) (H : Hp) (vs : List V) (Q : VK) (E : XK) (p : Addr × Obj) (c : Value) (d : Option Addr), Hot1 A p → Zc c d p.2 → RoomH k (A.deeper (envOfC qual (defScope st) s.heap.objs.size f cdv)) → sp p.1 c d vs H Q E →
      ∃ t, PSs (cxH CX P w K mg base N qual (defScope st) f cdv A outer s H E p) (defBody st) t ∧ t { nx := fun _ H' => Q .non H', rt := Q } (L2.start N vs) H) : FnP P w K mg base CX (k + 1) f fd ps sp := by
  obtain ⟨_, _, _, _, _, _, cdv, _, _, rfl, lk, hcd⟩ := F.ex
  refine ⟨len, fun A outer s H args us vs Q E p c d hr hot hpin hz e0 bt r h => ?_⟩
  have kin : K.In s.heap := e0.mod.kin.keeps fun b o z => (e0.bs b o z).1
  have nol : s.heap.NoLimit := e0.mod.nolimit.keeps fun b o z => (e0.bs b o z).1
  have hk : ∀ y ∈ ps.zip us, (defScope st).names.lookup y.1 = some .local ∨ ((defScope st).names.lookup y.1 = some .cell ∧ ((cellsFrom (s.heap.objs.size + 1) (defScope st).names []).lookup y.1).isSome = true) := fun y hy =>
    (S.par y.1 (List.of_mem_zip (show (y.1, y.2) ∈ ps.zip us from hy)).1).imp id fun q => ⟨q, PySem.W.cellsFrom_some _ _ _ (.inl q)⟩
  refine codeAny_call_function hr.depth (kin _ _ lk) rfl S.co S.gen rfl (PySem.W.codeRec_of kin hcd) (bt _ _ _ _ (wpAny_newFunctionEnv_cells S.kind hk fun env he s1 x1 => ?_))
  subst he
  refine ⟨nol.keeps x1.toInCall.keep, codeAny_func ?_⟩
  obtain ⟨t, ht, hq⟩ := hb cdv A outer s H vs Q E p c d hot hz (hr.deeper _) h
  refine wpAny_mono (ht.run [] s1 (L2.start N vs) H _ (inv_startH S hpin e0 (len _ _ _ _ _ _ _ h) r x1) hq) (fun fl s' hs => ?_) fun e s' hs => hs
  cases fl with
  | ret u =>
    obtain ⟨v, σ', H', J, rv, q⟩ := hs
    exact ⟨v, H', J.os, J.bare, J.base, J.hok, rv, q⟩
  | next =>
    obtain ⟨σ', H', J, q⟩ := hs
    exact ⟨.non, H', J.os, J.bare, J.base, J.hok, rfl, q⟩
  | brk => obtain ⟨_, _, _, q⟩ := hs; exact q.elim
  | cont => obtain ⟨_, _, _, q⟩ := hs; exact q.elim
end
section
variable {X : Cx} {CX : CXT} {k : Nat} {f C : Addr} {fd : FuncData} {ps : List Str} {x m : Str} {q pos apos : Pos} {e o : Expr} {es : List Expr} {ta : TE} {t : TA}
/-- f(e, ..) where e's exception is handled -/
theorem pe_callP {sp : Addr → Value → Option Addr → Sp} {a : Addr} {oe : Obj} {c : Value} {d : Option Addr} (F : FnP X.prog X.w X.K X.mg X.base CX0 k f fd ps sp) (hr : RoomH k X.A) (hot : Hot1 X.A (a, oe)) (hp : (a, oe) ∈ X.pn) (hz : Zc c d oe) (hg : Gl X x) (hm : X.mg x = some (.ref f)) (hk : PySem.W.keepIn X.K (.ref f) = true) (hb : Binds X.K fd ps [])
    (ha : PA X (e :: es) t) (hdb : (x == ("__debug__" : Str)) = false := by decide) (he : starEach (e :: es) X.env = (false, eval e X.env) :: starEach es X.env := by rfl) (hpl : (backTo pos (starEach es X.env)).any (·.1) = false := by rfl) :
    PE X (.Call (.Name x q) (e :: es) [] pos) (tCallS (sp a c d) (fun _ _ _ _ => False) t) := by
  refine ⟨fun pins s σ H Q I h => wpAny_Call_Name_kw (ld_glob I hg hm (PySem.W.callWith_K (h₀ := X.base) I.ok.mod.kin hk (thn (ha.run pos pins s σ H _ I h) fun us s1 ⟨vs, H1, I1, r, q⟩ => ⟨I1.kIn, ?_⟩) he hpl) hdb)⟩
  have hl : us.length = ps.length := by rw [← r.length]; exact F.len _ _ _ _ _ _ _ q
  have b := hb s1 us I1.kIn (by rw [List.append_nil]; exact hl)
  rw [List.append_nil] at b
  have P1 := I1.pin (a, oe) (List.mem_append_left _ hp)
  have hpin : PinOk X.stack H1 s1 (a, oe) := ⟨P1.1, P1.2.1, fun hm => (List.mem_cons.mp (I1.stkSub a hm)).elim P1.2.2.1 P1.2.2.2.1, P1.2.2.2.2⟩
  refine wpAny_call (codeAny_mono (F.run X.A X.stack s1 H1 ⟨us, []⟩ us vs Q _ (a, oe) c d hr hot hpin hz I1.env0 b r q) fun r s' hq => ?_)
  cases r with
  | error e => exact hq.elim
  | ok fl =>
    cases fl with
    | ret u => exact I1.after hq
    | next => exact hq.elim
    | brk => exact hq.elim
    | cont => exact hq.elim
/-- o.m(e, ..) where what is raised is wished for at the caller's slots -/
def tMethN (C : Addr) (m : Str) (sp : Sp) (E : St → XK) (ta : TE) (t : TA) : TE := fun σ H Q => ta σ H fun x H1 => ∃ a dx fs, x = .ref a ∧ H1 a = some (.ins C dx fs) ∧ fs.lookup m = none ∧ t σ H1 fun vs H2 => sp (x :: vs) H2 Q (E σ)
theorem pe_methN {sp : Sp} {E : St → XK} {pl : Sem Bool} (he : PE X o ta) (c : Cls X.K C) (hm : Meth X.K C m f) (F : FnOk X.prog X.w X.K X.mg X.base CX k f fd ps sp) (hr : Room k X.A) (hb : Binds X.K fd ps []) (hx : ∀ σ, PassesAt CX X σ (E σ)) (ha : PA X (e :: es) t)
    (hst : starEach (e :: es) X.env = (false, eval e X.env) :: starEach es X.env := by rfl) (hpl : (backTo pos (starEach es X.env)).any (·.1) = false := by rfl)
    (ht : eval (.Call (.Attribute o m apos) (e :: es) [] pos) X.env = (do let ov ← eval o X.env; standAt apos.atName; let (f, first) ← holding [ov] (getMethod ov m pl); callWith pos f first (backTo pos (starEach (e :: es) X.env)) (backToKw pos (keywordEach [] X.env))) := by rfl) :
    PE X (.Call (.Attribute o m apos) (e :: es) [] pos) (tMethN C m sp E ta t) := by
  refine ⟨fun pins s σ H Q I h => PySem.W.methodCall_KW (pl := pl) (thn (he.run pins s σ H _ I h) fun u s1 ⟨x, H1, I1, rx, a, dx, fs, ex, ea, l, q⟩ => ?_) ht⟩
  subst ex
  obtain rfl : u = Value.ref a := rx
  refine getmeth_ok I1 ea c hm l (PySem.W.callWith_K (first := [.ref a]) (h₀ := X.base) I.ok.mod.kin hm.kp (thn (ha.run pos pins s1 σ H1 _ I1 q) fun us s2 ⟨vs, H2, I2, r, q2⟩ => ⟨I2.kIn, ?_⟩) hst hpl)
  exact run_fnS (us := .ref a :: us) (vs := .ref a :: vs) F hr hb (hx σ) I2 (.cons rfl r) q2
theorem pe_methN0 {sp : Sp} {E : St → XK} {pl : Sem Bool} (he : PE X o ta) (c : Cls X.K C) (hm : Meth X.K C m f) (F : FnOk X.prog X.w X.K X.mg X.base CX k f fd ps sp) (hr : Room k X.A) (hb : Binds X.K fd ps []) (hx : ∀ σ, PassesAt CX X σ (E σ))
    (ht : eval (.Call (.Attribute o m apos) [] [] pos) X.env = (do let ov ← eval o X.env; standAt apos.atName; let (f, first) ← holding [ov] (getMethod ov m pl); callWith pos f first (backTo pos (starEach [] X.env)) (backToKw pos (keywordEach [] X.env))) := by rfl) :
    PE X (.Call (.Attribute o m apos) [] [] pos) (tMethN C m sp E ta tNil) := by
  refine ⟨fun pins s σ H Q I h => PySem.W.methodCall_KW (pl := pl) (thn (he.run pins s σ H _ I h) fun u s1 ⟨x, H1, I1, rx, a, dx, fs, ex, ea, l, q⟩ => ?_) ht⟩
  subst ex
  obtain rfl : u = Value.ref a := rx
  refine getmeth_ok I1 ea c hm l (PySem.W.callWith_K0 I1.kIn hm.kp ?_)
  exact run_fnS (us := [.ref a]) (vs := [.ref a]) F hr hb (hx σ) I1 (.cons rfl .nil) q
/-- isinstance(e, c), e pinned -/
theorem call_isP {a D : Addr} {oe : Obj} (hp : (a, oe) ∈ X.pn) (C : ExcC X.K D) (hz : Zc (.ref D) none oe) (hf : ∃ vs, oe.data = .fields vs) : CallR X (.builtin "isinstance") (rIsE X.K D a) := by
  intro pins s σ H xs us Q I r h
  obtain ⟨c, cv, b, rfl, hcv, e, q⟩ := h
  match us, r with
  | [_, _], .cons rx (.cons rt .nil) =>
    cases rx
    obtain rfl := hcv _ rt
    obtain ⟨g, _⟩ := I.pin (a, oe) (List.mem_append_left _ hp)
    obtain ⟨vs, hv⟩ := hf
    have J : PySem.W.InstAt s.heap a oe D none := by
      obtain ⟨oc, od, oda, osl⟩ := oe
      obtain ⟨h1, h2⟩ := hz
      dsimp only at h1 h2 hv
      subst h1 h2 hv
      exact ⟨g, rfl, rfl, trivial⟩
    exact PySem.W.kia_one (PySem.W.handS_kitx_exc C.hg C.hk C.hs C.hd C.ha C.hn C.ht C.hm) I.kIn J e (fun z => nomatch z) fun tk => ⟨.bl b, H, I.kept (t' := tk) fun _ _ z => z, rfl, q⟩
/-- the suite's own exception -/
theorem hot_of {a : Addr} {oe : Obj} {c : Value} {d : Option Addr} {pn : List (Addr × Obj)} (hz : L2N.Zn c d oe) (hf : ∃ vs, oe.data = .fields vs) : Hot1 (X.suite a ((a, oe) :: pn)).A (a, oe) := by
  obtain ⟨vs, e⟩ := hf
  exact ⟨rfl, vs, e, hz.2.2 vs e⟩
theorem room_suite {a : Addr} {pn : List (Addr × Obj)} (hr : Room k X.A) : RoomH k (X.suite a pn).A := ⟨hr.dp, hr.un⟩
theorem takesN : L2N.Takes X (fun _ _ _ _ => False) := fun _ _ x => by
  obtain ⟨_, _, _, _, _, _, _, _, _, _, _, _, _, _, _, _, z⟩ := x
  exact z.elim
end
/-- where it is not refused nothing is raised -/
theorem fn_calm {P : Program} {w : World} {K : PySem.W.Frag} {mg : Str → Option Value} {base : Heap} {k : Nat} {f : Addr} {fd : FuncData} {ps : List Str} {sp : Sp} (F : FnOk P w K mg base (L2N.CX P w) k f fd ps sp) : FnOk P w K mg base CX0 k f fd ps (fun vs H Q _ => sp vs H Q (fun _ _ _ => False)) := by
  refine ⟨fun vs H Q E h => F.len _ _ _ _ h, fun A outer s H args us vs Q E hr e0 hb r h => codeAny_mono (F.run A outer s H args us vs Q _ hr e0 hb r h) fun r s' hq => ?_⟩
  cases r with
  | error e =>
    obtain ⟨_, _, _, _, _, _, _, _, _, _, _, _, z⟩ := hq
    exact z.elim
  | ok fl =>
    cases fl with
    | ret u => exact hq
    | next => exact hq.elim
    | brk => exact hq.elim
    | cont => exact hq.elim
end RepHot
namespace Rep
open PySem L2
def topS (i : Nat) : Stmt := PySem.Challenge.pw_reprise_k41_pages_refused.main.body.getD i (.Pass ⟨0, 0, 0, 0⟩)
abbrev s_wall : Stmt := topS 0
abbrev sBadPageInit : Stmt := inClass (topS 11) 0
abbrev sCheck_length : Stmt := topS 14
abbrev sCheck_stretch : Stmt := topS 15
abbrev sCheck_sayings : Stmt := topS 16
abbrev sCheck_letter : Stmt := topS 17
abbrev sCheck_memory : Stmt := topS 18
abbrev sPlace_of : Stmt := topS 21
abbrev sWithout : Stmt := topS 22
abbrev sUnnumbered : Stmt := topS 23
abbrev sCheck_room : Stmt := topS 24
abbrev sCheck_change : Stmt := topS 25
abbrev sSheetInit : Stmt := inClass (topS 26) 0
abbrev sSheetWith_saying : Stmt := inClass (topS 26) 1
abbrev sSheetWith_memory : Stmt := inClass (topS 26) 2
abbrev sSheetCounted_on : Stmt := inClass (topS 26) 3
abbrev sSheetWithout_saying : Stmt := inClass (topS 26) 4
abbrev sSheetWithout_memory : Stmt := inClass (topS 26) 5
abbrev sSheetAmended : Stmt := inClass (topS 26) 6
abbrev sSheetResized : Stmt := inClass (topS 26) 7
abbrev sSheetLengthened : Stmt := inClass (topS 26) 8
abbrev sSheetShortened : Stmt := inClass (topS 26) 9
abbrev sSheetUsed : Stmt := inClass (topS 26) 10
abbrev sSheetLast_number : Stmt := inClass (topS 26) 11
abbrev sBookInit : Stmt := inClass (topS 28) 0
abbrev sBookSheet : Stmt := inClass (topS 28) 1
abbrev sBookLength : Stmt := inClass (topS 28) 2
abbrev sBookComing : Stmt := inClass (topS 28) 3
abbrev sBookSayings : Stmt := inClass (topS 28) 4
abbrev sBookMemories : Stmt := inClass (topS 28) 5
abbrev sBookSay : Stmt := inClass (topS 28) 6
abbrev sBookUnsay : Stmt := inClass (topS 28) 7
abbrev sBookAmend : Stmt := inClass (topS 28) 8
abbrev sBookRemember : Stmt := inClass (topS 28) 9
abbrev sBookForget : Stmt := inClass (topS 28) 10
abbrev sBookLengthen : Stmt := inClass (topS 28) 11
abbrev sBookShorten : Stmt := inClass (topS 28) 12
abbrev sBookGo_on : Stmt := inClass (topS 28) 13
abbrev sBookTurn : Stmt := inClass (topS 28) 14
abbrev sBookUndo : Stmt := inClass (topS 28) 15
abbrev sBookRedo : Stmt := inClass (topS 28) 16
abbrev sBookUndoable : Stmt := inClass (topS 28) 17
abbrev sBookRedoable : Stmt := inClass (topS 28) 18
abbrev sBookClasses : Stmt := inClass (topS 28) 19
abbrev sBookHeard : Stmt := inClass (topS 28) 20
abbrev sBookIf_said : Stmt := inClass (topS 28) 21
abbrev sBookTwin : Stmt := inClass (topS 28) 22
abbrev sBook_of : Stmt := topS 29
abbrev sWords_of : Stmt := topS 33
abbrev sNumber_of : Stmt := topS 34
abbrev sTurned_of : Stmt := topS 35
abbrev sSaying_of : Stmt := topS 36
abbrev sRead : Stmt := topS 39
abbrev sFirst_sheet : Stmt := topS 40
abbrev sWith_row : Stmt := topS 41
abbrev sRising : Stmt := topS 42
abbrev s_law_kin : Stmt := topS 44
abbrev sMix : Stmt := topS 45
abbrev sRaw : Stmt := topS 46
abbrev sDig : Stmt := topS 47
abbrev s_law_ten : Stmt := topS 48
abbrev s_law_book : Stmt := topS 49
abbrev s_law_length_next : Stmt := topS 50
abbrev s_law_good_stretch : Stmt := topS 51
abbrev s_law_numbers : Stmt := topS 52
abbrev s_law_row_next : Stmt := topS 53
abbrev s_law_do_model : Stmt := topS 54
abbrev s_law_saying : Stmt := topS 55
abbrev s_law_letter : Stmt := topS 56
abbrev s_law_deed : Stmt := topS 57
abbrev s_law_great_deed : Stmt := topS 58
abbrev s_law_page_text : Stmt := topS 59
abbrev s_law_spoilt_text : Stmt := topS 60
abbrev s_law_number_word : Stmt := topS 61
abbrev s_law_things : Stmt := topS 62
abbrev s_law_due_row : Stmt := topS 63
abbrev s_law_due_page : Stmt := topS 64
abbrev sSame : Stmt := topS 65
abbrev s_law_stands : Stmt := topS 66
abbrev s_law_read : Stmt := topS 67
abbrev sLaw : Stmt := topS 68
end Rep
namespace L2
open PySem PySem.Spec PyProof.Rows
/-! o.m(*y) -/
theorem starcall1_of {M : Model} {A : Around} {E : Value → Shared → Prop} {s : Shared} {env : Env} {o e2 : Expr} {m : Str} {p apos pos : Pos} {Q : Value → Shared → Prop} (hbase : attributeBase o m env (eval o env) = eval o env)
    (hst : starEach [.Starred e2 p] env = [(true, eval e2 env)])
    (h : wpAny M A (eval o env) (fun ov s₁ => wpAny M A (getAttr ov m true) (fun f s₂ => wpAny M A (callWith pos f [] (backTo pos [(true, eval e2 env)]) []) Q E s₂) E s₁) E s) :
    wpAny M A (eval (.Call (.Attribute o m apos) [.Starred e2 p] [] pos) env) Q E s := by
  have hke : backToKw pos (keywordEach [] env) = [] := rfl
  have hform : methodCallForm ([Expr.Starred e2 p].length + ([] : List Keyword).length) (backTo pos [(true, eval e2 env)]) [] = false := rfl
  have hpos : methodCallPos false o env apos pos = pure pos := rfl
  have hcal : ∀ ov, calleeOf false o env ov m = (getAttr ov m true >>= fun v => pure (v, [])) := fun _ => rfl
  rw [arm_eval_Call, hbase, hst, hke]
  refine wpAny_bind (wpAny_mono h (fun ov s₁ h₁ => ?_) fun _ _ x => x)
  refine wpAny_bind (wpAny_standAt ?_)
  unfold methodCall
  rw [hform, hpos, hcal]
  refine wpAny_bind (wpAny_holding (wpAny_bind (wpAny_mono h₁ (fun f s₂ h₂ => wpAny_pure ?_) fun _ _ x => x)))
  exact wpAny_bind (wpAny_pure h₂)
def tMethS1 (K : PySem.W.Frag) (C : Addr) (m : Str) (g : Addr) (sp : Sp) (E : XK) (ta t2 : TE) : TE := fun σ H Q => ta σ H fun x H1 => ∃ a dx fs, x = .ref a ∧ H1 a = some (.ins C dx fs) ∧ fs.lookup m = none ∧
  ∀ q, H1 q = none → t2 σ (upd H1 q (.met g a)) fun y2 H3 => ∃ b vs, y2 = .ref b ∧ (SqT K H3 b vs ∨ SqL K H3 b vs) ∧ H3 q = some (.met g a) ∧ sp (.ref a :: vs) H3 Q E
theorem pe_methS1 {X : Cx} {CX : CXT} {k : Nat} {C g : Addr} {m : Str} {sp : Sp} {E : XK} {o e2 : Expr} {ta t2 : TE} {p apos pos : Pos} (he : PE X o ta) (c : Cls X.K C) (b : BMeth X.K C m g) (F : FnR X.prog X.w X.K X.mg X.base CX k g sp) (hr : Room k X.A)
    (hx : Passes CX X E) (h2 : PE X e2 t2) (hbase : attributeBase o m X.env (eval o X.env) = eval o X.env := by rfl)
    (hst : starEach [.Starred e2 p] X.env = [(true, eval e2 X.env)] := by rfl) : PE X (.Call (.Attribute o m apos) [.Starred e2 p] [] pos) (tMethS1 X.K C m g sp E ta t2) := by
  refine ⟨fun pins s σ H Q I h => ?_⟩
  refine starcall1_of hbase hst (thn (he.run pins s σ H _ I h) fun u s1 ⟨x, H1, I1, rx, a, dx, fs, ex, ea, l, q⟩ => ?_)
  subst ex
  obtain rfl : u = Value.ref a := rx
  refine getbound_ok I1 ea c b l fun q1 s2 hq1 I2 => ?_
  refine PySem.W.ks_call (P := PySem.W.MethP X.K q1 g (.ref a)) rfl (PySem.W.keeps_M b.fi) (PySem.W.ks_lone (thn (h2.run pins s2 σ _ _ I2 (q q1 hq1)) fun v2 s4 ⟨y2, H3, I4, ry2, t, vs, ey, ht, hm, hsp⟩ => ?_))
  subst ey
  obtain rfl : v2 = Value.ref t := ry2
  refine StX.star_any I4 ht fun us s5 I5 rv => ?_
  show PySem.W.MethP X.K q1 g (.ref a) s5.heap ∧ wpAny (model X.prog X.w) X.A (call (.ref q1) us []) (EP X pins σ Q) X.xe s5
  exact ⟨met_P I5 hm, wpAny_call (PySem.W.method_call (met_P I5 hm).1 (run_fnR (us := Value.ref a :: us) (vs := V.ref a :: vs) F hr hx I5 (.cons rfl rv) hsp))⟩
end L2
namespace L2
open PySem PySem.Spec PyProof.Rows
/-! match over a list of words: a word of its own first, then names; and the case of all that is left -/
structure PMs (X : Cx) (cs : List MatchCase) (t : V → TS) : Prop where
  run : ∀ (first : Bool) (pins : List (Addr × Obj)) (s : Shared) (σ : St) (H : Hp) (D : Ends) (v : V) (u : Value), Inv X pins σ H s → RelV v u → t v D σ H → wpAny (model X.prog X.w) X.A (matchCases cs X.env u first) (SP X pins D) X.xe s
def tMatch (te : TE) (t : V → TS) : TS := fun D σ H => te σ H fun v H1 => t v D σ H1
theorem ps_match {X : Cx} {e : Expr} {te : TE} {cs : List MatchCase} {t : V → TS} {pos : Pos} (he : PE X e te) (hm : PMs X cs t) : PS X (.Match e cs pos) (tMatch te t) := by
  refine ⟨fun pins s σ H D I h => ?_⟩
  refine wpAny_Match (thn (he.run pins s σ H _ I h) fun u s1 ⟨v, H1, I1, r1, q1⟩ => ?_)
  exact hm.run true pins s1 σ H1 D v u I1 r1 q1
theorem pm_nil {X : Cx} : PMs X [] (fun _ D σ H => D.nx σ H) := ⟨fun _ _ _ σ H _ _ _ I _ h => wpAny_matchCases_nil ⟨σ, H, I, h⟩⟩
theorem pm_any {X : Cx} {pos : Pos} {body : List Stmt} {rest : List MatchCase} {t : TS} (hb : PSs X body t) : PMs X (⟨.MatchAs none none pos, none, body⟩ :: rest) (fun _ => t) := by
  refine ⟨fun _ pins s σ H D v u I _ h => ?_⟩
  refine wpAny_matchCases_cons (wpAny_matchPattern_Capture ?_)
  exact wpAny_assignInOrder_none (hb.run pins s σ H D I h)
/-- names alone -/
inductive Caps (X : Cx) : List Pattern → List Nat → Prop
  | nil : Caps X [] []
  | cons {x : Str} {i : Nat} {pos : Pos} {ps : List Pattern} {is : List Nat} (hi : X.N[i]? = some x) (hx : Loc X.env.scope x) (r : Caps X ps is) (hf : X.fn x = true ∨ X.env.scope.names.lookup x = some .local := by first | exact .inl rfl | exact .inr rfl | assumption) : Caps X (.MatchAs none (some x) pos :: ps) (i :: is)
def bsOf : List Pattern → List Value → List (Str × Value)
  | .MatchAs none (some x) _ :: ps, u :: us => (x, u) :: bsOf ps us
  | _, _ => []
def setAll : List Nat → List V → St → St
  | i :: is, v :: vs, σ => setAll is vs (σ.set i (some v))
  | _, _, σ => σ
theorem Caps.len {X : Cx} {ps : List Pattern} {is : List Nat} (c : Caps X ps is) : ps.length = is.length := by
  induction c with
  | nil => rfl
  | cons _ _ _ _ ih => simp [ih]
theorem caps_each {X : Cx} {M : Model} {A : Around} {E : Value → Shared → Prop} {ps : List Pattern} {is : List Nat} (c : Caps X ps is) : ∀ (us : List Value) (s : Shared) (Q : Option (List (Str × Value)) → Shared → Prop), us.length = ps.length → Q (some (bsOf ps us)) s → wpAny M A (matchEach ps X.env us) Q E s := by
  induction c with
  | nil =>
    intro us s Q hl q
    cases us with
    | nil => exact wpAny_matchEach_nil q
    | cons u us => simp at hl
  | @cons x i pos ps is hi hx r hf ih =>
    intro us s Q hl q
    cases us with
    | nil => simp at hl
    | cons u us =>
      refine wpAny_matchEach_cons (wpAny_matchPattern_Capture ?_) rfl
      exact ih us s _ (by simpa using hl) q
theorem caps_bind {X : Cx} {ps : List Pattern} {is : List Nat} (hN : X.N.Nodup) (c : Caps X ps is) : ∀ (pins : List (Addr × Obj)) (vs : List V) (us : List Value) (s : Shared) (σ : St) (H : Hp) (Q : Unit → Shared → Prop), us.length = ps.length → Inv X pins σ H s → Vals vs us → (∀ s', Inv X pins (setAll is vs σ) H s' → Q () s') →
    wpAny (model X.prog X.w) X.A (assignInOrder ((bsOf ps us).map fun (n, _) => bindName X.env n) ((bsOf ps us).map (·.2))) Q X.xe s := by
  induction c with
  | nil =>
    intro pins vs us s σ H Q hl I rv q
    cases us with
    | nil =>
      refine wpAny_assignInOrder_none (q s ?_)
      cases vs <;> exact I
    | cons u us => simp at hl
  | @cons x i pos ps is hi hx r hf ih =>
    intro pins vs us s σ H Q hl I rv q
    cases us with
    | nil => simp at hl
    | cons u us =>
      cases rv with
      | @cons v _ vs _ r1 rv =>
        refine wpAny_assignInOrder_more (wpAny_bindName (store_ok I hN hi hx r1 (fun s2 I2 => ?_) hf))
        exact ih pins vs us s2 _ H Q (by simpa using hl) I2 rv q
def tWords (c : Str) (is : List Nat) (body : TS) (rest : V → TS) : V → TS := fun v D σ H => ∃ (a : Addr) (ws : List Str), v = .ref a ∧ H a = some (.lst (ws.map V.str)) ∧ ws.length < 2 ^ 62 ∧
  ((ws.length = is.length + 1 ∧ ws.head? = some c) → body D (setAll is (ws.tail.map V.str) σ) H) ∧ (¬ (ws.length = is.length + 1 ∧ ws.head? = some c) → rest v D σ H)
theorem pm_words {X : Cx} {c : Str} {e : Expr} {p0 pos : Pos} {ps : List Pattern} {is : List Nat} {body : List Stmt} {rest : List MatchCase} {tb : TS} {tr : V → TS} (hc : X.calm = true) (hN : X.N.Nodup) (he : PE X e (tC (.str c))) (cp : Caps X ps is) (hb : PSs X body tb) (hr : PMs X rest tr)
    (hstar : (Pattern.MatchValue e p0 :: ps).findIdx? (·.isStar) = none := by rfl)
    (hwild : ((Pattern.MatchValue e p0 :: ps).all fun p => p.isWildcard || (p.isStar && p.names.isEmpty)) = false := by rfl) :
    PMs X (⟨.MatchSequence (.MatchValue e p0 :: ps) pos, none, body⟩ :: rest) (tWords c is tb tr) := by
  refine ⟨fun first pins s σ H D v u I r h => ?_⟩
  obtain ⟨a, ws, rfl, ha, hl, hy, hn⟩ := h
  cases r
  obtain ⟨its, rv, pl, hz⟩ := I.list (.inl (.inl ha))
  have lw : its.length = ws.length := by rw [← rv.length, List.length_map]
  have hfit : ((its.toArray).size : Int) < 2 ^ 63 := by
    have : (its.toArray).size = its.length := by simp
    omega
  by_cases hlen : ws.length = is.length + 1
  · refine wpAny_matchCases_cons (matchSeq_list_hit pl.isList hfit (by simp [lw, hlen, cp.len]) ?_ hstar hwild)
    have hsz : (Pattern.MatchValue e p0 :: ps).length = its.toArray.size := by simp [lw, hlen, cp.len]
    have I0 : Inv X pins σ H { s with toks := s.toks + 1 + 1 } := (I.tok _)
    rw [hsz]
    refine PySem.W.kun_itemsOf (I.ok.hd hc) pl.isList fun h' hx => ?_
    have I1 : Inv X pins σ H { s with heap := h', toks := s.toks + 1 + 1 } := I.kept (t' := s.toks + 1 + 1) fun b o e => hx b o (Nat.ne_of_lt (Heap.lt_size e)) e
    cases ws with
    | nil => simp at hlen
    | cons w ws =>
      cases its with
      | nil => simp at lw
      | cons u us =>
        cases rv with
        | cons r1 rv =>
          have ul : us.length = ps.length := by
            have : us.length = ws.length := by simpa using lw
            have : ws.length = is.length := by simpa using hlen
            rw [cp.len]; omega
          refine wpAny_matchEach_cons (wpAny_matchPattern_Value ?_) rfl
          refine thn (he.run pins _ σ H (fun y H1 => y = .str c ∧ H1 = H) I1 ⟨rfl, rfl⟩) fun x s2 ⟨y, H1, I2, r2, ey, eH⟩ => ?_
          subst ey
          subst eH
          refine thn (op_eq pins s2 σ H1 (.str w) (.str c) u x (fun z H2 => z = .bl (decide (V.str w = V.str c)) ∧ H2 = H1) I2 r1 r2 ⟨rfl, rfl, rfl⟩) fun cv s3 ⟨z, H2, I3, r3, ez, eH⟩ => ?_
          subst ez
          subst eH
          cases r3
          refine wpAny_truthy_bool ?_
          by_cases hw : w = c
          · subst hw
            rw [decide_eq_true rfl, if_pos rfl]
            refine caps_each cp us s3 _ ul ?_
            show wpAny _ _ (assignInOrder (([] ++ bsOf ps us).map _) (([] ++ bsOf ps us).map _)) _ _ _
            rw [List.nil_append]
            exact caps_bind hN cp pins _ us s3 σ H2 _ ul I3 rv fun s4 I4 => hb.run pins s4 _ H2 D I4 (hy ⟨hlen, rfl⟩)
          · rw [decide_eq_false (fun z => hw (V.str.inj z)), if_neg (by decide)]
            exact hr.run false pins s3 σ H2 D (.ref a) (.ref a) I3 (by constructor) (hn fun z => hw (Option.some.inj z.2))
  · refine wpAny_matchCases_cons (matchSeq_list_miss pl.isList hfit (by simp [lw, cp.len]; exact hlen) ?_ hstar hwild)
    exact hr.run false pins _ σ H D (.ref a) (.ref a) (I.tok _) (by constructor) (hn fun z => hlen z.1)
end L2
namespace Rep
open PySem L2 L2H RepHot
/-! which refusal it is, by the law's own words -/
def kinWords : List Str := ["BadLength", "BadStretch", "NoPlace", "NoNumber", "BadLetter", "Full", "InUse", "NothingLeft", "BadPage", "odd"]
def kinWord (j : Nat) : Str := kinWords.getD j ""
/-- the class D is the one at place j of the nine -/
structure KinD (K : PySem.W.Frag) (cs : List Addr) (D : Addr) (j : Nat) : Prop where
  ex : ExcC K D
  lt : j < 9
  own : ∀ i c, cs[i]? = some c → PySem.W.kitOne K (.ref D) (.ref c) = some (decide (i = j))
  val : PySem.W.kitOne K (.ref D) (.type "ValueError") = some true
structure KinM (mg : Str → Option Value) (cs : List Addr) : Prop where
  ln : cs.length = 9
  at_ : ∀ i c, cs[i]? = some c → mg (kinWord i) = some (.ref c)
def spKin (K : PySem.W.Frag) (cs : List Addr) : Addr → Value → Option Addr → Sp := fun a c d vs H Q _ => ∃ (D : Addr) (j : Nat), c = .ref D ∧ d = none ∧ KinD K cs D j ∧ vs = [.ref a] ∧ ∀ H', Same H H' → Q (.str (kinWord j)) H'
abbrev nKin : List Str := ["_law_e", "_law_found", "_law_words", "_law_word", "_law_kin_here"]
theorem scKin : FnScope nKin ["_law_e"] (defScope s_law_kin) := ⟨rfl, rfl, rfl, by decide +kernel, rfl, by decide +kernel, by decide +kernel⟩
def kinFlags (j : Nat) : List Bool := (List.range 10).map fun i => decide (i = j)
section
variable {P : Program} {w : World} {K : PySem.W.Frag} {mg : Str → Option Value} {base : Heap}
theorem ok_kin {f c0 c1 c2 c3 c4 c5 c6 c7 c8 : Addr} {fd : FuncData} {k : Nat} (F : Fun K "_law_kin" "_law_kin" s_law_kin f fd) (M : KinM mg [c0, c1, c2, c3, c4, c5, c6, c7, c8]) (mi : mg "isinstance" = none) (mV : mg "ValueError" = none) (mz : mg "zip" = none) :
    FnP P w K mg base CX0 (k + 1) f fd ["_law_e"] (spKin K [c0, c1, c2, c3, c4, c5, c6, c7, c8]) := by
  refine okP F scKin (fun a c d vs H Q E h => ?_) (fun cdv A outer s H vs Q E p c d hot hz hr h => ?_)
  · obtain ⟨D, j, _, _, _, rfl, _⟩ := h; rfl
  obtain ⟨D, j, rfl, rfl, kd, rfl, q⟩ := h
  have g0 : mg "BadLength" = some (.ref c0) := M.at_ 0 c0 rfl
  have g1 : mg "BadStretch" = some (.ref c1) := M.at_ 1 c1 rfl
  have g2 : mg "NoPlace" = some (.ref c2) := M.at_ 2 c2 rfl
  have g3 : mg "NoNumber" = some (.ref c3) := M.at_ 3 c3 rfl
  have g4 : mg "BadLetter" = some (.ref c4) := M.at_ 4 c4 rfl
  have g5 : mg "Full" = some (.ref c5) := M.at_ 5 c5 rfl
  have g6 : mg "InUse" = some (.ref c6) := M.at_ 6 c6 rfl
  have g7 : mg "NothingLeft" = some (.ref c7) := M.at_ 7 c7 rfl
  have g8 : mg "BadPage" = some (.ref c8) := M.at_ 8 c8 rfl
  have hf : ∃ vs, p.2.data = .fields vs := by obtain ⟨_, vs, e, _⟩ := hot; exact ⟨vs, e⟩
  have hp : (p.1, p.2) ∈ [p] := List.mem_singleton.mpr rfl
  refine ⟨_, (pss_cons (ps_set (i := 1) scKin.nd rfl (.inl rfl) (pe_lst (pa_cons (pe_callB (call_isP hp kd.ex hz hf) (by rfl) mi PyProof.Rows.boot_isinstance (pa_cons (pv 0) (pa_cons (pe_glob (v := .ref c0) (by rfl) g0 rfl) pa_nil))) (pa_cons (pe_callB (call_isP hp kd.ex hz hf) (by rfl) mi PyProof.Rows.boot_isinstance (pa_cons (pv 0) (pa_cons (pe_glob (v := .ref c1) (by rfl) g1 rfl) pa_nil))) (pa_cons (pe_callB (call_isP hp kd.ex hz hf) (by rfl) mi PyProof.Rows.boot_isinstance (pa_cons (pv 0) (pa_cons (pe_glob (v := .ref c2) (by rfl) g2 rfl) pa_nil))) (pa_cons (pe_callB (call_isP hp kd.ex hz hf) (by rfl) mi PyProof.Rows.boot_isinstance (pa_cons (pv 0) (pa_cons (pe_glob (v := .ref c3) (by rfl) g3 rfl) pa_nil))) pa_nil))))))
    (pss_cons (ps_set (i := 1) scKin.nd rfl (.inl rfl) (pe_op op_cat (pv 1) (pe_lst (pa_cons (pe_callB (call_isP hp kd.ex hz hf) (by rfl) mi PyProof.Rows.boot_isinstance (pa_cons (pv 0) (pa_cons (pe_glob (v := .ref c4) (by rfl) g4 rfl) pa_nil))) (pa_cons (pe_callB (call_isP hp kd.ex hz hf) (by rfl) mi PyProof.Rows.boot_isinstance (pa_cons (pv 0) (pa_cons (pe_glob (v := .ref c5) (by rfl) g5 rfl) pa_nil))) (pa_cons (pe_callB (call_isP hp kd.ex hz hf) (by rfl) mi PyProof.Rows.boot_isinstance (pa_cons (pv 0) (pa_cons (pe_glob (v := .ref c6) (by rfl) g6 rfl) pa_nil))) pa_nil))))))
    (pss_cons (ps_set (i := 1) scKin.nd rfl (.inl rfl) (pe_op op_cat (pv 1) (pe_lst (pa_cons (pe_callB (call_isP hp kd.ex hz hf) (by rfl) mi PyProof.Rows.boot_isinstance (pa_cons (pv 0) (pa_cons (pe_glob (v := .ref c7) (by rfl) g7 rfl) pa_nil))) (pa_cons (pe_callB (call_isP hp kd.ex hz hf) (by rfl) mi PyProof.Rows.boot_isinstance (pa_cons (pv 0) (pa_cons (pe_glob (v := .ref c8) (by rfl) g8 rfl) pa_nil))) (pa_cons (pe_not (pe_callB (call_isP hp kd.ex hz hf) (by rfl) mi PyProof.Rows.boot_isinstance (pa_cons (pv 0) (pa_cons (pe_bltn (v := .ty "ValueError") (by rfl) mV (by decide +kernel) rfl) pa_nil)))) pa_nil))))))
    (pss_cons (ps_set (i := 2) scKin.nd rfl (.inl rfl) (pe_lst (pa_cons pe_str (pa_cons pe_str (pa_cons pe_str (pa_cons pe_str (pa_cons pe_str (pa_cons pe_str (pa_cons pe_str (pa_cons pe_str (pa_cons pe_str pa_nil)))))))))))
    (pss_one (ps_ret (pe_join pe_str (pe_lcP (own := [("_law_word", 3), ("_law_kin_here", 4)]) (g := gTup K 2 (gCons (gName 3) (gCons (gName 4) gNil))) (tt := tTest (tVar 4)) (te := tVar 3) (p := p) hot hp scKin.nd (pi_zipP (by rfl) mz (pa_cons (pe_op op_cat (pv 2) (pe_lst (pa_cons pe_str pa_nil))) (pa_cons (pv 1) pa_nil))) (blkOk_by (N := nKin) (sc := defScope s_law_kin) (by decide +kernel)) (fun _ _ _ _ _ => pg_tupP ⟨p, hot, List.mem_singleton.mpr rfl⟩ (pgs_cons (pg_name (i := 3) scKin.nd rfl (.inl rfl)) (pgs_cons (pg_name (i := 4) scKin.nd rfl (.inl rfl)) pgs_nil))) (fun _ _ _ _ _ => pts_one (pt_val (pv 4))) (fun _ _ _ _ _ => pv 3))))))))), ?_⟩
  have o0 := kd.own 0 c0 rfl
  have o1 := kd.own 1 c1 rfl
  have o2 := kd.own 2 c2 rfl
  have o3 := kd.own 3 c3 rfl
  have o4 := kd.own 4 c4 rfl
  have o5 := kd.own 5 c5 rfl
  have o6 := kd.own 6 c6 rfl
  have o7 := kd.own 7 c7 rfl
  have o8 := kd.own 8 c8 rfl
  refine ⟨.ref p.1, rfl, .ref c0, _, _, rfl, (fun u e => e), o0, .ref p.1, rfl, .ref c1, _, _, rfl, (fun u e => e), o1, .ref p.1, rfl, .ref c2, _, _, rfl, (fun u e => e), o2, .ref p.1, rfl, .ref c3, _, _, rfl, (fun u e => e), o3, (by show 4 ≤ sizeLine; decide), fun l1 n1 => ?_⟩
  have s1 : Same H (upd H l1 (.lst [.bl (decide (0 = j)), .bl (decide (1 = j)), .bl (decide (2 = j)), .bl (decide (3 = j))])) := same_upd n1
  have z1 : (upd H l1 (.lst [.bl (decide (0 = j)), .bl (decide (1 = j)), .bl (decide (2 = j)), .bl (decide (3 = j))])) l1 = some (.lst [.bl (decide (0 = j)), .bl (decide (1 = j)), .bl (decide (2 = j)), .bl (decide (3 = j))]) := upd_same
  generalize upd H l1 (.lst [.bl (decide (0 = j)), .bl (decide (1 = j)), .bl (decide (2 = j)), .bl (decide (3 = j))]) = H1 at s1 z1 ⊢
  refine ⟨.ref l1, rfl, .ref p.1, rfl, .ref c4, _, _, rfl, (fun u e => e), o4, .ref p.1, rfl, .ref c5, _, _, rfl, (fun u e => e), o5, .ref p.1, rfl, .ref c6, _, _, rfl, (fun u e => e), o6, (by show 3 ≤ sizeLine; decide), fun l2 n2 => ?_⟩
  have s2 : Same H1 (upd H1 l2 (.lst [.bl (decide (4 = j)), .bl (decide (5 = j)), .bl (decide (6 = j))])) := same_upd n2
  have z2 : (upd H1 l2 (.lst [.bl (decide (4 = j)), .bl (decide (5 = j)), .bl (decide (6 = j))])) l2 = some (.lst [.bl (decide (4 = j)), .bl (decide (5 = j)), .bl (decide (6 = j))]) := upd_same
  generalize upd H1 l2 (.lst [.bl (decide (4 = j)), .bl (decide (5 = j)), .bl (decide (6 = j))]) = H2 at s2 z2 ⊢
  refine ⟨l1, l2, _, _, rfl, rfl, s2 _ _ z1, z2, (by show 4 + 3 ≤ sizeLine; decide), fun l3 n3 => ?_⟩
  have s3 := same_upd (o := .lst ([.bl (decide (0 = j)), .bl (decide (1 = j)), .bl (decide (2 = j)), .bl (decide (3 = j))] ++ [.bl (decide (4 = j)), .bl (decide (5 = j)), .bl (decide (6 = j))])) n3
  have z3 : (upd H2 l3 (.lst ([.bl (decide (0 = j)), .bl (decide (1 = j)), .bl (decide (2 = j)), .bl (decide (3 = j))] ++ [.bl (decide (4 = j)), .bl (decide (5 = j)), .bl (decide (6 = j))]))) l3 = some (.lst ([.bl (decide (0 = j)), .bl (decide (1 = j)), .bl (decide (2 = j)), .bl (decide (3 = j))] ++ [.bl (decide (4 = j)), .bl (decide (5 = j)), .bl (decide (6 = j))])) := upd_same
  generalize upd H2 l3 (.lst ([.bl (decide (0 = j)), .bl (decide (1 = j)), .bl (decide (2 = j)), .bl (decide (3 = j))] ++ [.bl (decide (4 = j)), .bl (decide (5 = j)), .bl (decide (6 = j))])) = H3 at s3 z3 ⊢
  refine ⟨.ref l3, rfl, .ref p.1, rfl, .ref c7, _, _, rfl, (fun u e => e), o7, .ref p.1, rfl, .ref c8, _, _, rfl, (fun u e => e), o8, .ref p.1, rfl, .ty "ValueError", .type "ValueError", true, rfl, (fun u e => e), kd.val, _, rfl, (by show 3 ≤ sizeLine; decide), fun l4 n4 => ?_⟩
  have s4 : Same H3 (upd H3 l4 (.lst [.bl (decide (7 = j)), .bl (decide (8 = j)), .bl (!true)])) := same_upd n4
  have z4 : (upd H3 l4 (.lst [.bl (decide (7 = j)), .bl (decide (8 = j)), .bl (!true)])) l4 = some (.lst [.bl (decide (7 = j)), .bl (decide (8 = j)), .bl (!true)]) := upd_same
  generalize upd H3 l4 (.lst [.bl (decide (7 = j)), .bl (decide (8 = j)), .bl (!true)]) = H4 at s4 z4 ⊢
  refine ⟨l3, l4, _, _, rfl, rfl, s4 _ _ z3, z4, (by show 7 + 3 ≤ sizeLine; decide), fun l5 n5 => ?_⟩
  have ef : ([.bl (decide (0 = j)), .bl (decide (1 = j)), .bl (decide (2 = j)), .bl (decide (3 = j))] ++ [.bl (decide (4 = j)), .bl (decide (5 = j)), .bl (decide (6 = j))]) ++ [.bl (decide (7 = j)), .bl (decide (8 = j)), .bl (!true)] = (kinFlags j).map V.bl := by
    have h9 : decide (9 = j) = false := decide_eq_false (by have := kd.lt; omega)
    show _ = [V.bl (decide (0 = j)), V.bl (decide (1 = j)), V.bl (decide (2 = j)), V.bl (decide (3 = j)), V.bl (decide (4 = j)), V.bl (decide (5 = j)), V.bl (decide (6 = j)), V.bl (decide (7 = j)), V.bl (decide (8 = j)), V.bl (decide (9 = j))]
    rw [h9]; rfl
  rw [ef]
  have s5 := same_upd (o := .lst ((kinFlags j).map V.bl)) n5
  have z5 : (upd H4 l5 (.lst ((kinFlags j).map V.bl))) l5 = some (.lst ((kinFlags j).map V.bl)) := upd_same
  generalize upd H4 l5 (.lst ((kinFlags j).map V.bl)) = H5 at s5 z5 ⊢
  refine ⟨(by show 9 ≤ sizeLine; decide), fun l6 n6 => ?_⟩
  generalize e6 : upd H5 l6 _ = H6
  have s6 : Same H5 H6 := by rw [← e6]; exact same_upd n6
  have z6 : H6 l6 = some (.lst ((kinWords.take 9).map V.str)) := by rw [← e6]; exact upd_same
  refine ⟨⟨_, rfl⟩, .ref l6, rfl, (by show 1 ≤ sizeLine; decide), fun l7 n7 => ?_⟩
  generalize e7 : upd H6 l7 _ = H7
  have s7 : Same H6 H7 := by rw [← e7]; exact same_upd n7
  have z7 : H7 l7 = some (.lst [V.str "odd"]) := by rw [← e7]; exact upd_same
  refine ⟨l6, l7, _, _, rfl, rfl, s7 _ _ z6, z7, (by show 9 + 1 ≤ sizeLine; decide), fun l8 n8 => ?_⟩
  generalize e8 : upd H7 l8 _ = H8
  have s8 : Same H7 H8 := by rw [← e8]; exact same_upd n8
  have z8 : H8 l8 = some (.lst (kinWords.map V.str)) := by rw [← e8]; exact upd_same
  have w5 : H8 l5 = some (.lst ((kinFlags j).map V.bl)) := s8 _ _ (s7 _ _ (s6 _ _ z5))
  have sAll : Same H H8 := s1.trans (s2.trans (s3.trans (s4.trans (s5.trans (s6.trans (s7.trans s8))))))
  refine ⟨.ref l5, rfl, l8, l5, kinWords.map V.str, (kinFlags j).map V.bl, rfl, .inl (.inl z8), .inl (.inl w5), fun D nD => ?_⟩
  refine lc_it (walk_zip (K := K) (a := l8) (b := l5) (xs := kinWords.map V.str) (ys := (kinFlags j).map V.bl) (n := 10) rfl) (fun i H9 => Same H8 H9 ∧ H9 D = some (.lst ((if j < i then [kinWord j] else []).map V.str))) ⟨same_upd nD, ?_⟩ (fun i H9 _ hP => ⟨.inl (.inl (hP.1 _ _ z8)), .inl (.inl (hP.1 _ _ w5))⟩) (fun i v H9 HA hi hP hy => ?_) (fun H9 hP => ?_)
  · rw [if_neg (Nat.not_lt_zero j)]; exact upd_same
  · obtain ⟨sm, eD⟩ := hP
    obtain ⟨t, u1, u2, rfl, nt, rfl, g1, g2⟩ := hy
    have g1 : (kinWords.map V.str)[i]? = some u1 := g1
    have g2 : ((kinFlags j).map V.bl)[i]? = some u2 := g2
    have e1 : u1 = .str (kinWord i) := by
      rw [List.getElem?_map] at g1
      have hi : i < kinWords.length := hi
      rw [List.getElem?_eq_getElem hi] at g1
      cases g1
      show V.str kinWords[i] = V.str (kinWords.getD i "")
      rw [List.getD_eq_getElem?_getD, List.getElem?_eq_getElem hi]; rfl
    have e2 : u2 = .bl (decide (i = j)) := by
      unfold kinFlags at g2
      rw [List.getElem?_map, List.getElem?_map, List.getElem?_range hi] at g2
      cases g2; rfl
    subst e1 e2
    have sA := same_upd (o := .tup [.str (kinWord i), .bl (decide (i = j))]) nt
    refine ⟨t, [.str (kinWord i), .bl (decide (i = j))], rfl, .inl (.inl upd_same), rfl, _, _, rfl, _, _, rfl, rfl, rfl, ?_⟩
    refine ⟨.bl (decide (i = j)), rfl, decide (i = j), rfl, ite2 (fun c => ?_) (fun c => ?_)⟩
    · have c : i = j := of_decide_eq_true c
      subst c
      rw [if_neg (Nat.lt_irrefl i)] at eD
      refine ⟨.str (kinWord i), rfl, [], sA _ _ eD, (by show 0 < sizeLine; decide), same_over (sm.trans sA) nD, ?_⟩
      rw [if_pos (Nat.lt_succ_self i)]; exact upd_same
    · have c : ¬ i = j := fun z => c (decide_eq_true z)
      refine ⟨sm.trans sA, ?_⟩
      rw [show (if j < i + 1 then [kinWord j] else []) = (if j < i then [kinWord j] else []) from by
        by_cases h : j < i
        · rw [if_pos h, if_pos (by omega)]
        · rw [if_neg h, if_neg (by omega)]]
      exact sA _ _ eD
  · obtain ⟨sm, eD⟩ := hP
    rw [if_pos (by have := kd.lt; omega)] at eD
    refine ⟨"", D, [kinWord j], rfl, rfl, .inl (.inl (.inl eD)), ?_, ?_⟩
    · have hl : ∀ j < 9, (([kinWord j] : List Str).map (·.length)).sum + ([kinWord j] : List Str).length * (("" : Str).length) ≤ 16777216 := by decide +kernel
      exact hl j kd.lt
    · exact q H9 (sAll.trans sm)
end
end Rep
namespace Rep
open PySem L2
/-! lists of things that lie as tuples -/
structure LL {α : Type} (D : Hp → V → α → Prop) (H : Hp) (vs : List V) (as : List α) : Prop where
  len : vs.length = as.length
  at_ : ∀ (i : Nat) (v : V) (a : α), vs[i]? = some v → as[i]? = some a → D H v a
section
variable {α : Type} {D : Hp → V → α → Prop} {H H' : Hp} {vs ws : List V} {as bs : List α}
theorem LL.nil : LL D H [] ([] : List α) := ⟨rfl, fun i v a h => by simp at h⟩
theorem LL.get (h : LL D H vs as) {i : Nat} {v : V} (e : vs[i]? = some v) : ∃ a, as[i]? = some a ∧ D H v a := by
  have hi : i < as.length := by rw [← h.len]; exact (List.getElem?_eq_some_iff.mp e).1
  exact ⟨as[i], List.getElem?_eq_getElem hi, h.at_ i v _ e (List.getElem?_eq_getElem hi)⟩
theorem LL.get' (h : LL D H vs as) {i : Nat} {a : α} (e : as[i]? = some a) : ∃ v, vs[i]? = some v ∧ D H v a := by
  have hi : i < vs.length := by rw [h.len]; exact (List.getElem?_eq_some_iff.mp e).1
  exact ⟨vs[i], List.getElem?_eq_getElem hi, h.at_ i _ a (List.getElem?_eq_getElem hi) e⟩
theorem LL.mem (h : LL D H vs as) {v : V} (e : v ∈ vs) : ∃ a ∈ as, D H v a := by
  obtain ⟨i, hi⟩ := List.mem_iff_getElem?.mp e
  obtain ⟨a, ha, d⟩ := h.get hi
  exact ⟨a, List.mem_of_getElem? ha, d⟩
theorem LL.imp (h : LL D H vs as) (s : ∀ v a, D H v a → D H' v a) : LL D H' vs as := ⟨h.len, fun i v a h1 h2 => s v a (h.at_ i v a h1 h2)⟩
theorem LL.app (h : LL D H vs as) (k : LL D H ws bs) : LL D H (vs ++ ws) (as ++ bs) := by
  refine ⟨by rw [List.length_append, List.length_append, h.len, k.len], fun i v a h1 h2 => ?_⟩
  by_cases c : i < vs.length
  · rw [List.getElem?_append_left c] at h1
    rw [List.getElem?_append_left (by rw [← h.len]; exact c)] at h2
    exact h.at_ i v a h1 h2
  · rw [List.getElem?_append_right (by omega)] at h1
    rw [List.getElem?_append_right (by rw [← h.len]; omega), ← h.len] at h2
    exact k.at_ _ v a h1 h2
theorem LL.one {v : V} {a : α} (h : D H v a) : LL D H [v] [a] := ⟨rfl, fun i w b h1 h2 => by
  match i, h1, h2 with
  | 0, h1, h2 => cases h1; cases h2; exact h
  | i + 1, h1, _ => simp at h1⟩
theorem LL.snoc (h : LL D H vs as) {v : V} {a : α} (k : D H v a) : LL D H (vs ++ [v]) (as ++ [a]) := h.app (.one k)
theorem LL.take (h : LL D H vs as) (n : Nat) : LL D H (vs.take n) (as.take n) := by
  refine ⟨by rw [List.length_take, List.length_take, h.len], fun i v a h1 h2 => ?_⟩
  rw [List.getElem?_take] at h1 h2
  by_cases c : i < n
  · rw [if_pos c] at h1 h2; exact h.at_ i v a h1 h2
  · rw [if_neg c] at h1; cases h1
theorem LL.erase (h : LL D H vs as) (k : Nat) : LL D H (vs.eraseIdx k) (as.eraseIdx k) := by
  refine ⟨by rw [List.length_eraseIdx, List.length_eraseIdx, h.len], fun i v a h1 h2 => ?_⟩
  rw [List.getElem?_eraseIdx] at h1 h2
  by_cases c : i < k
  · rw [if_pos c] at h1 h2; exact h.at_ i v a h1 h2
  · rw [if_neg c] at h1 h2; exact h.at_ _ v a h1 h2
theorem LL.init (h : LL D H vs as) : LL D H vs.dropLast as.dropLast := by
  rw [List.dropLast_eq_take, List.dropLast_eq_take, ← h.len]
  exact h.take _
theorem LL.rev (h : LL D H vs as) : LL D H vs.reverse as.reverse := by
  refine ⟨by rw [List.length_reverse, List.length_reverse, h.len], fun i v a h1 h2 => ?_⟩
  have hi : i < vs.length := by
    have := (List.getElem?_eq_some_iff.mp h1).1
    rw [List.length_reverse] at this
    exact this
  rw [List.getElem?_reverse hi] at h1
  rw [List.getElem?_reverse (by rw [← h.len]; exact hi), ← h.len] at h2
  exact h.at_ _ v a h1 h2
end
def IsSy (H : Hp) (v : V) (s : Sy) : Prop := ∃ t, v = .ref t ∧ H t = some (.tup [.int s.lo, .int s.hi, .int s.n, .bl s.t])
theorem IsSy.ts {H H' : Hp} (h : TS H H') {v : V} {s : Sy} (k : IsSy H v s) : IsSy H' v s := by
  obtain ⟨t, e, ht⟩ := k
  exact ⟨t, e, h _ _ ht⟩
abbrev SL (H : Hp) (vs : List V) (ss : List Sy) : Prop := LL IsSy H vs ss
theorem SL.ts {H H' : Hp} (h : TS H H') {vs : List V} {ss : List Sy} (k : SL H vs ss) : SL H' vs ss := k.imp fun _ _ z => z.ts h
theorem IsSy.of {H : Hp} {t : Addr} {s : Sy} (h : H t = some (.tup [.int s.lo, .int s.hi, .int s.n, .bl s.t])) : IsSy H (.ref t) s := ⟨t, rfl, h⟩
def q4 (s : Sy) : Int × Int × Int × Bool := (s.lo, s.hi, s.n, s.t)
def ofQ (q : Int × Int × Int × Bool) : Sy := ⟨q.1, q.2.1, q.2.2.1, q.2.2.2⟩
/-- all but tables stay -/
abbrev EX (H H' : Hp) : Prop := LamX.ExtN H H'
theorem EX.of {H H' : Hp} (h : Same H H') : EX H H' := fun b o e _ => h b o e
theorem EX.ts {H H' : Hp} (h : EX H H') : TS H H' := fun t xs e => h t _ e (fun ps z => by cases z)
theorem EX.lst {H H' : Hp} (h : EX H H') {a : Addr} {xs : List V} (e : H a = some (.lst xs)) : H' a = some (.lst xs) := h a _ e (fun ps z => by cases z)
/-! kept_form, kept_forms -/
def oS (H : Hp) (o : Option Sy) (v : V) : Prop := match o with
  | none => v = .non
  | some s => IsSy H v s
theorem oS.ts {H H' : Hp} (h : TS H H') {o : Option Sy} {v : V} (k : oS H o v) : oS H' o v := by
  cases o with
  | none => exact k
  | some s => exact IsSy.ts h k
def Good (e : Int) (s : Sy) : Prop := 0 ≤ s.lo ∧ 0 ≤ s.hi ∧ 1 ≤ s.n ∧ s.lo + s.n ≤ e ∧ s.hi + s.n ≤ e
end Rep
namespace Rep
open PySem L2
/-! the draws -/
def mixA (s : Int) : Int := (s * 48271 + 11) % 2147483647
def mixB (s : Int) : Int := (mixA s * mixA s + 40692 * mixA s + s) % 2147483399
def mixF (s : Int) : Int := (mixB s * mixB s + 69621 * mixB s + mixA s) % 2147483563
theorem mixA_lt (s : Int) : -(2 ^ 64) < mixA s ∧ mixA s < 2 ^ 64 := by
  unfold mixA; omega
theorem mixB_lt (s : Int) : -(2 ^ 64) < mixB s ∧ mixB s < 2 ^ 64 := by
  unfold mixB; generalize mixA s * mixA s + 40692 * mixA s + s = z; omega
def spMix : Sp := fun vs H Q _ => ∃ s : Int, vs = [.int s] ∧ Q (.int (mixF s)) H
theorem scMix : FnScope ["_law_seed", "_law_one", "_law_two"] ["_law_seed"] (defScope sMix) := ⟨rfl, rfl, rfl, by decide +kernel, rfl, by decide +kernel, by decide +kernel⟩
section
variable {P : Program} {w : World} {K : PySem.W.Frag} {mg : Str → Option Value} {base : Heap}
theorem ok_mix {f : Addr} {fd : FuncData} {k : Nat} (F : Fun K "_law_mix" "_law_mix" sMix f fd) : FnOk P w K mg base CX0 (k + 1) f fd ["_law_seed"] spMix := by
  refine F.ok scMix (fun vs H Q E h => ?_) (fun cdv A outer s H vs Q E hr h => ?_)
  · obtain ⟨s, rfl, _⟩ := h; rfl
  obtain ⟨z, rfl, q⟩ := h
  refine ⟨_, pss_cons (ps_set (i := 1) scMix.nd rfl (.inl rfl) (pe_op op_mod (pe_op op_add (pe_op op_mul (pv 0) pe_int) pe_int) pe_int))
    (pss_cons (ps_set (i := 2) scMix.nd rfl (.inl rfl) (pe_op op_mod (pe_op op_add (pe_op op_add (pe_op op_mul (pv 1) (pv 1)) (pe_op op_mul pe_int (pv 1))) (pv 0)) pe_int))
    (pss_one (ps_ret (pe_op op_mod (pe_op op_add (pe_op op_add (pe_op op_mul (pv 2) (pv 2)) (pe_op op_mul pe_int (pv 2))) (pv 1)) pe_int)))), ?_⟩
  refine ⟨.int z, rfl, z, 48271, rfl, rfl, .inr ⟨by decide, by decide⟩, _, 11, rfl, rfl, _, 2147483647, rfl, rfl, (by show (0 : Int) < 2147483647; decide), ?_⟩
  refine ⟨.int (mixA z), rfl, .int (mixA z), rfl, _, _, rfl, rfl, .inl (mixA_lt z), .int (mixA z), rfl, 40692, mixA z, rfl, rfl, .inl ⟨by decide, by decide⟩, _, _, rfl, rfl, .int z, rfl, _, _, rfl, rfl, _, 2147483399, rfl, rfl, (by show (0 : Int) < 2147483399; decide), ?_⟩
  refine ⟨.int (mixB z), rfl, .int (mixB z), rfl, _, _, rfl, rfl, .inl (mixB_lt z), .int (mixB z), rfl, 69621, mixB z, rfl, rfl, .inl ⟨by decide, by decide⟩, _, _, rfl, rfl, .int (mixA z), rfl, _, _, rfl, rfl, _, 2147483563, rfl, rfl, (by show (0 : Int) < 2147483563; decide), ?_⟩
  exact q
end
/-! a raw number -/
def cellF (ns : List Int) (k : Int) : Int := if 0 < ns.length then ns.getD (k % (ns.length : Int)).toNat 0 + 9973 * (k / (ns.length : Int)) else 7 * k + 3
def foundF (c k : Int) : Nat → Int
  | 0 => 0
  | i + 1 => foundF c k i * 2147483563 + mixF (c + 1009 * k + 7919 * (i : Int))
def rawF (ns : List Int) (k : Int) : Int := if k < (ns.length : Int) ∧ 10 ^ 18 ≤ cellF ns k then cellF ns k - 10 ^ 18 else foundF (cellF ns k) k 40
def spRaw (K : PySem.W.Frag) : Sp := fun vs H Q _ => ∃ (a : Addr) (ns : List Int) (k : Int), vs = [.ref a, .int k] ∧ SqL K H a (ns.map V.int) ∧ ns.length ≤ 63 ∧ Q (.int (rawF ns k)) H
theorem scRaw : FnScope ["_law_script", "_law_k", "_law_cell", "_law_found", "_law_turn"] ["_law_script", "_law_k"] (defScope sRaw) := ⟨rfl, rfl, rfl, by decide +kernel, rfl, by decide +kernel, by decide +kernel⟩
theorem at_mod {ns : List Int} {k : Int} (h : 0 < ns.length) : atI (ns.map V.int) (k % ((ns.map V.int).length : Int)) = some (.int (ns.getD (k % (ns.length : Int)).toNat 0)) := by
  rw [List.length_map]
  have h0 : 0 ≤ k % (ns.length : Int) := Int.emod_nonneg _ (by omega)
  have h1 : k % (ns.length : Int) < (ns.length : Int) := Int.emod_lt_of_pos _ (by omega)
  have e : k % (ns.length : Int) = (((k % (ns.length : Int)).toNat : Nat) : Int) := by omega
  have hj : (k % (ns.length : Int)).toNat < ns.length := by omega
  have q : atI (ns.map V.int) (((k % (ns.length : Int)).toNat : Nat) : Int) = some (.int (ns.getD (k % (ns.length : Int)).toNat 0)) := by
    refine atI_nat ?_
    rw [List.getElem?_map, List.getElem?_eq_getElem hj, List.getD_eq_getElem?_getD, List.getElem?_eq_getElem hj]
    rfl
  rw [← e] at q
  exact q
section
variable {P : Program} {w : World} {K : PySem.W.Frag} {mg : Str → Option Value} {base : Heap}
theorem ok_raw {f fM : Addr} {fd fdM : FuncData} {k : Nat} (F : Fun K "_law_raw" "_law_raw" sRaw f fd) (FM : Fun K "_law_mix" "_law_mix" sMix fM fdM) (bM : Binds K fdM ["_law_seed"] []) (gM : mg "_law_mix" = some (.ref fM)) (ml : mg "len" = none) (mr : mg "range" = none) : FnOk P w K mg base CX0 (k + 2) f fd ["_law_script", "_law_k"] (spRaw K) := by
  have GM : FnOk P w K mg base CX0 (k + 1) fM fdM ["_law_seed"] spMix := ok_mix FM
  refine F.ok scRaw (fun vs H Q E h => ?_) (fun cdv A outer s H vs Q E hr h => ?_)
  · obtain ⟨a, ns, z, rfl, _⟩ := h; rfl
  obtain ⟨a, ns, z, rfl, hS, h63, q⟩ := h
  have hl : ((ns.map V.int).length : Int) = (ns.length : Int) := by rw [List.length_map]
  refine ⟨_, pss_cons (ps_set (i := 2) scRaw.nd rfl (.inl rfl) (pe_op op_add (pe_op op_mul pe_int (pv 1)) pe_int))
    (C8.pss_cut (ps_if (pt_cmpR op_gt (pe_callB call_len_seq (by rfl) ml PySem.boot_len (pa_cons (pv 0) pa_nil)) pe_int (nomark _))
      (pss_one (ps_set (i := 2) scRaw.nd rfl (.inl rfl) (pe_op op_add (pe_ix ix_list (pv 0) (pe_op op_mod (pv 1) (pe_callB call_len_seq (by rfl) ml PySem.boot_len (pa_cons (pv 0) pa_nil))) (fun _ _ => rfl))
        (pe_op op_mul pe_int (pe_op op_fdiv (pv 1) (pe_callB call_len_seq (by rfl) ml PySem.boot_len (pa_cons (pv 0) pa_nil))))))) pss_nil)
    (C8.pss_cut (ps_if (PW.pt (pw_and (pt_cmpR op_lt (pv 1) (pe_callB call_len_seq (by rfl) ml PySem.boot_len (pa_cons (pv 0) pa_nil)) (nomark _)) (pw_and1 (pt_cmpR op_ge (pv 2) (pe_op op_pow pe_int pe_int) (nomark _)))))
      (pss_one (ps_ret (pe_op op_sub (pv 2) (pe_op op_pow pe_int pe_int)))) pss_nil)
    (pss_cons (ps_set (i := 3) scRaw.nd rfl (.inl rfl) pe_int)
    (pss_cons (ps_for PassesOwn.never rfl (pi_range1 rfl mr (pa_cons pe_int pa_nil)) (pg_name (i := 4) scRaw.nd rfl (.inl rfl))
      (pss_one (ps_set (i := 3) scRaw.nd rfl (.inl rfl) (pe_op op_add (pe_op op_mul (pv 3) pe_int) (pe_call GM hr (by rfl) gM FM.kp bM .nil pass0 (pa_cons (pe_op op_add (pe_op op_add (pv 2) (pe_op op_mul pe_int (pv 1))) (pe_op op_mul pe_int (pv 4))) pa_nil))))))
    (pss_one (ps_ret (pv 3))))))), ?_⟩
  refine ⟨.int z, rfl, 7, z, rfl, rfl, .inl ⟨by decide, by decide⟩, _, 3, rfl, rfl, ?_⟩
  refine ⟨fun σ' H' => σ' = [some (.ref a), some (.int z), some (.int (cellF ns z)), none, none] ∧ H' = H, ?_, fun σ' H' hm => ?_⟩
  · refine ⟨.ref a, rfl, a, ns.map V.int, rfl, .inl hS, _, 0, rfl, rfl, _, rfl, ite2 (fun c => ?_) (fun c => ?_)⟩
    · have c' : (0 : Int) < ((ns.map V.int).length : Int) := of_decide_eq_true c
      rw [hl] at c'
      have c2 : 0 < ns.length := by omega
      refine ⟨.ref a, rfl, .int z, rfl, .ref a, rfl, a, ns.map V.int, rfl, .inl hS, _, _, rfl, rfl, (by show (0 : Int) < ((ns.map V.int).length : Int); omega), a, _, _, _, rfl, rfl, hS, at_mod c2, .int z, rfl, .ref a, rfl, a, ns.map V.int, rfl, .inl hS, _, _, rfl, rfl, ⟨by omega, by omega⟩, 9973, _, rfl, rfl, .inl ⟨by decide, by decide⟩, _, _, rfl, rfl, ?_, rfl⟩
      unfold cellF
      rw [if_pos c2, hl]
      rfl
    · have c' : ¬ (0 : Int) < ((ns.map V.int).length : Int) := fun e => c (decide_eq_true e)
      rw [hl] at c'
      refine ⟨?_, rfl⟩
      unfold cellF
      rw [if_neg (by omega)]
      rfl
  · obtain ⟨rfl, rfl⟩ := hm
    have p18 : CPow 10 18 := ⟨by decide, by decide, by decide⟩
    refine ⟨fun σ' H2 => σ' = [some (.ref a), some (.int z), some (.int (cellF ns z)), none, none] ∧ H2 = H' ∧ ¬ (z < (ns.length : Int) ∧ 10 ^ 18 ≤ cellF ns z), ?_, fun σ' H2 hm => ?_⟩
    · refine ⟨.int z, rfl, .ref a, rfl, a, ns.map V.int, rfl, .inl hS, _, _, rfl, rfl, _, rfl, ite2 (fun c => ?_) (fun c => ?_)⟩
      · have c1 : z < ((ns.map V.int).length : Int) := of_decide_eq_true c
        rw [hl] at c1
        refine ⟨.int (cellF ns z), rfl, 10, 18, rfl, rfl, p18, _, _, rfl, rfl, _, rfl, ite2 (fun c => ?_) (fun c => ?_)⟩
        · have c2 : (10 : Int) ^ 18 ≤ cellF ns z := of_decide_eq_true c
          refine ⟨.int (cellF ns z), rfl, 10, 18, rfl, rfl, p18, _, _, rfl, rfl, ?_⟩
          unfold rawF at q
          rw [if_pos ⟨c1, c2⟩] at q
          exact q
        · exact ⟨rfl, rfl, fun e => c (decide_eq_true e.2)⟩
      · refine iteF ⟨rfl, rfl, fun e => c (decide_eq_true ?_)⟩
        rw [hl]
        exact e.1
    · obtain ⟨rfl, rfl, hn⟩ := hm
      have er : foundF (cellF ns z) z 40 = rawF ns z := by
        unfold rawF; rw [if_neg hn]
      refine ⟨40, rfl, by decide, by decide, for_range (n := 40) (fun i σ H => ∃ y, σ = [some (.ref a), some (.int z), some (.int (cellF ns z)), some (.int (foundF (cellF ns z) z i)), y] ∧ H = H2) ⟨none, rfl, rfl⟩ (fun i σ H3 hi hP => ?_) (fun σ H3 hP => ?_)⟩
      · obtain ⟨y, rfl, rfl⟩ := hP
        refine ⟨.int (foundF (cellF ns z) z i), rfl, _, 2147483563, rfl, rfl, .inr ⟨by decide, by decide⟩, .int (cellF ns z), rfl, .int z, rfl, 1009, z, rfl, rfl, .inl ⟨by decide, by decide⟩, _, _, rfl, rfl, .int (0 + (i : Int)), rfl, 7919, _, rfl, rfl, .inl ⟨by decide, by decide⟩, _, _, rfl, rfl, _, rfl, _, _, rfl, rfl, ?_⟩
        refine ⟨some (.int (0 + (i : Int))), ?_, rfl⟩
        show [some (V.ref a), some (.int z), some (.int (cellF ns z)), some (.int (foundF (cellF ns z) z i * 2147483563 + mixF (cellF ns z + 1009 * z + 7919 * (0 + (i : Int))))), some (.int (0 + (i : Int)))] = _
        rw [Int.zero_add]
        rfl
      · obtain ⟨y, rfl, rfl⟩ := hP
        exact ⟨_, rfl, by rw [er]; exact q⟩
end
end Rep
namespace Rep
open PySem L2
/-! digits of a raw number -/
def digF : Int → List Int → List Int
  | _, [] => []
  | r, z :: zs => (r % z) :: digF (r / z) zs
def restF (r : Int) (zs : List Int) : Int := zs.foldl (· / ·) r
theorem digF_snoc : ∀ (r : Int) (a : List Int) (z : Int), digF r (a ++ [z]) = digF r a ++ [restF r a % z]
  | r, [], z => rfl
  | r, y :: a, z => by
    show (r % y) :: digF (r / y) (a ++ [z]) = (r % y) :: (digF (r / y) a ++ [restF (r / y) a % z])
    rw [digF_snoc (r / y) a z]
theorem restF_snoc (r : Int) (a : List Int) (z : Int) : restF r (a ++ [z]) = restF r a / z := by
  unfold restF; rw [List.foldl_append]; rfl
theorem digF_len : ∀ (r : Int) (zs : List Int), (digF r zs).length = zs.length
  | _, [] => rfl
  | r, z :: zs => by
    show (digF (r / z) zs).length + 1 = zs.length + 1
    rw [digF_len]
def spDig (K : PySem.W.Frag) : Sp := fun vs H Q _ => ∃ (a b : Addr) (ns zs : List Int) (k : Int), vs = [.ref a, .int k, .ref b] ∧ SqL K H a (ns.map V.int) ∧ ns.length ≤ 63 ∧ SqL K H b (zs.map V.int) ∧ zs.length ≤ 1000 ∧ (∀ z ∈ zs, 0 < z ∧ z.natAbs.log2 < 9000) ∧
  ∀ H' p, Same H H' → H p = none → H' p = some (.lst ((digF (rawF ns k) zs).map V.int)) → Q (.ref p) H'
theorem scDig : FnScope ["_law_script", "_law_k", "_law_sizes", "_law_rest", "_law_found", "_law_size"] ["_law_script", "_law_k", "_law_sizes"] (defScope sDig) := ⟨rfl, rfl, rfl, by decide +kernel, rfl, by decide +kernel, by decide +kernel⟩
section
variable {P : Program} {w : World} {K : PySem.W.Frag} {mg : Str → Option Value} {base : Heap}
theorem ok_dig {f fR : Addr} {fd fdR : FuncData} {k : Nat} (F : Fun K "_law_digits" "_law_digits" sDig f fd) (GR : FnOk P w K mg base CX0 k fR fdR ["_law_script", "_law_k"] (spRaw K)) (kR : PySem.W.keepIn K (.ref fR) = true) (bR : Binds K fdR ["_law_script", "_law_k"] []) (gR : mg "_law_raw" = some (.ref fR)) : FnOk P w K mg base CX0 (k + 1) f fd ["_law_script", "_law_k", "_law_sizes"] (spDig K) := by
  refine F.ok scDig (fun vs H Q E h => ?_) (fun cdv A outer s H vs Q E hr h => ?_)
  · obtain ⟨a, b, ns, zs, z, rfl, _⟩ := h; rfl
  obtain ⟨a, b, ns, zs, z, rfl, hS, h63, hZ, hz1, hz2, q⟩ := h
  refine ⟨_, pss_cons (ps_set (i := 3) scDig.nd rfl (.inl rfl) (pe_call GR hr (by rfl) gR kR bR .nil pass0 (pa_cons (pv 0) (pa_cons (pv 1) pa_nil))))
    (pss_cons (ps_set (i := 4) scDig.nd rfl (.inl rfl) (pe_lst pa_nil))
    (pss_cons (ps_for PassesOwn.never rfl (pi_list (pv 2)) (pg_name (i := 5) scDig.nd rfl (.inl rfl))
      (pss_cons (ps_expr (pe_bm PySem.F.plainAttrs_list PySem.F.slot_list_append PySem.F.type_list_append mt_append (pv 4) (pa_cons (pe_op op_mod (pv 3) (pv 5)) pa_nil)))
      (pss_one (ps_set (i := 3) scDig.nd rfl (.inl rfl) (pe_op op_fdivW (pv 3) (pv 5))))))
    (pss_one (ps_ret (pv 4))))), ?_⟩
  refine ⟨.ref a, rfl, .int z, rfl, a, ns, z, rfl, hS, h63, Nat.zero_le _, fun o no => ?_⟩
  have s1 : Same H (upd H o (.lst [])) := same_upd no
  refine ⟨.ref b, rfl, b, rfl, ⟨_, s1.seq hZ⟩, for_list (xs := zs.map V.int) (fun i σ H3 => ∃ y, σ = [some (.ref a), some (.int z), some (.ref b), some (.int (restF (rawF ns z) (zs.take i))), some (.ref o), y] ∧ Same H H3 ∧ H3 o = some (.lst ((digF (rawF ns z) (zs.take i)).map V.int))) ⟨none, rfl, s1, upd_same⟩ (fun i σ H3 _ hP => ?_) (fun i x σ H3 hx hP => ?_) (fun σ H3 hP => ?_)⟩
  · obtain ⟨y, _, sm, _⟩ := hP
    exact sm.seq hZ
  · obtain ⟨y, rfl, sm, eo⟩ := hP
    rw [List.getElem?_map] at hx
    obtain ⟨v, hv, rfl⟩ := Option.map_eq_some_iff.mp hx
    have hv2 := hz2 v (List.mem_of_getElem? hv)
    have hi : i < zs.length := (List.getElem?_eq_some_iff.mp hv).1
    have et : zs.take (i + 1) = zs.take i ++ [v] := by rw [List.take_add_one, hv]; rfl
    refine ⟨.ref o, rfl, .inl ⟨rfl, _, .inl (.inl eo)⟩, .int _, rfl, .int v, rfl, _, _, rfl, rfl, hv2.1, o, _, _, rfl, rfl, eo, ?_, ?_⟩
    · rw [List.length_map, digF_len, List.length_take]
      exact small1000 (by omega)
    · refine ⟨.int _, rfl, .int v, rfl, _, _, rfl, rfl, hv2, some (.int v), ?_, same_over sm no, ?_⟩
      · rw [et, restF_snoc]; rfl
      · rw [upd_same, et, digF_snoc, List.map_append]; rfl
  · obtain ⟨y, rfl, sm, eo⟩ := hP
    rw [List.length_map, List.take_length] at eo
    exact ⟨.ref o, rfl, q H3 o sm no eo⟩
end
end Rep
namespace Rep
open PySem L2
/-! the law's drawn sayings -/
theorem at4 {a b c d r : Int} : ∃ v, atI [V.int a, V.int b, V.int c, V.int d] (r % 4) = some (.int v) ∧ (v = a ∨ v = b ∨ v = c ∨ v = d) := by
  have h : r % 4 = 0 ∨ r % 4 = 1 ∨ r % 4 = 2 ∨ r % 4 = 3 := by omega
  rcases h with h | h | h | h <;> rw [h]
  · exact ⟨a, rfl, .inl rfl⟩
  · exact ⟨b, rfl, .inr (.inl rfl)⟩
  · exact ⟨c, rfl, .inr (.inr (.inl rfl))⟩
  · exact ⟨d, rfl, .inr (.inr (.inr rfl))⟩
theorem at3 {a b c r : Int} : ∃ v, atI [V.int a, V.int b, V.int c] (r % 3) = some (.int v) ∧ (v = a ∨ v = b ∨ v = c) := by
  have h : r % 3 = 0 ∨ r % 3 = 1 ∨ r % 3 = 2 := by omega
  rcases h with h | h | h <;> rw [h]
  · exact ⟨a, rfl, .inl rfl⟩
  · exact ⟨b, rfl, .inr (.inl rfl)⟩
  · exact ⟨c, rfl, .inr (.inr rfl)⟩
def spSay (K : PySem.W.Frag) : Sp := fun vs H Q _ => ∃ (a : Addr) (ns : List Int) (k L : Int), vs = [.ref a, .int k, .int L] ∧ SqL K H a (ns.map V.int) ∧ ns.length ≤ 63 ∧ 1 ≤ L ∧ L ≤ 10 ^ 41 ∧ ∀ H' v s, Same H H' → IsSy H' v s → Good L s → Q v H'
abbrev nSay : List Str := ["_law_script", "_law_k", "_law_length", "_law_way", "_law_one", "_law_other", "_law_many", "_law_turned", "_law_lead"]
theorem scSay : FnScope nSay ["_law_script", "_law_k", "_law_length"] (defScope s_law_saying) := ⟨rfl, rfl, rfl, by decide +kernel, rfl, by decide +kernel, by decide +kernel⟩
theorem p40 : CPow 10 40 := ⟨by decide, by decide, by decide⟩
section
variable {P : Program} {w : World} {K : PySem.W.Frag} {mg : Str → Option Value} {base : Heap}
theorem ok_say {f fD : Addr} {fd fdD : FuncData} {k : Nat} (F : Fun K "_law_saying" "_law_saying" s_law_saying f fd) (GD : FnOk P w K mg base CX0 k fD fdD ["_law_script", "_law_k", "_law_sizes"] (spDig K)) (kD : PySem.W.keepIn K (.ref fD) = true) (bD : Binds K fdD ["_law_script", "_law_k", "_law_sizes"] []) (mD_ : mg "_law_digits" = some (.ref fD)) (mm : mg "min" = none) (mM : mg "max" = none) : FnOk P w K mg base CX0 (k + 1) f fd ["_law_script", "_law_k", "_law_length"] (spSay K) := by
  refine F.ok scSay (fun vs H Q E h => ?_) (fun cdv A outer s H vs Q E hr h => ?_)
  · obtain ⟨a, ns, z, L, rfl, _⟩ := h; rfl
  obtain ⟨a, ns, z, L, rfl, hS, h63, hL1, hL2, q⟩ := h
  refine ⟨_, (pss_cons (ps_asg (pe_call GD hr (by rfl) mD_ kD bD .nil pass0 (pa_cons (pv 0) (pa_cons (pv 1) (pa_cons (pe_lst (pa_cons pe_int (pa_cons (pe_op op_pow pe_int pe_int) (pa_cons (pe_op op_pow pe_int pe_int) (pa_cons (pe_op op_pow pe_int pe_int) (pa_cons pe_int (pa_cons (pe_op op_pow pe_int pe_int) pa_nil))))))) pa_nil)))) (pg_lst rfl (pgs_cons (pg_name (i := 3) scSay.nd rfl (.inl rfl)) (pgs_cons (pg_name (i := 4) scSay.nd rfl (.inl rfl)) (pgs_cons (pg_name (i := 5) scSay.nd rfl (.inl rfl)) (pgs_cons (pg_name (i := 6) scSay.nd rfl (.inl rfl)) (pgs_cons (pg_name (i := 7) scSay.nd rfl (.inl rfl)) (pgs_cons (pg_name (i := 8) scSay.nd rfl (.inl rfl)) pgs_nil))))))))
    (C8.pss_cut (ps_set (i := 6) scSay.nd rfl (.inl rfl) (pe_op op_add pe_int (pe_op op_mod (pv 6) (pe_ix ix_list (pe_lst (pa_cons (pv 2) (pa_cons (pe_callB (call_max2 rfl) (by rfl) mM (by decide +kernel) (pa_cons pe_int (pa_cons (pe_op op_fdivW (pv 2) pe_int) pa_nil))) (pa_cons (pe_callB (call_max2 rfl) (by rfl) mM (by decide +kernel) (pa_cons pe_int (pa_cons (pe_op op_fdivW (pv 2) pe_int) pa_nil))) (pa_cons (pv 2) pa_nil))))) (pe_op op_mod (pv 3) pe_int) (fun _ _ => rfl)))))
    (pss_cons (ps_set (i := 4) scSay.nd rfl (.inl rfl) (pe_op op_mod (pv 4) (pe_op op_add (pe_op op_sub (pv 2) (pv 6)) pe_int)))
    (pss_cons (ps_set (i := 5) scSay.nd rfl (.inl rfl) (pe_op op_mod (pv 5) (pe_op op_add (pe_op op_sub (pv 2) (pv 6)) pe_int)))
    (C8.pss_cut (ps_if (PW.pt (pw_or (pt_cmpR op_eq (pv 3) pe_int (nomark _)) (pw_or1 (pt_cmpR op_eq (pv 3) pe_int (nomark _))))) (pss_one (ps_set (i := 5) scSay.nd rfl (.inl rfl) (pe_callB (call_min2 rfl) (by rfl) mm (by decide +kernel) (pa_cons (pe_op op_sub (pv 2) (pv 6)) (pa_cons (pe_op op_add (pv 4) (pe_op op_mod (pv 8) (pe_callB (call_max2 rfl) (by rfl) mM (by decide +kernel) (pa_cons pe_int (pa_cons (pv 6) pa_nil))))) pa_nil))))) pss_nil)
    (C8.pss_cut (ps_if (pt_cmpR op_eq (pv 3) pe_int (nomark _)) (pss_one (ps_set (i := 5) scSay.nd rfl (.inl rfl) (pv 4))) pss_nil)
    (C8.pss_cut (ps_if (pt_cmpR op_eq (pv 3) pe_int (nomark _)) (pss_cons (ps_set (i := 4) scSay.nd rfl (.inl rfl) pe_int)
    (pss_one (ps_set (i := 5) scSay.nd rfl (.inl rfl) (pe_op op_sub (pv 2) (pv 6))))) pss_nil)
    (pss_one (ps_ret (pe_tup (pa_cons (pv 4) (pa_cons (pv 5) (pa_cons (pv 6) (pa_cons (pe_or (pe_cmpR op_eq (pv 7) pe_int (nomark _)) (pe_one (pe_cmpR op_eq (pv 3) pe_int (nomark _)))) pa_nil)))))))))))))), ?_⟩
  -- the digits
  refine ⟨.ref a, rfl, .int z, rfl, 10, 40, rfl, rfl, p40, 10, 40, rfl, rfl, p40, 10, 40, rfl, rfl, p40, 10, 40, rfl, rfl, p40, (by show 6 ≤ sizeLine; decide), fun l1 nl1 => ?_⟩
  have s1 := same_upd (o := .lst [.int 8, .int (10 ^ (40 : Int).toNat), .int (10 ^ (40 : Int).toNat), .int (10 ^ (40 : Int).toNat), .int 3, .int (10 ^ (40 : Int).toNat)]) nl1
  refine ⟨a, l1, ns, [8, 10 ^ (40 : Int).toNat, 10 ^ (40 : Int).toNat, 10 ^ (40 : Int).toNat, 3, 10 ^ (40 : Int).toNat], z, rfl, s1.seq hS, h63, .inl (.inl upd_same), by decide, fun y hy => ?_, fun H2 q2 s2 _ eq2 => ?_⟩
  · have : y = 8 ∨ y = 10 ^ (40 : Int).toNat ∨ y = 3 := by
      simp only [List.mem_cons, List.mem_nil_iff, or_false] at hy
      rcases hy with h | h | h | h | h | h
      · exact .inl h
      · exact .inr (.inl h)
      · exact .inr (.inl h)
      · exact .inr (.inl h)
      · exact .inr (.inr h)
      · exact .inr (.inl h)
    rcases this with rfl | rfl | rfl
    · exact ⟨by decide, by decide⟩
    · exact ⟨by decide +kernel, by decide +kernel⟩
    · exact ⟨by decide, by decide⟩
  generalize hT : (10 : Int) ^ (40 : Int).toNat = T at eq2
  have hT0 : 0 < T := by rw [← hT]; decide +kernel
  generalize rawF ns z = ra at eq2
  refine ⟨q2, [.int (ra % 8), .int (ra / 8 % T), .int (ra / 8 / T % T), .int (ra / 8 / T / T % T), .int (ra / 8 / T / T / T % 3), .int (ra / 8 / T / T / T / 3 % T)], rfl, .inl (.inl eq2), rfl, _, _, rfl, _, _, rfl, _, _, rfl, _, _, rfl, _, _, rfl, _, _, rfl, rfl, ?_⟩
  have sH2 : Same H H2 := s1.trans s2
  generalize ra % 8 = way
  generalize ra / 8 % T = one
  generalize ra / 8 / T % T = oth
  generalize ra / 8 / T / T % T = man
  generalize ra / 8 / T / T / T % 3 = tur
  generalize ra / 8 / T / T / T / 3 % T = lea
  -- many
  refine ⟨fun σ' H' => ∃ m : Int, σ' = [some (.ref a), some (.int z), some (.int L), some (.int way), some (.int one), some (.int oth), some (.int m), some (.int tur), some (.int lea)] ∧ Same H H' ∧ 1 ≤ m ∧ m ≤ L, ?_, ?_⟩
  · have d2 : CDivW L 2 := wide_div (b := 3) (by decide) (by decide) (by decide) (by decide)
    have d5 : CDivW L 5 := wide_div (b := 3) (by decide) (by decide) (by decide) (by decide)
    refine ⟨.int man, rfl, .int L, rfl, .int L, rfl, _, 2, rfl, rfl, d2, 1, L / 2, rfl, .int L, rfl, _, 5, rfl, rfl, d5, 1, L / 5, rfl, .int L, rfl, (by show 4 ≤ sizeLine; decide), fun l2 nl2 => ?_⟩
    have b2 : 1 ≤ (if L / 2 > 1 then L / 2 else 1) ∧ (if L / 2 > 1 then L / 2 else 1) ≤ L := by split <;> omega
    have b5 : 1 ≤ (if L / 5 > 1 then L / 5 else 1) ∧ (if L / 5 > 1 then L / 5 else 1) ≤ L := by split <;> omega
    generalize (if L / 2 > 1 then L / 2 else 1) = M2 at b2
    generalize (if L / 5 > 1 then L / 5 else 1) = M5 at b5
    obtain ⟨v, hv, hv2⟩ := at4 (a := L) (b := M2) (c := M5) (d := L) (r := way)
    have v1 : 1 ≤ v ∧ v ≤ L := by omega
    refine ⟨.int way, rfl, _, 4, rfl, rfl, (by show (0 : Int) < 4; decide), l2, _, _, .int v, rfl, rfl, .inl (.inl upd_same), hv, _, _, rfl, rfl, (by show 0 < v; omega), 1, _, rfl, rfl, 1 + man % v, rfl, sH2.trans (same_upd nl2), ?_, ?_⟩
    · have := Int.emod_nonneg man (show v ≠ 0 by omega); omega
    · have := Int.emod_lt_of_pos man (show 0 < v by omega); omega
  rintro σ' H3 ⟨m, rfl, s3, m1, m2⟩
  refine ⟨.int one, rfl, .int L, rfl, .int m, rfl, _, _, rfl, rfl, _, 1, rfl, rfl, _, _, rfl, rfl, (by show 0 < L - m + 1; omega), ?_⟩
  refine ⟨.int oth, rfl, .int L, rfl, .int m, rfl, _, _, rfl, rfl, _, 1, rfl, rfl, _, _, rfl, rfl, (by show 0 < L - m + 1; omega), ?_⟩
  have o1 : 0 ≤ one % (L - m + 1) ∧ one % (L - m + 1) + m ≤ L := by
    have := Int.emod_nonneg one (show L - m + 1 ≠ 0 by omega)
    have := Int.emod_lt_of_pos one (show 0 < L - m + 1 by omega)
    omega
  have o2 : 0 ≤ oth % (L - m + 1) ∧ oth % (L - m + 1) + m ≤ L := by
    have := Int.emod_nonneg oth (show L - m + 1 ≠ 0 by omega)
    have := Int.emod_lt_of_pos oth (show 0 < L - m + 1 by omega)
    omega
  show C8.tCut _ _ _ [some (.ref a), some (.int z), some (.int L), some (.int way), some (.int (one % (L - m + 1))), some (.int (oth % (L - m + 1))), some (.int m), some (.int tur), some (.int lea)] H3
  generalize one % (L - m + 1) = p at *
  generalize oth % (L - m + 1) = r at *
  -- way 1, 5
  refine ⟨fun σ' H' => ∃ r : Int, σ' = [some (.ref a), some (.int z), some (.int L), some (.int way), some (.int p), some (.int r), some (.int m), some (.int tur), some (.int lea)] ∧ H' = H3 ∧ 0 ≤ r ∧ r + m ≤ L, ?_, ?_⟩
  · have mx : 0 < (if m > 1 then m else 1) := by split <;> omega
    refine ⟨.int way, rfl, rfl, _, rfl, ite2 (fun c => iteT ?_) (fun c => ?_)⟩
    · refine ⟨.int L, rfl, .int m, rfl, _, _, rfl, rfl, .int p, rfl, .int lea, rfl, .int m, rfl, 1, m, rfl, _, _, rfl, rfl, mx, _, _, rfl, rfl, _, _, rfl, ?_⟩
      generalize (if m > 1 then m else 1) = M at mx
      have := Int.emod_nonneg lea (show M ≠ 0 by omega)
      generalize lea % M = q0 at *
      exact ⟨_, rfl, rfl, by split <;> omega, by split <;> omega⟩
    refine ⟨.int way, rfl, rfl, _, rfl, ite2 (fun c => ?_) (fun c => ?_)⟩
    · refine ⟨.int L, rfl, .int m, rfl, _, _, rfl, rfl, .int p, rfl, .int lea, rfl, .int m, rfl, 1, m, rfl, _, _, rfl, rfl, mx, _, _, rfl, rfl, _, _, rfl, ?_⟩
      generalize (if m > 1 then m else 1) = M at mx
      have := Int.emod_nonneg lea (show M ≠ 0 by omega)
      generalize lea % M = q0 at *
      exact ⟨_, rfl, rfl, by split <;> omega, by split <;> omega⟩
    exact ⟨r, rfl, rfl, o2.1, o2.2⟩
  rintro σ' H' ⟨r, rfl, rfl, r1, r2⟩
  -- way 6
  refine ⟨fun σ' H'' => ∃ r : Int, σ' = [some (.ref a), some (.int z), some (.int L), some (.int way), some (.int p), some (.int r), some (.int m), some (.int tur), some (.int lea)] ∧ H'' = H' ∧ 0 ≤ r ∧ r + m ≤ L, ?_, ?_⟩
  · refine ⟨.int way, rfl, rfl, _, rfl, ite2 (fun c => ?_) (fun c => ?_)⟩
    · exact ⟨.int p, rfl, p, rfl, rfl, o1.1, o1.2⟩
    · exact ⟨r, rfl, rfl, r1, r2⟩
  rintro σ' H'' ⟨r, rfl, rfl, r1, r2⟩
  -- way 7
  refine ⟨fun σ' H1 => ∃ p r : Int, σ' = [some (.ref a), some (.int z), some (.int L), some (.int way), some (.int p), some (.int r), some (.int m), some (.int tur), some (.int lea)] ∧ H1 = H'' ∧ 0 ≤ p ∧ p + m ≤ L ∧ 0 ≤ r ∧ r + m ≤ L, ?_, ?_⟩
  · refine ⟨.int way, rfl, rfl, _, rfl, ite2 (fun c => ?_) (fun c => ?_)⟩
    · exact ⟨.int L, rfl, .int m, rfl, _, _, rfl, rfl, 0, L - m, rfl, rfl, by omega, by omega, by omega, by omega⟩
    · exact ⟨p, r, rfl, rfl, o1.1, o1.2, r1, r2⟩
  rintro σ' H1 ⟨p, r, rfl, rfl, p1, p2, r1, r2⟩
  refine ⟨.int p, rfl, .int r, rfl, .int m, rfl, ?_⟩
  have fin : ∀ b : Bool, ([V.int p, .int r, .int m, .bl b] : List V).length ≤ sizeLine ∧ ∀ t, H1 t = none → Q (.ref t) (upd H1 t (.tup [V.int p, .int r, .int m, .bl b])) := fun b => by
    refine ⟨by show 4 ≤ sizeLine; decide, fun t nt => ?_⟩
    exact q _ _ ⟨p, r, m, b⟩ (s3.trans (same_upd nt)) (IsSy.of upd_same) ⟨p1, r1, m1, p2, r2⟩
  refine ⟨.int tur, rfl, rfl, _, rfl, ite2 (fun c => fin true) (fun c => ?_)⟩
  exact ⟨.int way, rfl, rfl, fin _⟩
end
end Rep
namespace Rep
open PySem L2
def spTen : Sp := fun vs H Q _ => ∃ g : Nat, vs = [.int (g : Int)] ∧ g ≤ 60 ∧ Q (.int (10 ^ g)) H
theorem scTen : FnScope ["_law_figures", "_law_found", "_law_turn"] ["_law_figures"] (defScope s_law_ten) := ⟨rfl, rfl, rfl, by decide +kernel, rfl, by decide +kernel, by decide +kernel⟩
theorem ok_ten {P : Program} {w : World} {K : PySem.W.Frag} {mg : Str → Option Value} {base : Heap} {f : Addr} {fd : FuncData} {k : Nat} (F : Fun K "_law_ten" "_law_ten" s_law_ten f fd) (mR : mg "range" = none) : FnOk P w K mg base CX0 (k + 1) f fd ["_law_figures"] spTen := by
  refine F.ok scTen (fun vs H Q E h => ?_) (fun cdv A outer s H vs Q E hr h => ?_)
  · obtain ⟨g, rfl, _⟩ := h; rfl
  obtain ⟨g, rfl, hg, q⟩ := h
  refine ⟨_, (pss_cons (ps_set (i := 1) scTen.nd rfl (.inl rfl) pe_int)
    (pss_cons (ps_for PassesOwn.never rfl (pi_range1 rfl mR (pa_cons (pv 0) pa_nil)) (pg_name (i := 2) scTen.nd rfl (.inl rfl))
      (pss_one (ps_set (i := 1) scTen.nd rfl (.inl rfl) (pe_op op_mul (pv 1) pe_int))))
    (pss_one (ps_ret (pv 1))))), ?_⟩
  refine ⟨.int (g : Int), rfl, (g : Int), rfl, by omega, by omega, for_range (lo := 0) (n := g) (fun i σ H3 => ∃ y, σ = [some (.int (g : Int)), some (.int (10 ^ i)), y] ∧ H3 = H) ⟨none, rfl, rfl⟩ (fun i σ H3 hi hP => ?_) (fun σ H3 hP => ?_)⟩
  · obtain ⟨y, rfl, rfl⟩ := hP
    exact ⟨.int (10 ^ i), rfl, _, 10, rfl, rfl, .inr ⟨by decide, by decide⟩, _, by rw [Int.pow_succ]; rfl, rfl⟩
  · obtain ⟨y, rfl, rfl⟩ := hP
    exact ⟨.int (10 ^ g), rfl, q⟩
end Rep
namespace Rep
open PySem L2
/-! the law's own comparison: of equal data it is True -/
def tyN : PyData → String
  | .none => "NoneType"
  | .bool _ => "bool"
  | .int _ => "int"
  | .str _ => "str"
  | .list _ => "list"
  | .tuple _ => "tuple"
  | .dict _ => "dict"
theorem DT.ty {K : PySem.W.Frag} {H : Hp} {n : Nat} {v : V} {d : PyData} (h : DT H n v d) : TyX K H v (.type (tyN d)) := by
  cases h with
  | non => exact .base .non
  | bl b => exact .base (.bl b)
  | int i => exact .base (.int i)
  | str x => exact .base (.str x)
  | lst e _ _ _ => exact .base (.lst e)
  | tup e _ _ _ => exact .base (.tup e)
theorem kit_any {H : Hp} {n : Nat} {v : V} {d : PyData} (h : DT H n v d) : (∃ b, kitB (tyN d) "bool" = some b) ∧ (∃ b, kitB (tyN d) "int" = some b) ∧ (∃ b, kitB (tyN d) "list" = some b) ∧ (∃ b, kitB (tyN d) "tuple" = some b) ∧ (∃ b, kitB (tyN d) "str" = some b) := by
  cases h with
  | non => exact ⟨⟨false, by decide +kernel⟩, ⟨false, by decide +kernel⟩, ⟨false, by decide +kernel⟩, ⟨false, by decide +kernel⟩, ⟨false, by decide +kernel⟩⟩
  | bl b => exact ⟨⟨true, show kitB "bool" "bool" = some true by decide +kernel⟩, ⟨true, show kitB "bool" "int" = some true by decide +kernel⟩, ⟨false, show kitB "bool" "list" = some false by decide +kernel⟩, ⟨false, show kitB "bool" "tuple" = some false by decide +kernel⟩, ⟨false, show kitB "bool" "str" = some false by decide +kernel⟩⟩
  | int i => exact ⟨⟨false, show kitB "int" "bool" = some false by decide +kernel⟩, ⟨true, show kitB "int" "int" = some true by decide +kernel⟩, ⟨false, show kitB "int" "list" = some false by decide +kernel⟩, ⟨false, show kitB "int" "tuple" = some false by decide +kernel⟩, ⟨false, show kitB "int" "str" = some false by decide +kernel⟩⟩
  | str x => exact ⟨⟨false, show kitB "str" "bool" = some false by decide +kernel⟩, ⟨false, show kitB "str" "int" = some false by decide +kernel⟩, ⟨false, show kitB "str" "list" = some false by decide +kernel⟩, ⟨false, show kitB "str" "tuple" = some false by decide +kernel⟩, ⟨true, show kitB "str" "str" = some true by decide +kernel⟩⟩
  | lst _ _ _ _ => exact ⟨⟨false, show kitB "list" "bool" = some false by decide +kernel⟩, ⟨false, show kitB "list" "int" = some false by decide +kernel⟩, ⟨true, show kitB "list" "list" = some true by decide +kernel⟩, ⟨false, show kitB "list" "tuple" = some false by decide +kernel⟩, ⟨false, show kitB "list" "str" = some false by decide +kernel⟩⟩
  | tup _ _ _ _ => exact ⟨⟨false, show kitB "tuple" "bool" = some false by decide +kernel⟩, ⟨false, show kitB "tuple" "int" = some false by decide +kernel⟩, ⟨false, show kitB "tuple" "list" = some false by decide +kernel⟩, ⟨true, show kitB "tuple" "tuple" = some true by decide +kernel⟩, ⟨false, show kitB "tuple" "str" = some false by decide +kernel⟩⟩
structure Two (H : Hp) (m : Nat) (xs ys : List V) : Prop where
  few : xs.length ≤ 14000000
  len : xs.length = ys.length
  at_ : ∀ (i : Nat) (u v : V), xs[i]? = some u → ys[i]? = some v → ∃ d, DT H m u d ∧ DT H m v d
theorem two_of {H : Hp} {m : Nat} {xs ys : List V} {ds : List PyData} (l0 : xs.length ≤ 14000000) (l1 : xs.length = ds.length) (l2 : ys.length = ds.length) (h1 : ∀ (i : Nat) (x : V) (d : PyData), xs[i]? = some x → ds[i]? = some d → DT H m x d) (h2 : ∀ (i : Nat) (x : V) (d : PyData), ys[i]? = some x → ds[i]? = some d → DT H m x d) : Two H m xs ys := by
  refine ⟨l0, l1.trans l2.symm, fun i u v hu hv => ?_⟩
  have hi : i < ds.length := by
    have := (List.getElem?_eq_some_iff.mp hu).1
    omega
  exact ⟨ds[i], h1 i u _ hu (List.getElem?_eq_getElem hi), h2 i v _ hv (List.getElem?_eq_getElem hi)⟩
theorem DT.kinds {H : Hp} {n : Nat} {x y : V} {d : PyData} (hx : DT H n x d) (hy : DT H n y d) :
    (kitB (tyN d) "list" = some false ∧ kitB (tyN d) "tuple" = some false ∧ x = y ∧ scal x y = true) ∨
    (∃ m a b xs ys, n = m + 1 ∧ kitB (tyN d) "list" = some true ∧ x = .ref a ∧ y = .ref b ∧ H a = some (.lst xs) ∧ H b = some (.lst ys) ∧ Two H m xs ys) ∨
    (∃ m a b xs ys, n = m + 1 ∧ kitB (tyN d) "list" = some false ∧ kitB (tyN d) "tuple" = some true ∧ x = .ref a ∧ y = .ref b ∧ H a = some (.tup xs) ∧ H b = some (.tup ys) ∧ Two H m xs ys) := by
  cases hx with
  | non => cases hy; exact .inl ⟨show kitB "NoneType" "list" = some false by decide +kernel, show kitB "NoneType" "tuple" = some false by decide +kernel, rfl, rfl⟩
  | bl b => cases hy; exact .inl ⟨show kitB "bool" "list" = some false by decide +kernel, show kitB "bool" "tuple" = some false by decide +kernel, rfl, rfl⟩
  | int b => cases hy; exact .inl ⟨show kitB "int" "list" = some false by decide +kernel, show kitB "int" "tuple" = some false by decide +kernel, rfl, rfl⟩
  | str b => cases hy; exact .inl ⟨show kitB "str" "list" = some false by decide +kernel, show kitB "str" "tuple" = some false by decide +kernel, rfl, rfl⟩
  | lst e l z h =>
    cases hy with
    | lst e' l' z' h' => exact .inr (.inl ⟨_, _, _, _, _, rfl, show kitB "list" "list" = some true by decide +kernel, rfl, rfl, e, e', two_of z l l' h h'⟩)
  | tup e l z h =>
    cases hy with
    | tup e' l' z' h' => exact .inr (.inr ⟨_, _, _, _, _, rfl, show kitB "tuple" "list" = some false by decide +kernel, show kitB "tuple" "tuple" = some true by decide +kernel, rfl, rfl, e, e', two_of z l l' h h'⟩)
theorem walk_zipT {K : PySem.W.Frag} {a b : Addr} {xs ys : List V} (hl : xs.length = ys.length) : Walk (RZ.ItzT K a b) xs.length (fun H => SqT K H a xs ∧ SqT K H b ys) (YPair (fun i => xs[i]?) (fun i => ys[i]?)) := by
  refine ⟨fun i H hi q => ⟨xs, ys, xs[i], ys[i]'(by omega), q.1, q.2, List.getElem?_eq_getElem hi, List.getElem?_eq_getElem (by omega)⟩, fun H q => ⟨xs, ys, q.1, q.2, .inl (Nat.le_refl _)⟩, fun i H v H' hi q y => ?_⟩
  obtain ⟨T, x, y, e, hT, e2, f1, f2⟩ := y
  exact ⟨T, x, y, e, hT, e2, f1 _ q.1, f2 _ q.2⟩
theorem all_true : ∀ n : Nat, (List.replicate n true).all id = true
  | 0 => rfl
  | n + 1 => by
    show (true && (List.replicate n true).all id) = true
    rw [all_true n]; rfl
theorem rep_snoc (n : Nat) : (List.replicate (n + 1) true).map V.bl = (List.replicate n true).map V.bl ++ [V.bl true] := by
  rw [List.replicate_succ', List.map_append]; rfl
def spSame : Nat → Sp
  | 0 => fun _ _ _ _ => False
  | n + 1 => fun vs H Q _ => ∃ (x y : V) (d : PyData), vs = [x, y] ∧ DT H n x d ∧ DT H n y d ∧ ∀ H', Same H H' → Q (.bl true) H'
abbrev nSame : List Str := ["_law_told", "_law_due", "_law_one", "_law_other"]
theorem scSame : FnScope nSame ["_law_told", "_law_due"] (defScope sSame) := ⟨rfl, rfl, rfl, by decide +kernel, rfl, by decide +kernel, by decide +kernel⟩
structure TySame (mg : Str → Option Value) : Prop where
  isi : mg "isinstance" = none
  bool : mg "bool" = none
  int : mg "int" = none
  list : mg "list" = none
  tuple : mg "tuple" = none
  str : mg "str" = none
  len : mg "len" = none
  all : mg "all" = none
  zip : mg "zip" = none
section
variable {P : Program} {w : World} {K : PySem.W.Frag} {mg : Str → Option Value} {base : Heap}
theorem ok_same1 {f : Addr} {fd : FuncData} {n : Nat} (F : Fun K "_law_same" "_law_same" sSame f fd) (G : FnOk P w K mg base CX0 n f fd ["_law_told", "_law_due"] (spSame n)) (bG : Binds K fd ["_law_told", "_law_due"] []) (gG : mg "_law_same" = some (.ref f)) (T : TySame mg) :
    FnOk P w K mg base CX0 (n + 1) f fd ["_law_told", "_law_due"] (spSame (n + 1)) := by
  refine F.ok scSame (fun vs H Q E h => ?_) (fun cdv A outer s H vs Q E hr h => ?_)
  · obtain ⟨x, y, d, rfl, _⟩ := h; rfl
  obtain ⟨x, y, d, rfl, hx, hy, q⟩ := h
  refine ⟨_, pss_cons (ps_if (pt_cmpR op_isN (pv 1) pe_non (nomark _)) (pss_one (ps_ret (pe_cmpR op_isN (pv 0) pe_non (nomark _)))) pss_nil)
    (pss_cons (ps_if (PW.pt (pw_or (pt_cmpR op_ne (pe_callB call_isi (by rfl) T.isi PyProof.Rows.boot_isinstance (pa_cons (pv 0) (pa_cons (pe_bltn (v := .ty "bool") (by rfl) T.bool PyProof.Rows.boot_bool rfl) pa_nil))) (pe_callB call_isi (by rfl) T.isi PyProof.Rows.boot_isinstance (pa_cons (pv 1) (pa_cons (pe_bltn (v := .ty "bool") (by rfl) T.bool PyProof.Rows.boot_bool rfl) pa_nil))) (nomark _))
        (pw_or1 (pt_cmpR op_ne (pe_callB call_isi (by rfl) T.isi PyProof.Rows.boot_isinstance (pa_cons (pv 0) (pa_cons (pe_bltn (v := .ty "int") (by rfl) T.int PyProof.Rows.boot_int rfl) pa_nil))) (pe_callB call_isi (by rfl) T.isi PyProof.Rows.boot_isinstance (pa_cons (pv 1) (pa_cons (pe_bltn (v := .ty "int") (by rfl) T.int PyProof.Rows.boot_int rfl) pa_nil))) (nomark _)))))
      (pss_one (ps_ret pe_bl)) pss_nil)
    (pss_cons (ps_if (PW.pt (pw_or (pt_cmpR op_ne (pe_callB call_isi (by rfl) T.isi PyProof.Rows.boot_isinstance (pa_cons (pv 0) (pa_cons (pe_bltn (v := .ty "list") (by rfl) T.list PyProof.Rows.boot_list rfl) pa_nil))) (pe_callB call_isi (by rfl) T.isi PyProof.Rows.boot_isinstance (pa_cons (pv 1) (pa_cons (pe_bltn (v := .ty "list") (by rfl) T.list PyProof.Rows.boot_list rfl) pa_nil))) (nomark _))
        (pw_or1 (pt_cmpR op_ne (pe_callB call_isi (by rfl) T.isi PyProof.Rows.boot_isinstance (pa_cons (pv 0) (pa_cons (pe_bltn (v := .ty "tuple") (by rfl) T.tuple PyProof.Rows.boot_tuple rfl) pa_nil))) (pe_callB call_isi (by rfl) T.isi PyProof.Rows.boot_isinstance (pa_cons (pv 1) (pa_cons (pe_bltn (v := .ty "tuple") (by rfl) T.tuple PyProof.Rows.boot_tuple rfl) pa_nil))) (nomark _)))))
      (pss_one (ps_ret pe_bl)) pss_nil)
    (pss_cons (ps_if (PW.pt (pw_and (pt_not (pt_val (pe_callB call_isi (by rfl) T.isi PyProof.Rows.boot_isinstance (pa_cons (pv 1) (pa_cons (pe_bltn (v := .ty "list") (by rfl) T.list PyProof.Rows.boot_list rfl) pa_nil)))))
        (pw_and1 (pt_not (pt_val (pe_callB call_isi (by rfl) T.isi PyProof.Rows.boot_isinstance (pa_cons (pv 1) (pa_cons (pe_bltn (v := .ty "tuple") (by rfl) T.tuple PyProof.Rows.boot_tuple rfl) pa_nil))))))))
      (pss_one (ps_ret (pe_and (pe_cmpR op_eq (pe_callB call_isi (by rfl) T.isi PyProof.Rows.boot_isinstance (pa_cons (pv 0) (pa_cons (pe_bltn (v := .ty "str") (by rfl) T.str PyProof.Rows.boot_str rfl) pa_nil))) (pe_callB call_isi (by rfl) T.isi PyProof.Rows.boot_isinstance (pa_cons (pv 1) (pa_cons (pe_bltn (v := .ty "str") (by rfl) T.str PyProof.Rows.boot_str rfl) pa_nil))) (nomark _))
        (pe_one (pe_cmpR op_eq (pv 0) (pv 1) (nomark _)))))) pss_nil)
    (pss_one (ps_ret (pe_and (pe_cmpR op_eq (pe_callB call_len_seq (by rfl) T.len PySem.boot_len (pa_cons (pv 0) pa_nil)) (pe_callB call_len_seq (by rfl) T.len PySem.boot_len (pa_cons (pv 1) pa_nil)) (nomark _))
      (pe_one (pe_callB (cr_all rfl) (by rfl) T.all PyProof.Rows.boot_all (pa_cons (pe_lc (own := [("_law_one", 2), ("_law_other", 3)]) (g := gTup K 2 (gCons (gName 2) (gCons (gName 3) gNil))) (tt := tYes) rfl scSame.nd
        (RZ.pi_zipA (by rfl) T.zip (pa_cons (pv 0) (pa_cons (pv 1) pa_nil))) (blkOk_by (N := nSame) (sc := defScope sSame) (by decide +kernel))
        (fun _ _ _ _ _ => pg_tup rfl (pgs_cons (pg_name (i := 2) scSame.nd rfl (.inl rfl)) (pgs_cons (pg_name (i := 3) scSame.nd rfl (.inl rfl)) pgs_nil))) (fun _ _ _ _ _ => pts_nil)
        (fun _ _ _ _ _ => pe_call G hr (by rfl) gG F.kp bG .nil pass0 (pa_cons (pv 2) (pa_cons (pv 3) pa_nil)))) pa_nil))))))))), ?_⟩
  obtain ⟨⟨b1, k1⟩, ⟨b2, k2⟩, ⟨b3, k3⟩, ⟨b4, k4⟩, ⟨b5, k5⟩⟩ := kit_any hy
  have tx := hx.ty (K := K)
  have ty := hy.ty (K := K)
  have e1 := kit_ty (K := K) k1
  have e2 := kit_ty (K := K) k2
  have e3 := kit_ty (K := K) k3
  have e4 := kit_ty (K := K) k4
  have e5 := kit_ty (K := K) k5
  have nn : ∀ b : Bool, (!decide (V.bl b = V.bl b)) = false := fun b => by rw [decide_eq_true rfl]; rfl
  refine ⟨y, rfl, rfl, _, rfl, ite2 (fun c => ?_) (fun c => ?_)⟩
  · have c' : y = .non := of_decide_eq_true c
    subst c'
    cases hy
    cases hx
    exact ⟨_, rfl, rfl, q H (Same.refl H)⟩
  have cn : ¬ y = .non := fun e => c (decide_eq_true e)
  refine ⟨x, rfl, x, _, _, _, b1, rfl, .ty "bool", tx, e1, y, rfl, y, _, _, _, b1, rfl, .ty "bool", ty, e1, rfl, _, rfl, ?_⟩
  rw [nn]
  refine iteF ?_
  refine ⟨x, rfl, x, _, _, _, b2, rfl, .ty "int", tx, e2, y, rfl, y, _, _, _, b2, rfl, .ty "int", ty, e2, rfl, _, rfl, ?_⟩
  rw [nn]
  refine iteF ?_
  refine ⟨x, rfl, x, _, _, _, b3, rfl, .ty "list", tx, e3, y, rfl, y, _, _, _, b3, rfl, .ty "list", ty, e3, rfl, _, rfl, ?_⟩
  rw [nn]
  refine iteF ?_
  refine ⟨x, rfl, x, _, _, _, b4, rfl, .ty "tuple", tx, e4, y, rfl, y, _, _, _, b4, rfl, .ty "tuple", ty, e4, rfl, _, rfl, ?_⟩
  rw [nn]
  refine iteF ?_
  refine ⟨y, rfl, y, _, _, _, b3, rfl, .ty "list", ty, e3, _, rfl, ?_⟩
  rcases hx.kinds hy with ⟨j3, j4, exy, hsc⟩ | ⟨m, a, b, xs, ys, en, j3, ex, ey, ha, hb, two⟩ | ⟨m, a, b, xs, ys, en, j3, j4, ex, ey, ha, hb, two⟩
  · have f3 : b3 = false := Option.some.inj (k3.symm.trans j3)
    have f4 : b4 = false := Option.some.inj (k4.symm.trans j4)
    subst f3 f4 exy
    refine iteT ?_
    refine ⟨x, rfl, x, _, _, _, false, rfl, .ty "tuple", ty, e4, _, rfl, ?_⟩
    refine iteT ?_
    refine ⟨x, rfl, x, _, _, _, b5, rfl, .ty "str", tx, e5, x, rfl, x, _, _, _, b5, rfl, .ty "str", ty, e5, rfl, _, rfl, ?_⟩
    rw [decide_eq_true rfl]
    refine iteT ?_
    refine ⟨x, rfl, x, rfl, hsc, ?_⟩
    rw [decide_eq_true rfl]
    exact q H (Same.refl H)
  · have f3 : b3 = true := Option.some.inj (k3.symm.trans j3)
    subst f3 ex ey en
    refine iteF ?_
    refine iteF ?_
    refine ⟨.ref a, rfl, a, xs, rfl, .inl (.inl (.inl ha)), .ref b, rfl, b, ys, rfl, .inl (.inl (.inl hb)), rfl, _, rfl, ?_⟩
    rw [decide_eq_true (by rw [two.len])]
    refine iteT ?_
    refine ⟨.ref a, rfl, .ref b, rfl, a, b, xs, ys, rfl, .inl ⟨.inl (.inl ha), .inl (.inl hb), fun D nD => ?_⟩⟩
    have s1 : Same H (upd H D (.lst [])) := same_upd nD
    refine lc_it (walk_zip (K := K) (a := a) (b := b) (xs := xs) (ys := ys) (n := xs.length) (by rw [two.len, Nat.min_self])) (fun i H3 => Same H H3 ∧ H3 D = some (.lst ((List.replicate i true).map V.bl)) ∧ i ≤ xs.length) ⟨s1, upd_same, Nat.zero_le _⟩ (fun i H3 _ hP => ⟨hP.1.seq (.inl (.inl ha)), hP.1.seq (.inl (.inl hb))⟩) (fun i v H3 H4 hi hP hy4 => ?_) (fun H3 hP => ?_)
    · obtain ⟨sm, eD, _⟩ := hP
      obtain ⟨t, u1, u2, rfl, nt, rfl, g1, g2⟩ := hy4
      obtain ⟨du, d1, d2⟩ := two.at_ i u1 u2 g1 g2
      have s4 := same_upd (o := .tup [u1, u2]) nt
      have s5 := sm.trans s4
      refine ⟨t, [u1, u2], rfl, .inl (.inl upd_same), rfl, _, _, rfl, _, _, rfl, rfl, rfl, ?_⟩
      refine tYes_ok ?_
      refine iteT ?_
      refine ⟨u1, rfl, u2, rfl, u1, u2, du, rfl, d1.same s5, d2.same s5, fun H6 s6 => ?_⟩
      refine ⟨_, s6 _ _ (s4 _ _ eD), ?_, same_over (s5.trans s6) nD, ?_, hi⟩
      · rw [List.length_map, List.length_replicate]
        exact Nat.lt_of_le_of_lt (show i ≤ 14000000 by have := two.few; omega) (by decide)
      · rw [upd_same, rep_snoc]
    · obtain ⟨sm, eD, _⟩ := hP
      refine ⟨D, _, rfl, .inl (.inl eD), ?_⟩
      rw [all_true]
      exact q H3 sm
  · have f3 : b3 = false := Option.some.inj (k3.symm.trans j3)
    have f4 : b4 = true := Option.some.inj (k4.symm.trans j4)
    subst f3 f4 ex ey en
    refine iteT ?_
    refine ⟨.ref b, rfl, .ref b, _, _, _, true, rfl, .ty "tuple", ty, e4, _, rfl, ?_⟩
    refine iteF ?_
    refine ⟨.ref a, rfl, a, xs, rfl, .inr (.inl (.inl ha)), .ref b, rfl, b, ys, rfl, .inr (.inl (.inl hb)), rfl, _, rfl, ?_⟩
    rw [decide_eq_true (by rw [two.len])]
    refine iteT ?_
    refine ⟨.ref a, rfl, .ref b, rfl, a, b, xs, ys, rfl, .inr ⟨.inl (.inl ha), .inl (.inl hb), fun D nD => ?_⟩⟩
    have s1 : Same H (upd H D (.lst [])) := same_upd nD
    refine lc_it (walk_zipT (K := K) (a := a) (b := b) two.len) (fun i H3 => Same H H3 ∧ H3 D = some (.lst ((List.replicate i true).map V.bl)) ∧ i ≤ xs.length) ⟨s1, upd_same, Nat.zero_le _⟩ (fun i H3 _ hP => ⟨.inl (.inl (hP.1 _ _ ha)), .inl (.inl (hP.1 _ _ hb))⟩) (fun i v H3 H4 hi hP hy4 => ?_) (fun H3 hP => ?_)
    · obtain ⟨sm, eD, _⟩ := hP
      obtain ⟨t, u1, u2, rfl, nt, rfl, g1, g2⟩ := hy4
      obtain ⟨du, d1, d2⟩ := two.at_ i u1 u2 g1 g2
      have s4 := same_upd (o := .tup [u1, u2]) nt
      have s5 := sm.trans s4
      refine ⟨t, [u1, u2], rfl, .inl (.inl upd_same), rfl, _, _, rfl, _, _, rfl, rfl, rfl, ?_⟩
      refine tYes_ok ?_
      refine iteT ?_
      refine ⟨u1, rfl, u2, rfl, u1, u2, du, rfl, d1.same s5, d2.same s5, fun H6 s6 => ?_⟩
      refine ⟨_, s6 _ _ (s4 _ _ eD), ?_, same_over (s5.trans s6) nD, ?_, hi⟩
      · rw [List.length_map, List.length_replicate]
        exact Nat.lt_of_le_of_lt (show i ≤ 14000000 by have := two.few; omega) (by decide)
      · rw [upd_same, rep_snoc]
    · obtain ⟨sm, eD, _⟩ := hP
      refine ⟨D, _, rfl, .inl (.inl eD), ?_⟩
      rw [all_true]
      exact q H3 sm
theorem same_none {f : Addr} {fd : FuncData} : FnOk P w K mg base CX0 0 f fd ["_law_told", "_law_due"] (spSame 0) :=
  ⟨fun _ _ _ _ h => h.elim, fun _ _ _ _ _ _ _ _ _ _ _ _ _ h => h.elim⟩
theorem ok_same {f : Addr} {fd : FuncData} (F : Fun K "_law_same" "_law_same" sSame f fd) (bG : Binds K fd ["_law_told", "_law_due"] []) (gG : mg "_law_same" = some (.ref f)) (T : TySame mg) :
    ∀ n : Nat, FnOk P w K mg base CX0 n f fd ["_law_told", "_law_due"] (spSame n)
  | 0 => same_none
  | n + 1 => ok_same1 F (ok_same F bG gG T n) bG gG T
end
end Rep
namespace Rep
open PySem L2
theorem szN (n : Nat) {m : Nat} (h : m = n) (h2 : Nat.ble n sizeLine = true := by decide) : m ≤ sizeLine := by rw [h]; exact Nat.le_of_ble_eq_true h2
theorem new_same {H H' : Hp} {p : Addr} {o : HO} (e : upd H p o = H') (n : H p = none) : Same H H' := by rw [← e]; exact same_upd n
theorem new_at {H H' : Hp} {p : Addr} {o : HO} (e : upd H p o = H') : H' p = some o := by rw [← e]; exact upd_same
end Rep
namespace Rep
open PySem L2
/-- sizes of digits -/
def Dg (z : Int) : Prop := 0 < z ∧ z.natAbs.log2 < 9000
theorem dg0 : ∀ y ∈ ([] : List Int), 0 < y ∧ y.natAbs.log2 < 9000 := fun y h => by cases h
theorem dgc {z : Int} {zs : List Int} (h : Dg z) (t : ∀ y ∈ zs, 0 < y ∧ y.natAbs.log2 < 9000) : ∀ y ∈ z :: zs, 0 < y ∧ y.natAbs.log2 < 9000 := fun y hy => by
  rcases List.mem_cons.mp hy with rfl | hy
  · exact h
  · exact t y hy
theorem dgT : Dg ((10 : Int) ^ (40 : Int).toNat) := ⟨by decide +kernel, by decide +kernel⟩
theorem dgS {z : Int} (h0 : 0 < z) (h1 : z ≤ 1000000) : Dg z := by
  refine ⟨h0, ?_⟩
  have h2 : z.natAbs < 2 ^ 20 := by omega
  have := (Nat.log2_lt (show z.natAbs ≠ 0 by omega)).mpr h2
  omega
theorem pT : 0 < (10 : Int) ^ (40 : Int).toNat := by decide +kernel
end Rep
namespace Rep
open PySem L2
theorem at_any {xs : List V} {n : Nat} {j : Int} (hl : xs.length = n) (h0 : 0 ≤ j) (h1 : j < (n : Int)) : ∃ v, v ∈ xs ∧ atI xs j = some v := by
  obtain ⟨i, rfl⟩ : ∃ i : Nat, j = (i : Int) := ⟨j.toNat, by omega⟩
  have hi : i < xs.length := by omega
  exact ⟨xs[i], List.getElem_mem hi, atI_nat (List.getElem?_eq_getElem hi)⟩
end Rep
namespace Rep
open PySem L2
structure Me where
  num : Int
  lt : Str
  at_ : Int
  n : Int
def MeAt (H : Hp) (v : V) (m : Me) : Prop := ∃ t, v = .ref t ∧ H t = some (.tup [.int m.num, .str m.lt, .int m.at_, .int m.n])
theorem MeAt.ts {H H' : Hp} (h : TS H H') {v : V} {m : Me} (k : MeAt H v m) : MeAt H' v m := by obtain ⟨t, e, ht⟩ := k; exact ⟨t, e, h _ _ ht⟩
theorem MeAt.of {H : Hp} {t : Addr} {m : Me} (h : H t = some (.tup [.int m.num, .str m.lt, .int m.at_, .int m.n])) : MeAt H (.ref t) m := ⟨t, rfl, h⟩
abbrev ML (H : Hp) (vs : List V) (ms : List Me) : Prop := LL MeAt H vs ms
theorem ML.ts {H H' : Hp} (h : TS H H') {vs : List V} {ms : List Me} (k : ML H vs ms) : ML H' vs ms := k.imp fun _ _ z => z.ts h
/-- one small letter -/
def Ltr (z : Str) : Prop := ∃ c : Nat, z = ⟨#[c]⟩ ∧ 97 ≤ c ∧ c ≤ 122
theorem scChkl : FnScope ["length"] ["length"] (defScope sCheck_length) := ⟨rfl, rfl, rfl, by decide +kernel, rfl, by decide +kernel, by decide +kernel⟩
theorem scChks : FnScope ["length", "at", "many"] ["length", "at", "many"] (defScope sCheck_stretch) := ⟨rfl, rfl, rfl, by decide +kernel, rfl, by decide +kernel, by decide +kernel⟩
theorem scChkss : FnScope ["length", "sayings", "one", "other", "many", "turned"] ["length", "sayings"] (defScope sCheck_sayings) := ⟨rfl, rfl, rfl, by decide +kernel, rfl, by decide +kernel, by decide +kernel⟩
theorem scLetter : FnScope ["letter"] ["letter"] (defScope sCheck_letter) := ⟨rfl, rfl, rfl, by decide +kernel, rfl, by decide +kernel, by decide +kernel⟩
theorem scCmem : FnScope ["length", "letter", "at", "many"] ["length", "letter", "at", "many"] (defScope sCheck_memory) := ⟨rfl, rfl, rfl, by decide +kernel, rfl, by decide +kernel, by decide +kernel⟩
/-- the heap but for one object -/
def Sam (q : Addr) (H H' : Hp) : Prop := ∀ b o, H b = some o → b ≠ q → H' b = some o
theorem Sam.same {q : Addr} {H H1 H2 : Hp} (h : Sam q H H1) (s : Same H1 H2) : Sam q H H2 := fun b o e n => s _ _ (h b o e n)
theorem Sam.upd {q : Addr} {H H1 : Hp} {o : HO} (h : Sam q H H1) : Sam q H (upd H1 q o) := fun b x e n => by rw [upd_ne n]; exact h b x e n
theorem TS.sam {q : Addr} {H H' : Hp} {o : HO} (s : Sam q H H') (hq : H q = some o) (no : ∀ xs, o ≠ .tup xs) : TS H H' := fun t xs e => s t _ e fun z => by subst z; rw [hq] at e; exact no xs (Option.some.inj e)
theorem Ltr.len {z : Str} (h : Ltr z) : z.length = 1 := by obtain ⟨c, rfl, _⟩ := h; rfl
end Rep
namespace Rep
open PySem L2 L2H RepHot
/-! defs that refuse -/
structure ExT (K : PySem.W.Frag) (mg : Str → Option Value) (x : Str) (C : Addr) : Prop where
  g : mg x = some (.ref C)
  x : PySem.W.excIn K C [.type "ValueError", .type "Exception", .type "BaseException", .type "object"] "ValueError.__new__" = true
  k : PySem.W.keepIn K (.ref C) = true
  b : PySem.W.subIn K (.ref C) (.type "BaseException") = some true
  t : PySem.W.typeIn K (.ref C) = some (.type "type")
end Rep
namespace Rep
open PySem L2 L2H RepHot
/-- a stretch of the song -/
def St_ (x n e : Int) : Prop := 1 ≤ n ∧ 0 ≤ x ∧ x + n ≤ e
instance {x n e : Int} : Decidable (St_ x n e) := inferInstanceAs (Decidable (1 ≤ n ∧ 0 ≤ x ∧ x + n ≤ e))
def spChksX (BS : Addr) : Sp := fun vs H Q E => ∃ e x n : Int, vs = [.int e, .int x, .int n] ∧ (St_ x n e → Q .non H) ∧ (¬ St_ x n e → E (.ref BS) none H)
section
variable {Pg : Program} {w : World} {K : PySem.W.Frag} {mg : Str → Option Value} {base : Heap}
theorem ok_chksX {f BS : Addr} {fd : FuncData} {k : Nat} (F : Fun K "check_stretch" "check_stretch" sCheck_stretch f fd) (X : ExT K mg "BadStretch" BS) : FnOk Pg w K mg base (L2N.CX Pg w) (k + 1) f fd ["length", "at", "many"] (spChksX BS) := by
  refine okN F scChks (fun vs H Q E h => ?_) (fun cdv A outer s H vs Q E hr h => ?_)
  · obtain ⟨e, x, n, rfl, _⟩ := h; rfl
  obtain ⟨e, x, n, rfl, q, qe⟩ := h
  refine ⟨_, (pss_one (ps_if (PW.pt (pw_or (pt_cmpR op_lt (pv 2) pe_int (nomark _)) (pw_or (pt_cmpR op_lt (pv 1) pe_int (nomark _)) (pw_or1 (pt_cmpR op_gt (pe_op op_add (pv 1) (pv 2)) (pv 0) (nomark _)))))) (pss_one (L2N.ps_raise rfl (L2N.takes_of rfl rfl rfl rfl) (L2N.pmk_own PySem.F.excBase_ValueError X.x X.g X.k (raises_own X.b X.t) rfl))) pss_nil)), ?_⟩
  refine ⟨.int n, rfl, _, 1, rfl, rfl, _, rfl, ite2 (fun c => ?_) (fun c => ?_)⟩
  · have c := of_decide_eq_true c
    refine iteT ?_
    exact qe fun z => by have := z.1; omega
  · have c : ¬ n < 1 := fun z => c (decide_eq_true z)
    refine ⟨.int x, rfl, _, 0, rfl, rfl, _, rfl, ite2 (fun d => ?_) (fun d => ?_)⟩
    · have d := of_decide_eq_true d
      refine iteT ?_
      exact qe fun z => by have := z.2.1; omega
    · have d : ¬ x < 0 := fun z => d (decide_eq_true z)
      refine ⟨.int x, rfl, .int n, rfl, _, _, rfl, rfl, .int e, rfl, _, _, rfl, rfl, _, rfl, ite2 (fun g => ?_) (fun g => ?_)⟩
      · have g := of_decide_eq_true g
        exact qe fun z => by have := z.2.2; omega
      · have g : ¬ x + n > e := fun z => g (decide_eq_true z)
        exact q ⟨by omega, by omega, by omega⟩
end
end Rep
namespace Rep
open PySem L2 L2H RepHot
/-! Memories made where something may be refused -/
theorem ltr_one {c : Nat} : Ltr ⟨#[c]⟩ ↔ 97 ≤ c ∧ c ≤ 122 := by
  constructor
  · rintro ⟨d, e, h1, h2⟩
    have : #[c] = #[d] := by injection e
    have : c = d := by simpa using this
    subst this
    exact ⟨h1, h2⟩
  · rintro ⟨h1, h2⟩
    exact ⟨c, rfl, h1, h2⟩
theorem lt_one {c d : Nat} : ([c] < [d]) ↔ c < d := by
  constructor
  · intro z
    rcases List.cons_lt_cons_iff.mp z with z | z
    · exact z
    · exact absurd z.2 (List.lt_irrefl [])
  · intro h
    exact List.cons_lt_cons_iff.mpr (.inl h)
theorem str_one {z : Str} (h : z.length = 1) : ∃ c, z = ⟨#[c]⟩ := by
  obtain ⟨a⟩ := z
  have h : a.size = 1 := h
  obtain ⟨l⟩ := a
  match l, h with
  | [c], _ => exact ⟨c, rfl⟩
def spLetterX (BL : Addr) : Sp := fun vs H Q E => ∃ z : Str, vs = [.str z] ∧ z.length ≤ 1000000 ∧ (Ltr z → Q .non H) ∧ (¬ Ltr z → E (.ref BL) none H)
section
variable {Pg : Program} {w : World} {K : PySem.W.Frag} {mg : Str → Option Value} {base : Heap}
theorem ok_letterX {f BL : Addr} {fd : FuncData} {k : Nat} (F : Fun K "check_letter" "check_letter" sCheck_letter f fd) (T : TySame mg) (X : ExT K mg "BadLetter" BL) : FnOk Pg w K mg base (L2N.CX Pg w) (k + 1) f fd ["letter"] (spLetterX BL) := by
  refine okN F scLetter (fun vs H Q E h => ?_) (fun cdv A outer s H vs Q E hr h => ?_)
  · obtain ⟨z, rfl, _⟩ := h; rfl
  obtain ⟨z, rfl, hz, q, qe⟩ := h
  refine ⟨_, (pss_one (ps_if (PW.pt (pw_or (pt_not (pt_val (pe_callB call_isi (by rfl) T.isi PyProof.Rows.boot_isinstance (pa_cons (pv 0) (pa_cons (pe_bltn (v := .ty "str") (by rfl) T.str PyProof.Rows.boot_str rfl) pa_nil))))) (pw_or (pt_cmpR op_ne (pe_callB call_len_str (by rfl) T.len PySem.boot_len (pa_cons (pv 0) pa_nil)) pe_int (nomark _)) (pw_or (pt_cmpR op_lt_str (pv 0) pe_str (nomark _)) (pw_or1 (pt_cmpR op_gt_str (pv 0) pe_str (nomark _))))))) (pss_one (L2N.ps_raise rfl (L2N.takes_of rfl rfl rfl rfl) (L2N.pmk_own PySem.F.excBase_ValueError X.x X.g X.k (raises_own X.b X.t) rfl))) pss_nil)), ?_⟩
  have ea : ("a" : Str).cps.toList = [97] := by decide +kernel
  have ez : ("z" : Str).cps.toList = [122] := by decide +kernel
  refine ⟨.str z, rfl, .str z, _, _, _, true, rfl, .ty "str", .base (.str _), kit_ty (K := K) (show kitB "str" "str" = some true by decide +kernel), true, rfl, ?_⟩
  refine iteF ?_
  refine ⟨.str z, rfl, _, rfl, Nat.le_trans hz (by decide), rfl, _, rfl, ?_⟩
  by_cases hl : z.length = 1
  · obtain ⟨c, rfl⟩ := str_one hl
    rw [show (!decide (V.int ((Str.length ⟨#[c]⟩ : Nat) : Int) = V.int 1)) = false by show (!decide (V.int ((1 : Nat) : Int) = V.int 1)) = false; decide]
    refine iteF ?_
    refine ⟨.str ⟨#[c]⟩, rfl, _, _, rfl, rfl, _, rfl, ?_⟩
    refine ite2 (fun d => ?_) (fun d => ?_)
    · have d := of_decide_eq_true d
      rw [ea] at d
      have d := lt_one.mp d
      refine iteT ?_
      exact qe fun z => by have := (ltr_one.mp z).1; omega
    · have d1 : ¬ c < 97 := fun y => d (decide_eq_true (by rw [ea]; exact lt_one.mpr y))
      refine ⟨.str ⟨#[c]⟩, rfl, _, _, rfl, rfl, _, rfl, ?_⟩
      refine ite2 (fun g => ?_) (fun g => ?_)
      · have g := of_decide_eq_true g
        rw [ez] at g
        have g := lt_one.mp g
        exact qe fun z => by have := (ltr_one.mp z).2; omega
      · have g1 : ¬ 122 < c := fun y => g (decide_eq_true (by rw [ez]; exact lt_one.mpr y))
        exact q (ltr_one.mpr ⟨by omega, by omega⟩)
  · rw [show (!decide (V.int ((Str.length z : Nat) : Int) = V.int 1)) = true by
      rw [decide_eq_false (fun y => hl (by have := V.int.inj y; omega))]; rfl]
    refine iteT ?_
    refine iteT ?_
    exact qe fun y => hl y.len
end
def spCmemX (BL BS : Addr) : Sp := fun vs H Q E => ∃ (e x n : Int) (z : Str), vs = [.int e, .str z, .int x, .int n] ∧ z.length ≤ 1000000 ∧ (Ltr z → St_ x n e → Q .non H) ∧ (¬ Ltr z → E (.ref BL) none H) ∧ (Ltr z → ¬ St_ x n e → E (.ref BS) none H)
section
variable {Pg : Program} {w : World} {K : PySem.W.Frag} {mg : Str → Option Value} {base : Heap}
theorem ok_cmemX {f fL fS BL BS : Addr} {fd fdL fdS : FuncData} {k : Nat} (F : Fun K "check_memory" "check_memory" sCheck_memory f fd) (GL : FnOk Pg w K mg base (L2N.CX Pg w) k fL fdL ["letter"] (spLetterX BL)) (kL : PySem.W.keepIn K (.ref fL) = true) (bL : Binds K fdL ["letter"] []) (mL_ : mg "check_letter" = some (.ref fL))
    (GS : FnOk Pg w K mg base (L2N.CX Pg w) k fS fdS ["length", "at", "many"] (spChksX BS)) (kS : PySem.W.keepIn K (.ref fS) = true) (bS : Binds K fdS ["length", "at", "many"] []) (mS_ : mg "check_stretch" = some (.ref fS)) : FnOk Pg w K mg base (L2N.CX Pg w) (k + 1) f fd ["length", "letter", "at", "many"] (spCmemX BL BS) := by
  refine okN F scCmem (fun vs H Q E h => ?_) (fun cdv A outer s H vs Q E hr h => ?_)
  · obtain ⟨e, x, n, z, rfl, _⟩ := h; rfl
  obtain ⟨e, x, n, z, rfl, hz, q, q1, q2⟩ := h
  refine ⟨_, (pss_cons (ps_expr (pe_call GL hr (by rfl) mL_ kL bL .nil (by exact L2N.passes_call (L2N.takes_of rfl rfl rfl rfl) (fun _ _ _ _ h => h)) (pa_cons (pv 1) pa_nil)))
    (pss_one (ps_expr (pe_call GS hr (by rfl) mS_ kS bS .nil (by exact L2N.passes_call (L2N.takes_of rfl rfl rfl rfl) (fun _ _ _ _ h => h)) (pa_cons (pv 0) (pa_cons (pv 2) (pa_cons (pv 3) pa_nil))))))), ?_⟩
  exact ⟨.str z, rfl, z, rfl, hz, fun hl => ⟨.int e, rfl, .int x, rfl, .int n, rfl, e, x, n, rfl, fun hs => q hl hs, fun hs => q2 hl hs⟩, fun hl => q1 hl⟩
end
end Rep
namespace Rep
open PySem L2
def spLl : Sp := fun vs H Q _ => ∃ r : Int, vs = [.int r] ∧ ∀ z, Ltr z → Q (.str z) H
theorem scLl : FnScope ["_law_raw_here"] ["_law_raw_here"] (defScope s_law_letter) := ⟨rfl, rfl, rfl, by decide +kernel, rfl, by decide +kernel, by decide +kernel⟩
theorem abc_at : ∀ j : Nat, j < 26 → ("abcdefghijklmnopqrstuvwxyz" : Str).cps.toList[j]? = some (97 + j) := by decide +kernel
section
variable {Pg : Program} {w : World} {K : PySem.W.Frag} {mg : Str → Option Value} {base : Heap}
theorem ok_ll {f : Addr} {fd : FuncData} {k : Nat} (F : Fun K "_law_letter" "_law_letter" s_law_letter f fd) : FnOk Pg w K mg base CX0 (k + 1) f fd ["_law_raw_here"] spLl := by
  refine F.ok scLl (fun vs H Q E h => ?_) (fun cdv A outer s H vs Q E hr h => ?_)
  · obtain ⟨r, rfl, _⟩ := h; rfl
  obtain ⟨r, rfl, q⟩ := h
  refine ⟨_, (pss_one (ps_ret (pe_ix ix_str pe_str (pe_op op_mod (pv 0) pe_int) (fun _ _ => rfl)))), ?_⟩
  have m0 := Int.emod_nonneg r (show (26 : Int) ≠ 0 by decide)
  have m1 := Int.emod_lt_of_pos r (show (0 : Int) < 26 by decide)
  obtain ⟨j, hj⟩ : ∃ j : Nat, r % 26 = (j : Int) := ⟨(r % 26).toNat, by omega⟩
  refine ⟨.int r, rfl, _, 26, rfl, rfl, (by show (0 : Int) < 26; decide), _, _, 97 + j, rfl, rfl, (by show 26 ≤ sizeLine; decide), ?_, q _ ⟨97 + j, rfl, by omega, by omega⟩⟩
  rw [hj]
  exact atI_nat (abc_at j (by omega))
end
end Rep
namespace Rep
open PySem L2 L2H RepHot
/-! what sheets rest on: checks that refuse, rows by their numbers -/
def In40 (e : Int) : Prop := 0 ≤ e ∧ e < 10 ^ 40
def HdAt (H : Hp) (v : V) (n : Int) : Prop := ∃ t r, v = .ref t ∧ H t = some (.tup (.int n :: r))
structure Rw where
  num : Int
  sy : Sy
def RwAt (H : Hp) (v : V) (r : Rw) : Prop := ∃ t, v = .ref t ∧ H t = some (.tup [.int r.num, .int r.sy.lo, .int r.sy.hi, .int r.sy.n, .bl r.sy.t])
theorem RwAt.ts {H H' : Hp} (h : TS H H') {v : V} {r : Rw} (k : RwAt H v r) : RwAt H' v r := by obtain ⟨t, e, ht⟩ := k; exact ⟨t, e, h _ _ ht⟩
abbrev RL (H : Hp) (vs : List V) (rs : List Rw) : Prop := LL RwAt H vs rs
theorem RL.ts {H H' : Hp} (h : TS H H') {vs : List V} {rs : List Rw} (k : RL H vs rs) : RL H' vs rs := k.imp fun _ _ z => z.ts h
theorem RL.hd {H : Hp} {vs : List V} {rs : List Rw} (k : RL H vs rs) : LL HdAt H vs (rs.map Rw.num) := by
  refine ⟨by rw [List.length_map]; exact k.len, fun i v a h1 h2 => ?_⟩
  rw [List.getElem?_map] at h2
  obtain ⟨r, hr, rfl⟩ := Option.map_eq_some_iff.mp h2
  obtain ⟨t, e, ht⟩ := k.at_ i v r h1 hr
  exact ⟨t, _, e, ht⟩
theorem ML.hd {H : Hp} {vs : List V} {ms : List Me} (k : ML H vs ms) : LL HdAt H vs (ms.map Me.num) := by
  refine ⟨by rw [List.length_map]; exact k.len, fun i v a h1 h2 => ?_⟩
  rw [List.getElem?_map] at h2
  obtain ⟨r, hr, rfl⟩ := Option.map_eq_some_iff.mp h2
  obtain ⟨t, e, ht⟩ := k.at_ i v r h1 hr
  exact ⟨t, _, e, ht⟩
theorem cutTo (xs : List V) (i : Nat) : cutV xs none (some (i : Int)) = xs.take i := by
  unfold cutV
  rw [show HT.sIx xs.length xs.length (some (i : Int)) = min i xs.length from HT.sIx_nat xs.length xs.length i, HT.sIx_none]
  show (xs.take (min i xs.length - 0)) = _
  rw [Nat.sub_zero]
  rcases Nat.le_total i xs.length with h | h
  · rw [Nat.min_eq_left h]
  · rw [Nat.min_eq_right h, List.take_length, List.take_of_length_le h]
theorem cutFrom (xs : List V) (i : Nat) : cutV xs (some (i : Int)) none = xs.drop i := by
  unfold cutV
  rw [show HT.sIx xs.length 0 (some (i : Int)) = min i xs.length from HT.sIx_nat xs.length 0 i, HT.sIx_none]
  show ((xs.drop (min i xs.length)).take (xs.length - min i xs.length)) = _
  rcases Nat.le_total i xs.length with h | h
  · rw [Nat.min_eq_left h]; exact List.take_of_length_le (by rw [List.length_drop]; omega)
  · rw [Nat.min_eq_right h, Nat.sub_self, List.drop_of_length_le h]; rfl
theorem atI_0 (v : V) (r : List V) : atI (v :: r) 0 = some v := by
  unfold atI ixN
  rw [if_pos (by decide), if_pos (by rw [List.length_cons]; omega)]
  rfl
/-- the place of the first that has the number -/
def Fst (ns : List Int) (n : Int) (k : Nat) : Prop := ns[k]? = some n ∧ ∀ j < k, ns[j]? ≠ some n
def spChklX (BL : Addr) : Sp := fun vs H Q E => ∃ e : Int, vs = [.int e] ∧ (In40 e → Q .non H) ∧ (¬ In40 e → E (.ref BL) none H)
def spChkssX (K : PySem.W.Frag) (BS : Addr) : Sp := fun vs H Q E => ∃ (e : Int) (a : Addr) (xs : List V) (ss : List Sy), vs = [.int e, .ref a] ∧ SqL K H a xs ∧ SL H xs ss ∧ ((∀ s ∈ ss, St_ s.lo s.n e ∧ St_ s.hi s.n e) → Q .non H) ∧ (¬ (∀ s ∈ ss, St_ s.lo s.n e ∧ St_ s.hi s.n e) → E (.ref BS) none H)
def spPlo (K : PySem.W.Frag) (NN : Addr) : Sp := fun vs H Q E => ∃ (a : Addr) (xs : List V) (ns : List Int) (n : Int), vs = [.ref a, .int n] ∧ SqL K H a xs ∧ LL HdAt H xs ns ∧ ns.length ≤ 1000 ∧ (∀ k H', Same H H' → Fst ns n k → Q (.int (k : Nat)) H') ∧ (n ∉ ns → ∀ H', Same H H' → E (.ref NN) none H')
def spWout (K : PySem.W.Frag) (NN : Addr) : Sp := fun vs H Q E => ∃ (a : Addr) (xs : List V) (ns : List Int) (n : Int), vs = [.ref a, .int n] ∧ H a = some (.lst xs) ∧ LL HdAt H xs ns ∧ ns.length ≤ 1000 ∧ (∀ k H' l, Same H H' → Fst ns n k → H l = none → H' l = some (.lst (xs.eraseIdx k)) → Q (.ref l) H') ∧ (n ∉ ns → ∀ H', Same H H' → E (.ref NN) none H')
def spUnn (K : PySem.W.Frag) : Sp := fun vs H Q _ => ∃ (a : Addr) (xs : List V) (rs : List Rw), vs = [.ref a] ∧ H a = some (.lst xs) ∧ RL H xs rs ∧ rs.length ≤ 1000 ∧ ∀ H' l ys, Same H H' → H l = none → H' l = some (.lst ys) → SL H' ys (rs.map Rw.sy) → Q (.ref l) H'
def spRoom (K : PySem.W.Frag) (FU : Addr) : Sp := fun vs H Q E => ∃ (a : Addr) (xs : List V), vs = [.ref a] ∧ H a = some (.lst xs) ∧ (xs.length < 24 → Q .non H) ∧ (¬ xs.length < 24 → E (.ref FU) none H)
def spChg (BL : Addr) : Sp := fun vs H Q E => ∃ m : Int, vs = [.int m] ∧ (1 ≤ m → Q .non H) ∧ (¬ 1 ≤ m → E (.ref BL) none H)
abbrev nUnn : List Str := ["rows", "number", "one", "other", "many", "turned"]
theorem scUnn : FnScope nUnn ["rows"] (defScope sUnnumbered) := ⟨rfl, rfl, rfl, by decide +kernel, rfl, by decide +kernel, by decide +kernel⟩
theorem scPlo : FnScope ["rows", "number", "k", "row"] ["rows", "number"] (defScope sPlace_of) := ⟨rfl, rfl, rfl, by decide +kernel, rfl, by decide +kernel, by decide +kernel⟩
theorem scWout : FnScope ["rows", "number", "k"] ["rows", "number"] (defScope sWithout) := ⟨rfl, rfl, rfl, by decide +kernel, rfl, by decide +kernel, by decide +kernel⟩
theorem scRoom : FnScope ["rows"] ["rows"] (defScope sCheck_room) := ⟨rfl, rfl, rfl, by decide +kernel, rfl, by decide +kernel, by decide +kernel⟩
theorem scChg : FnScope ["many"] ["many"] (defScope sCheck_change) := ⟨rfl, rfl, rfl, by decide +kernel, rfl, by decide +kernel, by decide +kernel⟩
structure TPl (K : PySem.W.Frag) (mg : Str → Option Value) (BL NN FU : Addr) : Prop where
  xBL : ExT K mg "BadLength" BL
  xNN : ExT K mg "NoNumber" NN
  xFU : ExT K mg "Full" FU
  mTOO_LONG : ∃ u, mg "TOO_LONG" = some u ∧ RelV (.int (10 ^ 40)) u
  mMOST : ∃ u, mg "MOST" = some u ∧ RelV (.int 24) u
  ml : mg "len" = none
  menumerate : mg "enumerate" = none
structure TCt (Pg : Program) (w : World) (K : PySem.W.Frag) (mg : Str → Option Value) (base : Heap) (BS : Addr) (k : Nat) (fCt : Addr) (fdCt : FuncData) : Prop where
  gCt : FnOk Pg w K mg base (L2N.CX Pg w) k fCt fdCt ["length", "at", "many"] (spChksX BS)
  bCt : Binds K fdCt ["length", "at", "many"] []
  kCt : PySem.W.keepIn K (.ref fCt) = true
  mCt : mg "check_stretch" = some (.ref fCt)
structure TPo (Pg : Program) (w : World) (K : PySem.W.Frag) (mg : Str → Option Value) (base : Heap) (NN : Addr) (k : Nat) (fPo : Addr) (fdPo : FuncData) : Prop where
  gPo : FnOk Pg w K mg base (L2N.CX Pg w) k fPo fdPo ["rows", "number"] (spPlo K NN)
  bPo : Binds K fdPo ["rows", "number"] []
  kPo : PySem.W.keepIn K (.ref fPo) = true
  mPo : mg "place_of" = some (.ref fPo)
section
variable {Pg : Program} {w : World} {K : PySem.W.Frag} {mg : Str → Option Value} {base : Heap} {BL NN FU BS : Addr}
theorem ok_chklX {f : Addr} {fd : FuncData} {k : Nat} (F : Fun K "check_length" "check_length" sCheck_length f fd) (T : TPl K mg BL NN FU) : FnOk Pg w K mg base (L2N.CX Pg w) (k + 1) f fd ["length"] (spChklX BL) := by
  refine okN F scChkl (fun vs H Q E h => ?_) (fun cdv A outer s H vs Q E hr h => ?_)
  · obtain ⟨e, rfl, _⟩ := h; rfl
  obtain ⟨e, rfl, q, qe⟩ := h
  refine ⟨_, (pss_one (ps_if (PW.pt (pw_or (pt_cmpR op_lt (pv 0) pe_int (nomark _)) (pw_or1 (pt_cmpR op_ge (pv 0) (C8.pe_gc (by rfl) T.mTOO_LONG) (nomark _))))) (pss_one (L2N.ps_raise rfl (L2N.takes_of rfl rfl rfl rfl) (L2N.pmk_own PySem.F.excBase_ValueError T.xBL.x T.xBL.g T.xBL.k (raises_own T.xBL.b T.xBL.t) rfl))) pss_nil)), ?_⟩
  refine ⟨.int e, rfl, _, 0, rfl, rfl, _, rfl, ite2 (fun c => ?_) (fun c => ?_)⟩
  · have c := of_decide_eq_true c
    refine iteT ?_
    exact qe fun z => by have := z.1; omega
  · have c : ¬ e < 0 := fun z => c (decide_eq_true z)
    refine ⟨.int e, rfl, _, _, rfl, rfl, _, rfl, ite2 (fun d => ?_) (fun d => ?_)⟩
    · have d := of_decide_eq_true d
      exact qe fun z => by have := z.2; omega
    · have d : ¬ e ≥ 10 ^ 40 := fun z => d (decide_eq_true z)
      exact q ⟨by omega, by omega⟩
theorem ok_chkssX {f fCt : Addr} {fd fdCt : FuncData} {k : Nat} (F : Fun K "check_sayings" "check_sayings" sCheck_sayings f fd) (T : TCt Pg w K mg base BS k fCt fdCt) : FnOk Pg w K mg base (L2N.CX Pg w) (k + 1) f fd ["length", "sayings"] (spChkssX K BS) := by
  refine okN F scChkss (fun vs H Q E h => ?_) (fun cdv A outer s H vs Q E hr h => ?_)
  · obtain ⟨e, a, xs, ss, rfl, _⟩ := h; rfl
  obtain ⟨e, a, xs, ss, rfl, hX, sl, q, qe⟩ := h
  refine ⟨_, (pss_one (ps_for (passes_of rfl) rfl (pi_list (pv 1)) (pg_tup rfl (pgs_cons (pg_name (i := 2) scChkss.nd rfl (.inl rfl)) (pgs_cons (pg_name (i := 3) scChkss.nd rfl (.inl rfl)) (pgs_cons (pg_name (i := 4) scChkss.nd rfl (.inl rfl)) (pgs_cons (pg_name (i := 5) scChkss.nd rfl (.inl rfl)) pgs_nil)))))
      (pss_cons (ps_expr (pe_call T.gCt hr (by rfl) T.mCt T.kCt T.bCt .nil (by exact L2N.passes_call (L2N.takes_of rfl rfl rfl rfl) (fun _ _ _ _ h => h)) (pa_cons (pv 0) (pa_cons (pv 2) (pa_cons (pv 4) pa_nil)))))
    (pss_one (ps_expr (pe_call T.gCt hr (by rfl) T.mCt T.kCt T.bCt .nil (by exact L2N.passes_call (L2N.takes_of rfl rfl rfl rfl) (fun _ _ _ _ h => h)) (pa_cons (pv 0) (pa_cons (pv 3) (pa_cons (pv 4) pa_nil))))))))), ?_⟩
  refine ⟨.ref a, rfl, a, rfl, ⟨_, hX⟩, for_list (xs := xs) (fun i σ H2 => H2 = H ∧ (∃ y2 y3 y4 y5, σ = [some (.int e), some (.ref a), y2, y3, y4, y5]) ∧ ∀ s ∈ ss.take i, St_ s.lo s.n e ∧ St_ s.hi s.n e) ⟨rfl, ⟨_, _, _, _, rfl⟩, fun s hs => nomatch hs⟩ (fun i σ H2 _ h => by rw [h.1]; exact hX) ?_ ?_⟩
  · rintro i y σ H2 hi ⟨rfl, ⟨y2, y3, y4, y5, rfl⟩, hg⟩
    obtain ⟨u, hu, t, rfl, ht⟩ := sl.get hi
    refine ⟨t, _, rfl, .inl (.inl ht), rfl, _, _, rfl, _, _, rfl, _, _, rfl, _, _, rfl, rfl, ?_⟩
    refine ⟨.int e, rfl, .int u.lo, rfl, .int u.n, rfl, e, u.lo, u.n, rfl, fun g1 => ?_, fun g1 => qe fun z => g1 (z u (List.mem_of_getElem? hu)).1⟩
    refine ⟨.int e, rfl, .int u.hi, rfl, .int u.n, rfl, e, u.hi, u.n, rfl, fun g2 => ?_, fun g2 => qe fun z => g2 (z u (List.mem_of_getElem? hu)).2⟩
    refine ⟨rfl, ⟨_, _, _, _, rfl⟩, fun s hs => ?_⟩
    rw [List.take_add_one, hu] at hs
    rcases List.mem_append.mp hs with hs | hs
    · exact hg s hs
    · rw [List.mem_singleton.mp hs]; exact ⟨g1, g2⟩
  · rintro σ H2 ⟨rfl, _, hg⟩
    rw [sl.len, List.take_length] at hg
    exact q hg
theorem ok_plo {f : Addr} {fd : FuncData} {k : Nat} (F : Fun K "place_of" "place_of" sPlace_of f fd) (T : TPl K mg BL NN FU) : FnOk Pg w K mg base (L2N.CX Pg w) (k + 1) f fd ["rows", "number"] (spPlo K NN) := by
  refine okN F scPlo (fun vs H Q E h => ?_) (fun cdv A outer s H vs Q E hr h => ?_)
  · obtain ⟨a, xs, ns, n, rfl, _⟩ := h; rfl
  obtain ⟨a, xs, ns, n, rfl, hX, ll, hl, q, qe⟩ := h
  refine ⟨_, (pss_cons (ps_for (passes_of rfl) rfl (pi_enum (by rfl) T.menumerate (pa_cons (pv 0) pa_nil)) (pg_tup rfl (pgs_cons (pg_name (i := 2) scPlo.nd rfl (.inl rfl)) (pgs_cons (pg_name (i := 3) scPlo.nd rfl (.inl rfl)) pgs_nil)))
      (pss_one (ps_if (pt_cmpR op_eq (pe_ix ix_tup (pv 3) pe_int (fun _ _ => rfl)) (pv 1) (nomark _)) (pss_one (ps_ret (pv 2))) pss_nil)))
    (pss_one (L2N.ps_raise rfl (L2N.takes_of rfl rfl rfl rfl) (L2N.pmk_own PySem.F.excBase_ValueError T.xNN.x T.xNN.g T.xNN.k (raises_own T.xNN.b T.xNN.t) rfl)))), ?_⟩
  have xl := ll.len
  refine ⟨.ref a, rfl, a, xs, rfl, hX, for_it (walk_enum (K := K) (a := a) (xs := xs)) (fun j σ' H' => ∃ y2 y3, σ' = [some (.ref a), some (.int n), y2, y3] ∧ Same H H' ∧ ∀ i < j, ns[i]? ≠ some n) ⟨none, none, rfl, Same.refl _, fun i hi => absurd hi (Nat.not_lt_zero _)⟩ (fun j σ' H' _ hP => ?_) (fun i v σ' H1 H1' hi hP hy => ?_) (fun σ' H' hP => ?_)⟩
  · obtain ⟨_, _, _, sm, _⟩ := hP
    exact sm.seq hX
  · obtain ⟨y2, y3, rfl, s1, qt⟩ := hP
    obtain ⟨tj, v1, v2, rfl, ntj, rfl, g1, g2⟩ := hy
    have g1 : some (V.int (i : Int)) = some v1 := g1
    cases g1
    have g2 : xs[i]? = some v2 := g2
    obtain ⟨m, hm, t, r, rfl, ht⟩ := ll.get g2
    have sj := same_upd (o := .tup [.int (i : Int), .ref t]) ntj
    refine ⟨tj, _, rfl, .inl (.inl upd_same), rfl, _, _, rfl, _, _, rfl, rfl, ?_⟩
    have s2 := s1.trans sj
    generalize upd H1 tj (.tup [.int (i : Int), .ref t]) = H2 at s2 ⊢
    refine ⟨.ref t, rfl, t, _, _, .int m, rfl, rfl, .inl (.inl (s2 _ _ ht)), atI_0 _ _, .int n, rfl, rfl, _, rfl, ite2 (fun c => ?_) (fun c => ?_)⟩
    · have c : m = n := V.int.inj (of_decide_eq_true c)
      subst c
      exact ⟨.int (i : Int), rfl, q i H2 s2 ⟨hm, qt⟩⟩
    · refine ⟨_, _, rfl, s2, fun k hk => ?_⟩
      by_cases e : k = i
      · subst e
        rw [hm]
        exact fun z => c (decide_eq_true (by rw [Option.some.inj z]))
      · exact qt k (by omega)
  · obtain ⟨y2, y3, rfl, s1, qt⟩ := hP
    refine qe (fun z => ?_) H' s1
    obtain ⟨i, hi⟩ := List.mem_iff_getElem?.mp z
    have := (List.getElem?_eq_some_iff.mp hi).1
    exact qt i (by omega) hi
theorem ok_wout {f fPo : Addr} {fd fdPo : FuncData} {k : Nat} (F : Fun K "without" "without" sWithout f fd) (T : TPo Pg w K mg base NN k fPo fdPo) : FnOk Pg w K mg base (L2N.CX Pg w) (k + 1) f fd ["rows", "number"] (spWout K NN) := by
  refine okN F scWout (fun vs H Q E h => ?_) (fun cdv A outer s H vs Q E hr h => ?_)
  · obtain ⟨a, xs, ns, n, rfl, _⟩ := h; rfl
  obtain ⟨a, xs, ns, n, rfl, hX, ll, hl, q, qe⟩ := h
  refine ⟨_, (pss_cons (ps_set (i := 2) scWout.nd rfl (.inl rfl) (pe_call T.gPo hr (by rfl) T.mPo T.kPo T.bPo .nil (by exact L2N.passes_call (L2N.takes_of rfl rfl rfl rfl) (fun _ _ _ _ h => h)) (pa_cons (pv 0) (pa_cons (pv 1) pa_nil))))
    (pss_one (ps_ret (pe_op op_cat (pe_slice sl_list (pv 0) po_none (po_some (pv 2))) (pe_slice sl_list (pv 0) (po_some (pe_op op_add (pv 2) pe_int)) po_none))))), ?_⟩
  have xl := ll.len
  refine ⟨.ref a, rfl, .int n, rfl, a, xs, ns, n, rfl, .inl (.inl hX), ll, hl, fun k H1 s1 hk => ?_, qe⟩
  refine ⟨.ref a, rfl, .int (k : Int), rfl, _, rfl, a, xs, rfl, .inl (.inl (s1 _ _ hX)), ?_⟩
  intro l1 n_l1
  generalize e_l1 : upd H1 l1 _ = H2
  have s2 := new_same e_l1 n_l1
  have z2 := new_at e_l1
  clear e_l1
  refine ⟨.ref a, rfl, .int (k : Int), rfl, _, _, rfl, rfl, _, rfl, a, xs, rfl, .inl (.inl (s2 _ _ (s1 _ _ hX))), ?_⟩
  intro l2 n_l2
  generalize e_l2 : upd H2 l2 _ = H3
  have s3 := new_same e_l2 n_l2
  have z3 := new_at e_l2
  clear e_l2
  have ec : cutV xs (some ((k : Int) + 1)) none = xs.drop (k + 1) := cutFrom xs (k + 1)
  rw [cutTo] at z2
  rw [ec] at z3
  refine ⟨l1, l2, _, _, rfl, rfl, s3 _ _ z2, z3, ?_, ?_⟩
  · rw [List.length_take, List.length_drop]
    exact Nat.le_trans (show _ ≤ 1000 by omega) (by decide)
  intro l3 n_l3
  generalize e_l3 : upd H3 l3 _ = H4
  have s4 := new_same e_l3 n_l3
  have z4 := new_at e_l3
  clear e_l3
  rw [← List.eraseIdx_eq_take_drop_succ] at z4
  have s14 := s1.trans (s2.trans (s3.trans s4))
  exact q k H4 l3 s14 hk (Same.free (s1.trans (s2.trans s3)) n_l3) z4
theorem ok_unn {f : Addr} {fd : FuncData} {k : Nat} (F : Fun K "unnumbered" "unnumbered" sUnnumbered f fd) : FnOk Pg w K mg base CX0 (k + 1) f fd ["rows"] (spUnn K) := by
  refine F.ok scUnn (fun vs H Q E h => ?_) (fun cdv A outer s H vs Q E hr h => ?_)
  · obtain ⟨a, xs, rs, rfl, _⟩ := h; rfl
  obtain ⟨a, xs, rs, rfl, hX, rl, hl, q⟩ := h
  refine ⟨_, (pss_one (ps_ret (pe_lc (own := [("number", 1), ("one", 2), ("other", 3), ("many", 4), ("turned", 5)]) (g := (gTup K 5 (gCons (gName 1) (gCons (gName 2) (gCons (gName 3) (gCons (gName 4) (gCons (gName 5) gNil))))))) (tt := tYes) rfl scUnn.nd (pi_list (pv 0)) (blkOk_by (N := nUnn) (sc := defScope sUnnumbered) (by decide +kernel)) (fun _ _ _ _ _ => (pg_tup rfl (pgs_cons (pg_name (i := 1) scUnn.nd rfl (.inl rfl)) (pgs_cons (pg_name (i := 2) scUnn.nd rfl (.inl rfl)) (pgs_cons (pg_name (i := 3) scUnn.nd rfl (.inl rfl)) (pgs_cons (pg_name (i := 4) scUnn.nd rfl (.inl rfl)) (pgs_cons (pg_name (i := 5) scUnn.nd rfl (.inl rfl)) pgs_nil))))))) (fun _ _ _ _ _ => pts_nil) (fun _ _ _ _ _ => (pe_tup (pa_cons (pv 2) (pa_cons (pv 3) (pa_cons (pv 4) (pa_cons (pv 5) pa_nil))))))))), ?_⟩
  refine ⟨.ref a, rfl, a, rfl, ⟨_, .inl (.inl hX)⟩, fun D nD => ?_⟩
  refine lc_list (xs := xs) (fun i H3 => Same H H3 ∧ ∃ ys, H3 D = some (.lst ys) ∧ SL H3 ys ((rs.map Rw.sy).take i) ∧ ys.length = i) ⟨same_upd nD, [], upd_same, LL.nil, rfl⟩ (fun i H3 _ hP => .inl (.inl (hP.1 _ _ hX))) (fun i v H3 hv hP => ?_) (fun H3 hP => ?_)
  · obtain ⟨sm, ys, eD, sl, yl⟩ := hP
    obtain ⟨r, hr_, t, rfl, ht⟩ := rl.get hv
    have hi : i < rs.length := (List.getElem?_eq_some_iff.mp hr_).1
    refine ⟨t, _, rfl, .inl (.inl (sm _ _ ht)), rfl, _, _, rfl, _, _, rfl, _, _, rfl, _, _, rfl, _, _, rfl, rfl, rfl, ?_⟩
    refine tYes_ok ?_
    refine iteT ?_
    refine ⟨.int r.sy.lo, rfl, .int r.sy.hi, rfl, .int r.sy.n, rfl, .bl r.sy.t, rfl, ?_⟩
    refine ⟨szN 4 rfl, fun t2 n_t2 => ?_⟩
    generalize e_t2 : upd H3 t2 _ = H4
    have s4 := new_same e_t2 n_t2
    have z4 := new_at e_t2
    clear e_t2
    have eD4 := s4 _ _ eD
    refine ⟨ys, eD4, small1000 (by omega), same_over (sm.trans s4) nD, _, upd_same, ?_, by rw [List.length_append, List.length_singleton, yl]⟩
    rw [List.take_add_one, List.getElem?_map, hr_]
    exact LL.snoc (SL.ts (fun t' xs' e => by rw [upd_ne (fun z => by rw [z, eD4] at e; cases e)]; exact e) (SL.ts (TS.of s4) sl)) (IsSy.of (by rw [upd_ne (fun z => by rw [z, eD4] at z4; cases z4)]; exact z4))
  · obtain ⟨sm, ys, eD, sl, yl⟩ := hP
    rw [rl.len, List.take_of_length_le (by rw [List.length_map]; exact Nat.le_refl _)] at sl
    exact q H3 D ys sm nD eD sl
theorem ok_room {f : Addr} {fd : FuncData} {k : Nat} (F : Fun K "check_room" "check_room" sCheck_room f fd) (T : TPl K mg BL NN FU) : FnOk Pg w K mg base (L2N.CX Pg w) (k + 1) f fd ["rows"] (spRoom K FU) := by
  refine okN F scRoom (fun vs H Q E h => ?_) (fun cdv A outer s H vs Q E hr h => ?_)
  · obtain ⟨a, xs, rfl, _⟩ := h; rfl
  obtain ⟨a, xs, rfl, hX, q, qe⟩ := h
  refine ⟨_, (pss_one (ps_if (pt_cmpR op_ge (pe_callB call_len_seq (by rfl) T.ml PySem.boot_len (pa_cons (pv 0) pa_nil)) (C8.pe_gc (by rfl) T.mMOST) (nomark _)) (pss_one (L2N.ps_raise rfl (L2N.takes_of rfl rfl rfl rfl) (L2N.pmk_own PySem.F.excBase_ValueError T.xFU.x T.xFU.g T.xFU.k (raises_own T.xFU.b T.xFU.t) rfl))) pss_nil)), ?_⟩
  refine ⟨.ref a, rfl, a, xs, rfl, .inl (.inl (.inl hX)), _, _, rfl, rfl, _, rfl, ite2 (fun c => ?_) (fun c => ?_)⟩
  · have c := of_decide_eq_true c
    exact qe fun z => by omega
  · have c : ¬ ((xs.length : Int) ≥ 24) := fun z => c (decide_eq_true z)
    exact q (by omega)
theorem ok_chg {f : Addr} {fd : FuncData} {k : Nat} (F : Fun K "check_change" "check_change" sCheck_change f fd) (T : TPl K mg BL NN FU) : FnOk Pg w K mg base (L2N.CX Pg w) (k + 1) f fd ["many"] (spChg BL) := by
  refine okN F scChg (fun vs H Q E h => ?_) (fun cdv A outer s H vs Q E hr h => ?_)
  · obtain ⟨m, rfl, _⟩ := h; rfl
  obtain ⟨m, rfl, q, qe⟩ := h
  refine ⟨_, (pss_one (ps_if (pt_cmpR op_lt (pv 0) pe_int (nomark _)) (pss_one (L2N.ps_raise rfl (L2N.takes_of rfl rfl rfl rfl) (L2N.pmk_own PySem.F.excBase_ValueError T.xBL.x T.xBL.g T.xBL.k (raises_own T.xBL.b T.xBL.t) rfl))) pss_nil)), ?_⟩
  refine ⟨.int m, rfl, _, 1, rfl, rfl, _, rfl, ite2 (fun c => ?_) (fun c => ?_)⟩
  · have c := of_decide_eq_true c
    exact qe fun z => by omega
  · have c : ¬ m < 1 := fun z => c (decide_eq_true z)
    exact q (by omega)
end
end Rep
namespace Rep
open PySem L2 L2H RepHot
/-! sheets -/
structure Sht where
  size : Int
  coming : Int
  said : List Rw
  noted : List Me
def fldS (e c : Int) (sa na : Addr) : List (Str × V) := putF "noted" (.ref na) (putF "said" (.ref sa) (putF "upcoming" (.int c) (putF "size" (.int e) [])))
theorem ks1 : ¬ (("size" : Str) = "noted") ∧ ¬ (("size" : Str) = "said") ∧ ¬ (("size" : Str) = "upcoming") ∧ ¬ (("upcoming" : Str) = "noted") ∧ ¬ (("upcoming" : Str) = "said") ∧ ¬ (("said" : Str) = "noted") := by decide +kernel
theorem fldS_size (e c : Int) (sa na : Addr) : (fldS e c sa na).lookup ("size" : Str) = some (.int e) := by unfold fldS; rw [lookup_putF, if_neg ks1.1, lookup_putF, if_neg ks1.2.1, lookup_putF, if_neg ks1.2.2.1, lookup_putF, if_pos rfl]
theorem fldS_up (e c : Int) (sa na : Addr) : (fldS e c sa na).lookup ("upcoming" : Str) = some (.int c) := by unfold fldS; rw [lookup_putF, if_neg ks1.2.2.2.1, lookup_putF, if_neg ks1.2.2.2.2.1, lookup_putF, if_pos rfl]
theorem fldS_said (e c : Int) (sa na : Addr) : (fldS e c sa na).lookup ("said" : Str) = some (.ref sa) := by unfold fldS; rw [lookup_putF, if_neg ks1.2.2.2.2.2, lookup_putF, if_pos rfl]
theorem fldS_noted (e c : Int) (sa na : Addr) : (fldS e c sa na).lookup ("noted" : Str) = some (.ref na) := by unfold fldS; rw [lookup_putF, if_pos rfl]
theorem fldS_no (e c : Int) (sa na : Addr) {m : Str} (h : (m == "noted" || m == "said" || m == "upcoming" || m == "size") = false) : (fldS e c sa na).lookup m = none := by
  simp only [Bool.or_eq_false_iff, beq_eq_false_iff_ne] at h
  obtain ⟨⟨⟨h1, h2⟩, h3⟩, h4⟩ := h
  unfold fldS
  rw [lookup_putF, if_neg h1, lookup_putF, if_neg h2, lookup_putF, if_neg h3, lookup_putF, if_neg h4]; rfl
/-- what a sheet rests on: sheets, lists that are none of N's, tuples -/
def Own (S : Addr) (N : Addr → Prop) (b : Addr) : HO → Prop
  | .ins C _ _ => C = S
  | .lst _ => ¬ N b
  | .tup _ => True
  | _ => False
def Kp (S : Addr) (N : Addr → Prop) (H H' : Hp) : Prop := ∀ b o, H b = some o → Own S N b o → H' b = some o
theorem Kp.of {S : Addr} {N : Addr → Prop} {H H' : Hp} (s : Same H H') : Kp S N H H' := fun b o e _ => s b o e
theorem Kp.sam {S BK : Addr} {N : Addr → Prop} {H H' : Hp} {b dx : Addr} {fs : List (Str × V)} (s : Sam b H H') (hb : H b = some (.ins BK dx fs)) (hn : BK ≠ S) : Kp S N H H' := fun c o e w => s c o e fun z => by
  subst z
  rw [hb] at e
  cases e
  exact hn w
theorem Kp.ts {S : Addr} {N : Addr → Prop} {H H' : Hp} (k : Kp S N H H') : TS H H' := fun t xs e => k t _ e trivial
structure ShAt (S : Addr) (N : Addr → Prop) (H : Hp) (v : V) (s : Sht) : Prop where
  ex : ∃ (p dx sa na : Addr) (xs ys : List V), v = .ref p ∧ H p = some (.ins S dx (fldS s.size s.coming sa na)) ∧ H sa = some (.lst xs) ∧ RL H xs s.said ∧ H na = some (.lst ys) ∧ ML H ys s.noted ∧ ¬ N sa ∧ ¬ N na
theorem ShAt.kp {S : Addr} {N : Addr → Prop} {H H' : Hp} {v : V} {s : Sht} (h : ShAt S N H v s) (k : Kp S N H H') : ShAt S N H' v s := by
  obtain ⟨p, dx, sa, na, xs, ys, h1, h2, h3, h4, h5, h6, h7, h8⟩ := h.ex
  exact ⟨p, dx, sa, na, xs, ys, h1, k _ _ h2 rfl, k _ _ h3 h7, RL.ts k.ts h4, k _ _ h5 h8, ML.ts k.ts h6, h7, h8⟩
theorem ShAt.same {S : Addr} {N : Addr → Prop} {H H' : Hp} {v : V} {s : Sht} (h : ShAt S N H v s) (k : Same H H') : ShAt S N H' v s := h.kp (.of k)
theorem ShAt.more {S : Addr} {N M : Addr → Prop} {H : Hp} {v : V} {s : Sht} (h : ShAt S N H v s) (k : ∀ a xs, M a → H a = some (.lst xs) → N a) : ShAt S M H v s := by
  obtain ⟨p, dx, sa, na, xs, ys, h1, h2, h3, h4, h5, h6, h7, h8⟩ := h.ex
  exact ⟨p, dx, sa, na, xs, ys, h1, h2, h3, h4, h5, h6, fun z => h7 (k _ _ z h3), fun z => h8 (k _ _ z h5)⟩
def NA (N : Addr → Prop) (H : Hp) : Prop := ∀ a, N a → ∃ o, H a = some o
theorem NA.same {N : Addr → Prop} {H H' : Hp} (h : NA N H) (s : Same H H') : NA N H' := fun a z => by obtain ⟨o, e⟩ := h a z; exact ⟨o, s _ _ e⟩
theorem NA.not {N : Addr → Prop} {H : Hp} (h : NA N H) {l : Addr} (n : H l = none) : ¬ N l := fun z => by obtain ⟨o, e⟩ := h l z; rw [n] at e; cases e
structure Lens (s : Sht) : Prop where
  sd : s.said.length ≤ 100
  nt : s.noted.length ≤ 100
def Gd2 (e : Int) (y : Sy) : Prop := St_ y.lo y.n e ∧ St_ y.hi y.n e
/-- where the last one ends -/
def endsF (s : Sht) : List Int := (s.said.map fun r => (if r.sy.lo < r.sy.hi then r.sy.hi else r.sy.lo) + r.sy.n) ++ s.noted.map fun m => m.at_ + m.n
def spSinit (S : Addr) : Sp := fun vs H Q _ => ∃ (p dx sa na : Addr) (e c : Int), vs = [.ref p, .int e, .int c, .ref sa, .ref na] ∧ H p = some (.ins S dx []) ∧ ∀ H', Sam p H H' → H' p = some (.ins S dx (fldS e c sa na)) → Q .non H'
abbrev nSinit : List Str := ["self", "size", "upcoming", "said", "noted"]
theorem scSinit : FnScope nSinit nSinit (defScope sSheetInit) := ⟨rfl, rfl, rfl, by decide +kernel, rfl, by decide +kernel, by decide +kernel⟩
structure TxS (K : PySem.W.Frag) (S : Addr) : Prop where
  clS : Cls K S
  nz : NoAttr K S "size"
  nu : NoAttr K S "upcoming"
  ns : NoAttr K S "said"
  nn : NoAttr K S "noted"
section
variable {Pg : Program} {w : World} {K : PySem.W.Frag} {mg : Str → Option Value} {base : Heap} {S : Addr}
theorem ok_sinit {f : Addr} {fd : FuncData} {k : Nat} (F : Fun K "__init__" "Sheet.__init__" sSheetInit f fd) (X : TxS K S) : FnOk Pg w K mg base CX0 (k + 1) f fd nSinit (spSinit S) := by
  refine F.ok scSinit (fun vs H Q E h => ?_) (fun cdv A outer s H vs Q E hr h => ?_)
  · obtain ⟨p, dx, sa, na, e, c, rfl, _⟩ := h; rfl
  obtain ⟨p, dx, sa, na, e, c, rfl, hp, q⟩ := h
  refine ⟨_, (pss_cons (ps_fld (pv 0) (pv 1) rfl)
    (pss_cons (ps_fld (pv 0) (pv 2) rfl)
    (pss_cons (ps_fld (pv 0) (pv 3) rfl)
    (pss_one (ps_fld (pv 0) (pv 4) rfl))))), ?_⟩
  refine ⟨.int e, rfl, .ref p, rfl, p, S, dx, _, rfl, hp, X.clS, X.nz, (by show 0 < 1000; decide), ?_⟩
  refine ⟨.int c, rfl, .ref p, rfl, p, S, dx, _, rfl, upd_same, X.clS, X.nu, (by have := length_putF "size" (V.int e) []; exact Nat.lt_of_le_of_lt this (by decide)), ?_⟩
  refine ⟨.ref sa, rfl, .ref p, rfl, p, S, dx, _, rfl, upd_same, X.clS, X.ns, ?_, ?_⟩
  · have h1 := length_putF "upcoming" (V.int c) (putF "size" (V.int e) [])
    have h2 := length_putF "size" (V.int e) []
    have h3 : ([] : List (Str × V)).length = 0 := rfl
    omega
  refine ⟨.ref na, rfl, .ref p, rfl, p, S, dx, _, rfl, upd_same, X.clS, X.nn, ?_, ?_⟩
  · have h0 := length_putF "said" (V.ref sa) (putF "upcoming" (V.int c) (putF "size" (V.int e) []))
    have h1 := length_putF "upcoming" (V.int c) (putF "size" (V.int e) [])
    have h2 := length_putF "size" (V.int e) []
    have h3 : ([] : List (Str × V)).length = 0 := rfl
    omega
  have s0 : Sam p H H := fun b o e _ => e
  exact q _ (s0.upd.upd.upd.upd) upd_same
end
theorem make_sh {S p dx sa na : Addr} {N : Addr → Prop} {H : Hp} {xs ys : List V} {e c : Int} {rs : List Rw} {ms : List Me} {Q : Hp → Prop} {E : XK} (es : H sa = some (.lst xs)) (rl : RL H xs rs) (en : H na = some (.lst ys)) (ml : ML H ys ms) (n1 : ¬ N sa) (n2 : ¬ N na)
    (np : H p = none) (ndx : H dx = none) (ne : dx ≠ p) (q : ∀ H', Same H H' → ShAt S N H' (.ref p) ⟨e, c, rs, ms⟩ → Q H') :
    spSinit S [.ref p, .int e, .int c, .ref sa, .ref na] (upd (upd H dx (.own p)) p (.ins S dx [])) (fun v H' => v = .non ∧ Q H') E := by
  have np' : upd H dx (.own p) p = none := by rw [upd_ne ne.symm]; exact np
  have s5 : Same H (upd (upd H dx (.own p)) p (.ins S dx [])) := (same_upd ndx).trans (same_upd np')
  refine ⟨p, dx, sa, na, e, c, rfl, upd_same, fun H6 s6 h6 => ⟨rfl, q H6 ?_ ?_⟩⟩
  · exact fun b o hb => s6 b o (s5 _ _ hb) (fun z => by rw [z, np] at hb; cases hb)
  · have sm : Same H H6 := fun b o hb => s6 b o (s5 _ _ hb) (fun z => by rw [z, np] at hb; cases hb)
    exact ⟨p, dx, sa, na, xs, ys, rfl, h6, sm _ _ es, RL.ts (TS.of sm) rl, sm _ _ en, ML.ts (TS.of sm) ml, n1, n2⟩
/-! the sheet's methods -/
structure TMax (mg : Str → Option Value) : Prop where
  mM : mg "max" = none
theorem foldl_le {b : Int} : ∀ {l : List Int} {n : Int}, n ≤ b → (∀ z ∈ l, z ≤ b) → l.foldl max n ≤ b
  | [], _, h, _ => h
  | a :: r, n, h, k => foldl_le (l := r) (by have := k a List.mem_cons_self; omega) fun z hz => k z (List.mem_cons_of_mem _ hz)
theorem le_foldl : ∀ {l : List Int} {n z : Int}, z ≤ n ∨ z ∈ l → z ≤ l.foldl max n
  | [], _, _, h => h.elim id fun h => nomatch h
  | a :: r, n, z, h => by
    show z ≤ r.foldl max (max n a)
    refine le_foldl ?_
    rcases h with h | h
    · exact .inl (by omega)
    · rcases List.mem_cons.mp h with rfl | h
      · exact .inl (by omega)
      · exact .inr h
theorem maxI_le {l : List Int} {d b : Int} (h0 : d ≤ b) (h : ∀ z ∈ l, z ≤ b) : maxI l d ≤ b := by
  cases l with
  | nil => exact h0
  | cons a r => exact foldl_le (h a List.mem_cons_self) fun z hz => h z (List.mem_cons_of_mem _ hz)
theorem le_maxI {l : List Int} {d z : Int} (h : z ∈ l) : z ≤ maxI l d := by
  cases l with
  | nil => cases h
  | cons a r =>
    rcases List.mem_cons.mp h with rfl | h
    · exact le_foldl (.inl (Int.le_refl _))
    · exact le_foldl (.inr h)
def OkS (S : Addr) (N : Addr → Prop) (H : Hp) (s' : Sht) (Q : VK) : Prop := ∀ H' p', Same H H' → ShAt S N H' (.ref p') s' → Q (.ref p') H'
def NoS (H : Hp) (c : Addr) (E : XK) : Prop := ∀ H', Same H H' → E (.ref c) none H'
def spShws (S BS FU : Addr) : Sp := fun vs H Q E => ∃ (p t : Addr) (N : Addr → Prop) (s : Sht) (r : Rw), vs = [.ref p, .ref t] ∧ ShAt S N H (.ref p) s ∧ RwAt H (.ref t) r ∧ NA N H ∧ Lens s ∧
  (Gd2 s.size r.sy → s.said.length < 24 → OkS S N H { s with said := s.said ++ [r] } Q) ∧ (Gd2 s.size r.sy → ¬ s.said.length < 24 → NoS H FU E) ∧ (¬ Gd2 s.size r.sy → NoS H BS E)
def spShwm (S BT BS FU : Addr) : Sp := fun vs H Q E => ∃ (p t : Addr) (N : Addr → Prop) (s : Sht) (m : Me), vs = [.ref p, .ref t] ∧ ShAt S N H (.ref p) s ∧ MeAt H (.ref t) m ∧ m.lt.length ≤ 1000000 ∧ NA N H ∧ Lens s ∧
  (Ltr m.lt → St_ m.at_ m.n s.size → s.noted.length < 24 → OkS S N H { s with noted := s.noted ++ [m] } Q) ∧ (Ltr m.lt → St_ m.at_ m.n s.size → ¬ s.noted.length < 24 → NoS H FU E) ∧ (Ltr m.lt → ¬ St_ m.at_ m.n s.size → NoS H BS E) ∧ (¬ Ltr m.lt → NoS H BT E)
def spShco (S : Addr) : Sp := fun vs H Q _ => ∃ (p : Addr) (N : Addr → Prop) (s : Sht), vs = [.ref p] ∧ ShAt S N H (.ref p) s ∧ NA N H ∧ OkS S N H { s with coming := s.coming + 1 } Q
def spShos (S NN : Addr) : Sp := fun vs H Q E => ∃ (p : Addr) (n : Int) (N : Addr → Prop) (s : Sht), vs = [.ref p, .int n] ∧ ShAt S N H (.ref p) s ∧ NA N H ∧ Lens s ∧ (∀ k, Fst (s.said.map Rw.num) n k → OkS S N H { s with said := s.said.eraseIdx k } Q) ∧ (n ∉ s.said.map Rw.num → NoS H NN E)
def spShom (S NN : Addr) : Sp := fun vs H Q E => ∃ (p : Addr) (n : Int) (N : Addr → Prop) (s : Sht), vs = [.ref p, .int n] ∧ ShAt S N H (.ref p) s ∧ NA N H ∧ Lens s ∧ (∀ k, Fst (s.noted.map Me.num) n k → OkS S N H { s with noted := s.noted.eraseIdx k } Q) ∧ (n ∉ s.noted.map Me.num → NoS H NN E)
def spSham (S NN BS : Addr) : Sp := fun vs H Q E => ∃ (p t : Addr) (N : Addr → Prop) (s : Sht) (r : Rw), vs = [.ref p, .ref t] ∧ ShAt S N H (.ref p) s ∧ RwAt H (.ref t) r ∧ NA N H ∧ Lens s ∧
  (∀ k, Fst (s.said.map Rw.num) r.num k → Gd2 s.size r.sy → OkS S N H { s with said := s.said.set k r } Q) ∧ (∀ k, Fst (s.said.map Rw.num) r.num k → ¬ Gd2 s.size r.sy → NoS H BS E) ∧ (r.num ∉ s.said.map Rw.num → NoS H NN E)
def spShre (S BL : Addr) : Sp := fun vs H Q E => ∃ (p : Addr) (e : Int) (N : Addr → Prop) (s : Sht), vs = [.ref p, .int e] ∧ ShAt S N H (.ref p) s ∧ (In40 e → OkS S N H { s with size := e } Q) ∧ (¬ In40 e → NoS H BL E)
def spShle (S BL : Addr) : Sp := fun vs H Q E => ∃ (p : Addr) (m : Int) (N : Addr → Prop) (s : Sht), vs = [.ref p, .int m] ∧ ShAt S N H (.ref p) s ∧ (1 ≤ m ∧ In40 (s.size + m) → OkS S N H { s with size := s.size + m } Q) ∧ (¬ (1 ≤ m ∧ In40 (s.size + m)) → NoS H BL E)
def spShsh (S BL IU : Addr) : Sp := fun vs H Q E => ∃ (p : Addr) (m : Int) (N : Addr → Prop) (s : Sht), vs = [.ref p, .int m] ∧ ShAt S N H (.ref p) s ∧ Lens s ∧ (1 ≤ m ∧ In40 (s.size - m) → (∀ z ∈ endsF s, z ≤ s.size - m) → OkS S N H { s with size := s.size - m } Q) ∧ (1 ≤ m ∧ In40 (s.size - m) → ¬ (∀ z ∈ endsF s, z ≤ s.size - m) → NoS H IU E) ∧ (¬ (1 ≤ m ∧ In40 (s.size - m)) → NoS H BL E)
def spShus (S : Addr) : Sp := fun vs H Q _ => ∃ (p : Addr) (N : Addr → Prop) (s : Sht), vs = [.ref p] ∧ ShAt S N H (.ref p) s ∧ Lens s ∧ ∀ H', Same H H' → Q (.int (maxI (endsF s) 0)) H'
theorem scShws : FnScope ["self", "row"] ["self", "row"] (defScope sSheetWith_saying) := ⟨rfl, rfl, rfl, by decide +kernel, rfl, by decide +kernel, by decide +kernel⟩
theorem scShwm : FnScope ["self", "row", "number", "letter", "at", "many"] ["self", "row"] (defScope sSheetWith_memory) := ⟨rfl, rfl, rfl, by decide +kernel, rfl, by decide +kernel, by decide +kernel⟩
theorem scShco : FnScope ["self"] ["self"] (defScope sSheetCounted_on) := ⟨rfl, rfl, rfl, by decide +kernel, rfl, by decide +kernel, by decide +kernel⟩
theorem scShos : FnScope ["self", "number"] ["self", "number"] (defScope sSheetWithout_saying) := ⟨rfl, rfl, rfl, by decide +kernel, rfl, by decide +kernel, by decide +kernel⟩
theorem scShom : FnScope ["self", "number"] ["self", "number"] (defScope sSheetWithout_memory) := ⟨rfl, rfl, rfl, by decide +kernel, rfl, by decide +kernel, by decide +kernel⟩
theorem scSham : FnScope ["self", "row", "k"] ["self", "row"] (defScope sSheetAmended) := ⟨rfl, rfl, rfl, by decide +kernel, rfl, by decide +kernel, by decide +kernel⟩
theorem scShre : FnScope ["self", "size"] ["self", "size"] (defScope sSheetResized) := ⟨rfl, rfl, rfl, by decide +kernel, rfl, by decide +kernel, by decide +kernel⟩
theorem scShle : FnScope ["self", "many"] ["self", "many"] (defScope sSheetLengthened) := ⟨rfl, rfl, rfl, by decide +kernel, rfl, by decide +kernel, by decide +kernel⟩
theorem scShsh : FnScope ["self", "many", "sheet"] ["self", "many"] (defScope sSheetShortened) := ⟨rfl, rfl, rfl, by decide +kernel, rfl, by decide +kernel, by decide +kernel⟩
abbrev nShus : List Str := ["self", "ends", "number", "one", "other", "many", "turned", "letter", "at"]
theorem scShus : FnScope nShus ["self"] (defScope sSheetUsed) := ⟨rfl, rfl, rfl, by decide +kernel, rfl, by decide +kernel, by decide +kernel⟩
structure TSh (Pg : Program) (w : World) (K : PySem.W.Frag) (mg : Str → Option Value) (base : Heap) (S BL NN FU BS BT IU : Addr) (fSh fCl fCs fCm fPo fWo fUn fCr fCg f7 f0 : Addr) (fdSh fdCl fdCs fdCm fdPo fdWo fdUn fdCr fdCg fd7 fd0 : FuncData) : Prop extends TxS K S where
  MSh : Mk K S fSh
  gSh : FnOk Pg w K mg base CX0 7 fSh fdSh nSinit (spSinit S)
  bSh : Binds K fdSh nSinit []
  mSh : mg "Sheet" = some (.ref S)
  gCl : FnOk Pg w K mg base (L2N.CX Pg w) 8 fCl fdCl ["length"] (spChklX BL)
  bCl : Binds K fdCl ["length"] []
  kCl : PySem.W.keepIn K (.ref fCl) = true
  mCl : mg "check_length" = some (.ref fCl)
  gCs : FnOk Pg w K mg base (L2N.CX Pg w) 8 fCs fdCs ["length", "sayings"] (spChkssX K BS)
  bCs : Binds K fdCs ["length", "sayings"] []
  kCs : PySem.W.keepIn K (.ref fCs) = true
  mCs : mg "check_sayings" = some (.ref fCs)
  gCm : FnOk Pg w K mg base (L2N.CX Pg w) 8 fCm fdCm ["length", "letter", "at", "many"] (spCmemX BT BS)
  bCm : Binds K fdCm ["length", "letter", "at", "many"] []
  kCm : PySem.W.keepIn K (.ref fCm) = true
  mCm : mg "check_memory" = some (.ref fCm)
  gPo : FnOk Pg w K mg base (L2N.CX Pg w) 8 fPo fdPo ["rows", "number"] (spPlo K NN)
  bPo : Binds K fdPo ["rows", "number"] []
  kPo : PySem.W.keepIn K (.ref fPo) = true
  mPo : mg "place_of" = some (.ref fPo)
  gWo : FnOk Pg w K mg base (L2N.CX Pg w) 8 fWo fdWo ["rows", "number"] (spWout K NN)
  bWo : Binds K fdWo ["rows", "number"] []
  kWo : PySem.W.keepIn K (.ref fWo) = true
  mWo : mg "without" = some (.ref fWo)
  gUn : FnOk Pg w K mg base CX0 8 fUn fdUn ["rows"] (spUnn K)
  bUn : Binds K fdUn ["rows"] []
  kUn : PySem.W.keepIn K (.ref fUn) = true
  mUn : mg "unnumbered" = some (.ref fUn)
  gCr : FnOk Pg w K mg base (L2N.CX Pg w) 8 fCr fdCr ["rows"] (spRoom K FU)
  bCr : Binds K fdCr ["rows"] []
  kCr : PySem.W.keepIn K (.ref fCr) = true
  mCr : mg "check_room" = some (.ref fCr)
  gCg : FnOk Pg w K mg base (L2N.CX Pg w) 8 fCg fdCg ["many"] (spChg BL)
  bCg : Binds K fdCg ["many"] []
  kCg : PySem.W.keepIn K (.ref fCg) = true
  mCg : mg "check_change" = some (.ref fCg)
  m7 : Meth K S "resized" f7
  b7 : Binds K fd7 ["self", "size"] []
  m0 : Meth K S "used" f0
  b0 : Binds K fd0 ["self"] []
  xIU : ExT K mg "InUse" IU
  mM : mg "max" = none
section
variable {Pg : Program} {w : World} {K : PySem.W.Frag} {mg : Str → Option Value} {base : Heap} {S BL NN FU BS BT IU : Addr} {fSh fCl fCs fCm fPo fWo fUn fCr fCg f7 f0 : Addr} {fdSh fdCl fdCs fdCm fdPo fdWo fdUn fdCr fdCg fd7 fd0 : FuncData}
theorem ok_shws {f : Addr} {fd : FuncData} (F : Fun K "with_saying" "Sheet.with_saying" sSheetWith_saying f fd) (T : TSh Pg w K mg base S BL NN FU BS BT IU fSh fCl fCs fCm fPo fWo fUn fCr fCg f7 f0 fdSh fdCl fdCs fdCm fdPo fdWo fdUn fdCr fdCg fd7 fd0) : FnOk Pg w K mg base (L2N.CX Pg w) 9 f fd ["self", "row"] (spShws S BS FU) := by
  refine okN F scShws (fun vs H Q E h => ?_) (fun cdv A outer s H vs Q E hr h => ?_)
  · obtain ⟨p, t, N, s_, r, rfl, _⟩ := h; rfl
  obtain ⟨p, t, N, s_, r, rfl, sh, ra, na_, ln, q, q1, q2⟩ := h
  have r8 : Room 8 _ := hr
  refine ⟨_, (pss_cons (ps_expr (pe_call T.gCs r8 (by rfl) T.mCs T.kCs T.bCs .nil (by exact L2N.passes_call (L2N.takes_of rfl rfl rfl rfl) (fun _ _ _ _ h => h)) (pa_cons (pe_fld (pv 0) rfl) (pa_cons (pe_call T.gUn r8 (by rfl) T.mUn T.kUn T.bUn .nil pass0 (pa_cons (pe_lst (pa_cons (pv 1) pa_nil)) pa_nil)) pa_nil))))
    (pss_cons (ps_expr (pe_call T.gCr r8 (by rfl) T.mCr T.kCr T.bCr .nil (by exact L2N.passes_call (L2N.takes_of rfl rfl rfl rfl) (fun _ _ _ _ h => h)) (pa_cons (pe_fld (pv 0) rfl) pa_nil)))
    (pss_one (ps_ret (pe_make T.MSh T.gSh r8 (by rfl) T.mSh T.bSh .nil pass0 (pa_cons (pe_fld (pv 0) rfl) (pa_cons (pe_fld (pv 0) rfl) (pa_cons (pe_op op_cat (pe_fld (pv 0) rfl) (pe_lst (pa_cons (pv 1) pa_nil))) (pa_cons (pe_fld (pv 0) rfl) pa_nil))))))))), ?_⟩
  obtain ⟨_, dx, sa, na, xs, ys, e0, h2, h3, h4, h5, h6, h7, h8⟩ := sh.ex
  cases e0
  have xl := h4.len
  have ls := ln.sd
  refine ⟨.ref p, rfl, p, S, dx, _, .int s_.size, rfl, h2, T.clS, T.nz, fldS_size _ _ _ _, .ref t, rfl, ?_⟩
  refine ⟨szN 1 rfl, fun l1 n_l1 => ?_⟩
  generalize e_l1 : upd H l1 _ = H1
  have s1 := new_same e_l1 n_l1
  have z1 := new_at e_l1
  clear e_l1
  refine ⟨l1, _, [r], rfl, z1, LL.one (ra.ts (TS.of s1)), by show 1 ≤ 1000; decide, fun H2 l2 zs s2 n2 z2 sl => ?_⟩
  have s12 := s1.trans s2
  refine ⟨s_.size, l2, zs, [r.sy], rfl, .inl (.inl z2), sl, fun hg => ?_, fun hg => q2 (fun z => hg fun y hy => by rw [List.mem_singleton.mp hy]; exact z) _ s12⟩
  have hg : Gd2 s_.size r.sy := hg r.sy (List.mem_singleton.mpr rfl)
  refine ⟨.ref p, rfl, p, S, dx, _, .ref sa, rfl, s12 _ _ h2, T.clS, T.ns, fldS_said _ _ _ _, sa, xs, rfl, s12 _ _ h3, fun hl => ?_, fun hl => q1 hg (by rw [← xl]; exact hl) _ s12⟩
  refine ⟨.ref p, rfl, p, S, dx, _, .int s_.size, rfl, s12 _ _ h2, T.clS, T.nz, fldS_size _ _ _ _, .ref p, rfl, p, S, dx, _, .int s_.coming, rfl, s12 _ _ h2, T.clS, T.nu, fldS_up _ _ _ _, .ref p, rfl, p, S, dx, _, .ref sa, rfl, s12 _ _ h2, T.clS, T.ns, fldS_said _ _ _ _, .ref t, rfl, ?_⟩
  refine ⟨szN 1 rfl, fun l3 n_l3 => ?_⟩
  generalize e_l3 : upd H2 l3 _ = H3
  have s3 := new_same e_l3 n_l3
  have z3 := new_at e_l3
  clear e_l3
  refine ⟨sa, l3, _, _, rfl, rfl, s3 _ _ (s12 _ _ h3), z3, Nat.le_trans (show xs.length + 1 ≤ 1000 by omega) (by decide), ?_⟩
  intro l4 n_l4
  generalize e_l4 : upd H3 l4 _ = H4
  have s4 := new_same e_l4 n_l4
  have z4 := new_at e_l4
  clear e_l4
  have s14 := s12.trans (s3.trans s4)
  refine ⟨.ref p, rfl, p, S, dx, _, .ref na, rfl, s14 _ _ h2, T.clS, T.nn, fldS_noted _ _ _ _, fun p' dx' np ndx ne => ?_⟩
  refine make_sh (N := N) z4 ((RL.ts (TS.of s14) h4).snoc (ra.ts (TS.of s14))) (s14 _ _ h5) (ML.ts (TS.of s14) h6) ((na_.same (s12.trans s3)).not n_l4) h8 np ndx ne (fun H5 s5 sh5 => ?_)
  exact q hg (by rw [← xl]; exact hl) H5 p' (s14.trans s5) sh5
theorem ok_shwm {f : Addr} {fd : FuncData} (F : Fun K "with_memory" "Sheet.with_memory" sSheetWith_memory f fd) (T : TSh Pg w K mg base S BL NN FU BS BT IU fSh fCl fCs fCm fPo fWo fUn fCr fCg f7 f0 fdSh fdCl fdCs fdCm fdPo fdWo fdUn fdCr fdCg fd7 fd0) : FnOk Pg w K mg base (L2N.CX Pg w) 9 f fd ["self", "row"] (spShwm S BT BS FU) := by
  refine okN F scShwm (fun vs H Q E h => ?_) (fun cdv A outer s H vs Q E hr h => ?_)
  · obtain ⟨p, t, N, s_, r, rfl, _⟩ := h; rfl
  obtain ⟨p, t, N, s_, m, rfl, sh, ra, hml, na_, ln, q, q1, q2, q3⟩ := h
  have r8 : Room 8 _ := hr
  refine ⟨_, (pss_cons (ps_asg (pv 1) (pg_tup rfl (pgs_cons (pg_name (i := 2) scShwm.nd rfl (.inl rfl)) (pgs_cons (pg_name (i := 3) scShwm.nd rfl (.inl rfl)) (pgs_cons (pg_name (i := 4) scShwm.nd rfl (.inl rfl)) (pgs_cons (pg_name (i := 5) scShwm.nd rfl (.inl rfl)) pgs_nil))))))
    (pss_cons (ps_expr (pe_call T.gCm r8 (by rfl) T.mCm T.kCm T.bCm .nil (by exact L2N.passes_call (L2N.takes_of rfl rfl rfl rfl) (fun _ _ _ _ h => h)) (pa_cons (pe_fld (pv 0) rfl) (pa_cons (pv 3) (pa_cons (pv 4) (pa_cons (pv 5) pa_nil))))))
    (pss_cons (ps_expr (pe_call T.gCr r8 (by rfl) T.mCr T.kCr T.bCr .nil (by exact L2N.passes_call (L2N.takes_of rfl rfl rfl rfl) (fun _ _ _ _ h => h)) (pa_cons (pe_fld (pv 0) rfl) pa_nil)))
    (pss_one (ps_ret (pe_make T.MSh T.gSh r8 (by rfl) T.mSh T.bSh .nil pass0 (pa_cons (pe_fld (pv 0) rfl) (pa_cons (pe_fld (pv 0) rfl) (pa_cons (pe_fld (pv 0) rfl) (pa_cons (pe_op op_cat (pe_fld (pv 0) rfl) (pe_lst (pa_cons (pv 1) pa_nil))) pa_nil)))))))))), ?_⟩
  obtain ⟨_, dx, sa, na, xs, ys, e0, h2, h3, h4, h5, h6, h7, h8⟩ := sh.ex
  cases e0
  obtain ⟨_, e0, ht⟩ := id ra
  cases e0
  have yl := h6.len
  have ls := ln.nt
  have rf := Same.refl H
  refine ⟨.ref t, rfl, t, _, rfl, .inl (.inl ht), rfl, _, _, rfl, _, _, rfl, _, _, rfl, _, _, rfl, rfl, ?_⟩
  refine ⟨.ref p, rfl, p, S, dx, _, .int s_.size, rfl, h2, T.clS, T.nz, fldS_size _ _ _ _, .str m.lt, rfl, .int m.at_, rfl, .int m.n, rfl, s_.size, m.at_, m.n, m.lt, rfl, hml, fun g1 g2 => ?_, fun g1 => q3 g1 _ rf, fun g1 g2 => q2 g1 g2 _ rf⟩
  refine ⟨.ref p, rfl, p, S, dx, _, .ref na, rfl, h2, T.clS, T.nn, fldS_noted _ _ _ _, na, ys, rfl, h5, fun hl => ?_, fun hl => q1 g1 g2 (by rw [← yl]; exact hl) _ rf⟩
  refine ⟨.ref p, rfl, p, S, dx, _, .int s_.size, rfl, h2, T.clS, T.nz, fldS_size _ _ _ _, .ref p, rfl, p, S, dx, _, .int s_.coming, rfl, h2, T.clS, T.nu, fldS_up _ _ _ _, .ref p, rfl, p, S, dx, _, .ref sa, rfl, h2, T.clS, T.ns, fldS_said _ _ _ _, .ref p, rfl, p, S, dx, _, .ref na, rfl, h2, T.clS, T.nn, fldS_noted _ _ _ _, .ref t, rfl, ?_⟩
  refine ⟨szN 1 rfl, fun l3 n_l3 => ?_⟩
  generalize e_l3 : upd H l3 _ = H3
  have s3 := new_same e_l3 n_l3
  have z3 := new_at e_l3
  clear e_l3
  refine ⟨na, l3, _, _, rfl, rfl, s3 _ _ h5, z3, Nat.le_trans (show ys.length + 1 ≤ 1000 by omega) (by decide), ?_⟩
  intro l4 n_l4
  generalize e_l4 : upd H3 l4 _ = H4
  have s4 := new_same e_l4 n_l4
  have z4 := new_at e_l4
  clear e_l4
  have s14 := s3.trans s4
  intro p' dx' np ndx ne
  refine make_sh (N := N) (s14 _ _ h3) (RL.ts (TS.of s14) h4) z4 ((ML.ts (TS.of s14) h6).snoc (ra.ts (TS.of s14))) h7 ((na_.same s3).not n_l4) np ndx ne (fun H5 s5 sh5 => ?_)
  exact q g1 g2 (by rw [← yl]; exact hl) H5 p' (s14.trans s5) sh5
theorem ok_shco {f : Addr} {fd : FuncData} (F : Fun K "counted_on" "Sheet.counted_on" sSheetCounted_on f fd) (T : TSh Pg w K mg base S BL NN FU BS BT IU fSh fCl fCs fCm fPo fWo fUn fCr fCg f7 f0 fdSh fdCl fdCs fdCm fdPo fdWo fdUn fdCr fdCg fd7 fd0) : FnOk Pg w K mg base CX0 9 f fd ["self"] (spShco S) := by
  refine F.ok scShco (fun vs H Q E h => ?_) (fun cdv A outer s H vs Q E hr h => ?_)
  · obtain ⟨p, N, s_, rfl, _⟩ := h; rfl
  obtain ⟨p, N, s_, rfl, sh, na_, q⟩ := h
  have r8 : Room 8 _ := hr
  refine ⟨_, (pss_one (ps_ret (pe_make T.MSh T.gSh r8 (by rfl) T.mSh T.bSh .nil pass0 (pa_cons (pe_fld (pv 0) rfl) (pa_cons (pe_op op_add (pe_fld (pv 0) rfl) pe_int) (pa_cons (pe_fld (pv 0) rfl) (pa_cons (pe_fld (pv 0) rfl) pa_nil))))))), ?_⟩
  obtain ⟨_, dx, sa, na, xs, ys, e0, h2, h3, h4, h5, h6, h7, h8⟩ := sh.ex
  cases e0
  refine ⟨.ref p, rfl, p, S, dx, _, .int s_.size, rfl, h2, T.clS, T.nz, fldS_size _ _ _ _, .ref p, rfl, p, S, dx, _, .int s_.coming, rfl, h2, T.clS, T.nu, fldS_up _ _ _ _, _, _, rfl, rfl, .ref p, rfl, p, S, dx, _, .ref sa, rfl, h2, T.clS, T.ns, fldS_said _ _ _ _, .ref p, rfl, p, S, dx, _, .ref na, rfl, h2, T.clS, T.nn, fldS_noted _ _ _ _, fun p' dx' np ndx ne => ?_⟩
  exact make_sh (N := N) h3 h4 h5 h6 h7 h8 np ndx ne (fun H5 s5 sh5 => q H5 p' s5 sh5)
theorem ok_shos {f : Addr} {fd : FuncData} (F : Fun K "without_saying" "Sheet.without_saying" sSheetWithout_saying f fd) (T : TSh Pg w K mg base S BL NN FU BS BT IU fSh fCl fCs fCm fPo fWo fUn fCr fCg f7 f0 fdSh fdCl fdCs fdCm fdPo fdWo fdUn fdCr fdCg fd7 fd0) : FnOk Pg w K mg base (L2N.CX Pg w) 9 f fd ["self", "number"] (spShos S NN) := by
  refine okN F scShos (fun vs H Q E h => ?_) (fun cdv A outer s H vs Q E hr h => ?_)
  · obtain ⟨p, n, N, s_, rfl, _⟩ := h; rfl
  obtain ⟨p, n, N, s_, rfl, sh, na_, ln, q, q1⟩ := h
  have r8 : Room 8 _ := hr
  refine ⟨_, (pss_one (ps_ret (pe_make T.MSh T.gSh r8 (by rfl) T.mSh T.bSh .nil pass0 (pa_cons (pe_fld (pv 0) rfl) (pa_cons (pe_fld (pv 0) rfl) (pa_cons (pe_call T.gWo r8 (by rfl) T.mWo T.kWo T.bWo .nil (by exact L2N.passes_call (L2N.takes_of rfl rfl rfl rfl) (fun _ _ _ _ h => h)) (pa_cons (pe_fld (pv 0) rfl) (pa_cons (pv 1) pa_nil))) (pa_cons (pe_fld (pv 0) rfl) pa_nil))))))), ?_⟩
  obtain ⟨_, dx, sa, na, xs, ys, e0, h2, h3, h4, h5, h6, h7, h8⟩ := sh.ex
  cases e0
  have ls := ln.sd
  refine ⟨.ref p, rfl, p, S, dx, _, .int s_.size, rfl, h2, T.clS, T.nz, fldS_size _ _ _ _, .ref p, rfl, p, S, dx, _, .int s_.coming, rfl, h2, T.clS, T.nu, fldS_up _ _ _ _, .ref p, rfl, p, S, dx, _, .ref sa, rfl, h2, T.clS, T.ns, fldS_said _ _ _ _, .int n, rfl, sa, xs, _, n, rfl, h3, h4.hd, by rw [List.length_map]; omega, fun k H2 l s2 hk nl el => ?_, q1⟩
  refine ⟨.ref p, rfl, p, S, dx, _, .ref na, rfl, s2 _ _ h2, T.clS, T.nn, fldS_noted _ _ _ _, fun p' dx' np ndx ne => ?_⟩
  exact make_sh (N := N) el ((RL.ts (TS.of s2) h4).erase k) (s2 _ _ h5) (ML.ts (TS.of s2) h6) (na_.not nl) h8 np ndx ne (fun H5 s5 sh5 => q k hk H5 p' (s2.trans s5) sh5)
theorem ok_shom {f : Addr} {fd : FuncData} (F : Fun K "without_memory" "Sheet.without_memory" sSheetWithout_memory f fd) (T : TSh Pg w K mg base S BL NN FU BS BT IU fSh fCl fCs fCm fPo fWo fUn fCr fCg f7 f0 fdSh fdCl fdCs fdCm fdPo fdWo fdUn fdCr fdCg fd7 fd0) : FnOk Pg w K mg base (L2N.CX Pg w) 9 f fd ["self", "number"] (spShom S NN) := by
  refine okN F scShom (fun vs H Q E h => ?_) (fun cdv A outer s H vs Q E hr h => ?_)
  · obtain ⟨p, n, N, s_, rfl, _⟩ := h; rfl
  obtain ⟨p, n, N, s_, rfl, sh, na_, ln, q, q1⟩ := h
  have r8 : Room 8 _ := hr
  refine ⟨_, (pss_one (ps_ret (pe_make T.MSh T.gSh r8 (by rfl) T.mSh T.bSh .nil pass0 (pa_cons (pe_fld (pv 0) rfl) (pa_cons (pe_fld (pv 0) rfl) (pa_cons (pe_fld (pv 0) rfl) (pa_cons (pe_call T.gWo r8 (by rfl) T.mWo T.kWo T.bWo .nil (by exact L2N.passes_call (L2N.takes_of rfl rfl rfl rfl) (fun _ _ _ _ h => h)) (pa_cons (pe_fld (pv 0) rfl) (pa_cons (pv 1) pa_nil))) pa_nil))))))), ?_⟩
  obtain ⟨_, dx, sa, na, xs, ys, e0, h2, h3, h4, h5, h6, h7, h8⟩ := sh.ex
  cases e0
  have ls := ln.nt
  refine ⟨.ref p, rfl, p, S, dx, _, .int s_.size, rfl, h2, T.clS, T.nz, fldS_size _ _ _ _, .ref p, rfl, p, S, dx, _, .int s_.coming, rfl, h2, T.clS, T.nu, fldS_up _ _ _ _, .ref p, rfl, p, S, dx, _, .ref sa, rfl, h2, T.clS, T.ns, fldS_said _ _ _ _, .ref p, rfl, p, S, dx, _, .ref na, rfl, h2, T.clS, T.nn, fldS_noted _ _ _ _, .int n, rfl, na, ys, _, n, rfl, h5, h6.hd, by rw [List.length_map]; omega, fun k H2 l s2 hk nl el => ?_, q1⟩
  intro p' dx' np ndx ne
  exact make_sh (N := N) (s2 _ _ h3) (RL.ts (TS.of s2) h4) el ((ML.ts (TS.of s2) h6).erase k) h7 (na_.not nl) np ndx ne (fun H5 s5 sh5 => q k hk H5 p' (s2.trans s5) sh5)
theorem LL.set {α : Type} {D : Hp → V → α → Prop} {H : Hp} {vs : List V} {as : List α} (h : LL D H vs as) {k : Nat} {v : V} {a : α} (hk : k < as.length) (d : D H v a) : LL D H (vs.take k ++ [v] ++ vs.drop (k + 1)) (as.set k a) := by
  have e : as.set k a = as.take k ++ [a] ++ as.drop (k + 1) := by
    rw [List.set_eq_take_append_cons_drop, if_pos hk, List.append_assoc]; rfl
  rw [e]
  refine ((h.take k).snoc d).app ⟨by rw [List.length_drop, List.length_drop, h.len], fun i v a h1 h2 => ?_⟩
  rw [List.getElem?_drop] at h1 h2
  exact h.at_ _ v a h1 h2
theorem ok_sham {f : Addr} {fd : FuncData} (F : Fun K "amended" "Sheet.amended" sSheetAmended f fd) (T : TSh Pg w K mg base S BL NN FU BS BT IU fSh fCl fCs fCm fPo fWo fUn fCr fCg f7 f0 fdSh fdCl fdCs fdCm fdPo fdWo fdUn fdCr fdCg fd7 fd0) : FnOk Pg w K mg base (L2N.CX Pg w) 9 f fd ["self", "row"] (spSham S NN BS) := by
  refine okN F scSham (fun vs H Q E h => ?_) (fun cdv A outer s H vs Q E hr h => ?_)
  · obtain ⟨p, t, N, s_, r, rfl, _⟩ := h; rfl
  obtain ⟨p, t, N, s_, r, rfl, sh, ra, na_, ln, q, q1, q2⟩ := h
  have r8 : Room 8 _ := hr
  refine ⟨_, (pss_cons (ps_set (i := 2) scSham.nd rfl (.inl rfl) (pe_call T.gPo r8 (by rfl) T.mPo T.kPo T.bPo .nil (by exact L2N.passes_call (L2N.takes_of rfl rfl rfl rfl) (fun _ _ _ _ h => h)) (pa_cons (pe_fld (pv 0) rfl) (pa_cons (pe_ix ix_tup (pv 1) pe_int (fun _ _ => rfl)) pa_nil))))
    (pss_cons (ps_expr (pe_call T.gCs r8 (by rfl) T.mCs T.kCs T.bCs .nil (by exact L2N.passes_call (L2N.takes_of rfl rfl rfl rfl) (fun _ _ _ _ h => h)) (pa_cons (pe_fld (pv 0) rfl) (pa_cons (pe_call T.gUn r8 (by rfl) T.mUn T.kUn T.bUn .nil pass0 (pa_cons (pe_lst (pa_cons (pv 1) pa_nil)) pa_nil)) pa_nil))))
    (pss_one (ps_ret (pe_make T.MSh T.gSh r8 (by rfl) T.mSh T.bSh .nil pass0 (pa_cons (pe_fld (pv 0) rfl) (pa_cons (pe_fld (pv 0) rfl) (pa_cons (pe_op op_cat (pe_op op_cat (pe_slice sl_list (pe_fld (pv 0) rfl) po_none (po_some (pv 2))) (pe_lst (pa_cons (pv 1) pa_nil))) (pe_slice sl_list (pe_fld (pv 0) rfl) (po_some (pe_op op_add (pv 2) pe_int)) po_none)) (pa_cons (pe_fld (pv 0) rfl) pa_nil))))))))), ?_⟩
  obtain ⟨_, dx, sa, na, xs, ys, e0, h2, h3, h4, h5, h6, h7, h8⟩ := sh.ex
  cases e0
  obtain ⟨_, e0, ht⟩ := id ra
  cases e0
  have xl := h4.len
  have ls := ln.sd
  refine ⟨.ref p, rfl, p, S, dx, _, .ref sa, rfl, h2, T.clS, T.ns, fldS_said _ _ _ _, .ref t, rfl, t, _, _, .int r.num, rfl, rfl, .inl (.inl ht), rfl, sa, xs, _, r.num, rfl, .inl (.inl h3), h4.hd, by rw [List.length_map]; omega, fun k H0 s0 hk => ?_, q2⟩
  have kl : k < s_.said.length := by
    have := (List.getElem?_eq_some_iff.mp hk.1).1
    rw [List.length_map] at this
    exact this
  refine ⟨.ref p, rfl, p, S, dx, _, .int s_.size, rfl, s0 _ _ h2, T.clS, T.nz, fldS_size _ _ _ _, .ref t, rfl, ?_⟩
  refine ⟨szN 1 rfl, fun l1 n_l1 => ?_⟩
  generalize e_l1 : upd H0 l1 _ = H1
  have s1' := new_same e_l1 n_l1
  have z1 := new_at e_l1
  clear e_l1
  have s1 := s0.trans s1'
  refine ⟨l1, _, [r], rfl, z1, LL.one (ra.ts (TS.of s1)), by show 1 ≤ 1000; decide, fun H2 l2 zs s2 n2 z2 sl => ?_⟩
  have s12 := s1.trans s2
  refine ⟨s_.size, l2, zs, [r.sy], rfl, .inl (.inl z2), sl, fun hg => ?_, fun hg => q1 k hk (fun z => hg fun y hy => by rw [List.mem_singleton.mp hy]; exact z) _ s12⟩
  have hg : Gd2 s_.size r.sy := hg r.sy (List.mem_singleton.mpr rfl)
  refine ⟨.ref p, rfl, p, S, dx, _, .int s_.size, rfl, s12 _ _ h2, T.clS, T.nz, fldS_size _ _ _ _, .ref p, rfl, p, S, dx, _, .int s_.coming, rfl, s12 _ _ h2, T.clS, T.nu, fldS_up _ _ _ _, .ref p, rfl, p, S, dx, _, .ref sa, rfl, s12 _ _ h2, T.clS, T.ns, fldS_said _ _ _ _, .int (k : Int), rfl, _, rfl, sa, xs, rfl, .inl (.inl (s12 _ _ h3)), ?_⟩
  intro l3 n_l3
  generalize e_l3 : upd H2 l3 _ = H3
  have s3 := new_same e_l3 n_l3
  have z3 := new_at e_l3
  clear e_l3
  rw [cutTo] at z3
  refine ⟨.ref t, rfl, ?_⟩
  refine ⟨szN 1 rfl, fun l4 n_l4 => ?_⟩
  generalize e_l4 : upd H3 l4 _ = H4
  have s4 := new_same e_l4 n_l4
  have z4 := new_at e_l4
  clear e_l4
  refine ⟨l3, l4, _, _, rfl, rfl, s4 _ _ z3, z4, Nat.le_trans (show _ ≤ 1000 by rw [List.length_take]; show _ + 1 ≤ 1000; omega) (by decide), ?_⟩
  intro l5 n_l5
  generalize e_l5 : upd H4 l5 _ = H5
  have s5 := new_same e_l5 n_l5
  have z5 := new_at e_l5
  clear e_l5
  have s15 := s12.trans (s3.trans (s4.trans s5))
  refine ⟨.ref p, rfl, p, S, dx, _, .ref sa, rfl, s15 _ _ h2, T.clS, T.ns, fldS_said _ _ _ _, .int (k : Int), rfl, _, _, rfl, rfl, _, rfl, sa, xs, rfl, .inl (.inl (s15 _ _ h3)), ?_⟩
  intro l6 n_l6
  generalize e_l6 : upd H5 l6 _ = H6
  have s6 := new_same e_l6 n_l6
  have z6 := new_at e_l6
  clear e_l6
  have ec : cutV xs (some ((k : Int) + 1)) none = xs.drop (k + 1) := cutFrom xs (k + 1)
  rw [ec] at z6
  refine ⟨l5, l6, _, _, rfl, rfl, s6 _ _ z5, z6, Nat.le_trans (show _ ≤ 1000 by rw [List.length_append, List.length_take, List.length_drop]; show _ + 1 + _ ≤ 1000; omega) (by decide), ?_⟩
  intro l7 n_l7
  generalize e_l7 : upd H6 l7 _ = H7
  have s7 := new_same e_l7 n_l7
  have z7 := new_at e_l7
  clear e_l7
  have s17 := s15.trans (s6.trans s7)
  refine ⟨.ref p, rfl, p, S, dx, _, .ref na, rfl, s17 _ _ h2, T.clS, T.nn, fldS_noted _ _ _ _, fun p' dx' np ndx ne => ?_⟩
  refine make_sh (N := N) z7 ((RL.ts (TS.of s17) h4).set kl (ra.ts (TS.of s17))) (s17 _ _ h5) (ML.ts (TS.of s17) h6) ((na_.same (s15.trans s6)).not n_l7) h8 np ndx ne (fun H8 s8 sh8 => ?_)
  exact q k hk hg H8 p' (s17.trans s8) sh8
theorem ok_shre {f : Addr} {fd : FuncData} (F : Fun K "resized" "Sheet.resized" sSheetResized f fd) (T : TSh Pg w K mg base S BL NN FU BS BT IU fSh fCl fCs fCm fPo fWo fUn fCr fCg f7 f0 fdSh fdCl fdCs fdCm fdPo fdWo fdUn fdCr fdCg fd7 fd0) : FnOk Pg w K mg base (L2N.CX Pg w) 9 f fd ["self", "size"] (spShre S BL) := by
  refine okN F scShre (fun vs H Q E h => ?_) (fun cdv A outer s H vs Q E hr h => ?_)
  · obtain ⟨p, e, N, s_, rfl, _⟩ := h; rfl
  obtain ⟨p, e, N, s_, rfl, sh, q, q1⟩ := h
  have r8 : Room 8 _ := hr
  refine ⟨_, (pss_cons (ps_expr (pe_call T.gCl r8 (by rfl) T.mCl T.kCl T.bCl .nil (by exact L2N.passes_call (L2N.takes_of rfl rfl rfl rfl) (fun _ _ _ _ h => h)) (pa_cons (pv 1) pa_nil)))
    (pss_one (ps_ret (pe_make T.MSh T.gSh r8 (by rfl) T.mSh T.bSh .nil pass0 (pa_cons (pv 1) (pa_cons (pe_fld (pv 0) rfl) (pa_cons (pe_fld (pv 0) rfl) (pa_cons (pe_fld (pv 0) rfl) pa_nil)))))))), ?_⟩
  obtain ⟨_, dx, sa, na, xs, ys, e0, h2, h3, h4, h5, h6, h7, h8⟩ := sh.ex
  cases e0
  refine ⟨.int e, rfl, e, rfl, fun he => ?_, fun he => q1 he _ (Same.refl _)⟩
  refine ⟨.int e, rfl, .ref p, rfl, p, S, dx, _, .int s_.coming, rfl, h2, T.clS, T.nu, fldS_up _ _ _ _, .ref p, rfl, p, S, dx, _, .ref sa, rfl, h2, T.clS, T.ns, fldS_said _ _ _ _, .ref p, rfl, p, S, dx, _, .ref na, rfl, h2, T.clS, T.nn, fldS_noted _ _ _ _, fun p' dx' np ndx ne => ?_⟩
  exact make_sh (N := N) h3 h4 h5 h6 h7 h8 np ndx ne (fun H5 s5 sh5 => q he H5 p' s5 sh5)
theorem ok_shle {f : Addr} {fd : FuncData} (F : Fun K "lengthened" "Sheet.lengthened" sSheetLengthened f fd) (T : TSh Pg w K mg base S BL NN FU BS BT IU fSh fCl fCs fCm fPo fWo fUn fCr fCg f7 f0 fdSh fdCl fdCs fdCm fdPo fdWo fdUn fdCr fdCg fd7 fd0) (g7 : FnOk Pg w K mg base (L2N.CX Pg w) 9 f7 fd7 ["self", "size"] (spShre S BL)) : FnOk Pg w K mg base (L2N.CX Pg w) 10 f fd ["self", "many"] (spShle S BL) := by
  refine okN F scShle (fun vs H Q E h => ?_) (fun cdv A outer s H vs Q E hr h => ?_)
  · obtain ⟨p, e, N, s_, rfl, _⟩ := h; rfl
  obtain ⟨p, m, N, s_, rfl, sh, q, q1⟩ := h
  have r9 : Room 9 _ := hr
  have r8 : Room 8 _ := hr.mono (by decide)
  refine ⟨_, (pss_cons (ps_expr (pe_call T.gCg r8 (by rfl) T.mCg T.kCg T.bCg .nil (by exact L2N.passes_call (L2N.takes_of rfl rfl rfl rfl) (fun _ _ _ _ h => h)) (pa_cons (pv 1) pa_nil)))
    (pss_one (ps_ret (pe_meth (pv 0) T.clS T.m7 g7 r9 T.b7 .nil (by exact L2N.passes_call (L2N.takes_of rfl rfl rfl rfl) (fun _ _ _ _ h => h)) (pa_cons (pe_op op_add (pe_fld (pv 0) rfl) (pv 1)) pa_nil))))), ?_⟩
  obtain ⟨_, dx, sa, na, xs, ys, e0, h2, h3, h4, h5, h6, h7, h8⟩ := sh.ex
  cases e0
  refine ⟨.int m, rfl, m, rfl, fun hm => ?_, fun hm => q1 (fun z => hm z.1) _ (Same.refl _)⟩
  refine ⟨.ref p, rfl, p, dx, _, rfl, h2, fldS_no _ _ _ _ (by decide +kernel), .ref p, rfl, p, S, dx, _, .int s_.size, rfl, h2, T.clS, T.nz, fldS_size _ _ _ _, .int m, rfl, _, _, rfl, rfl, ?_⟩
  exact ⟨p, s_.size + m, N, s_, rfl, sh, fun he => q ⟨hm, he⟩, fun he => q1 fun z => he z.2⟩
theorem ok_shus {f : Addr} {fd : FuncData} {k : Nat} (F : Fun K "used" "Sheet.used" sSheetUsed f fd) (X : TxS K S) (T : TMax mg) : FnOk Pg w K mg base CX0 (k + 1) f fd ["self"] (spShus S) := by
  refine F.ok scShus (fun vs H Q E h => ?_) (fun cdv A outer s H vs Q E hr h => ?_)
  · obtain ⟨p, N, s_, rfl, _⟩ := h; rfl
  obtain ⟨p, N, s_, rfl, sh, ln, q⟩ := h
  obtain ⟨_, dx, sa, na, xs, ys, e0, h2, h3, h4, h5, h6, h7, h8⟩ := sh.ex
  cases e0
  have ls := ln.sd
  have lt := ln.nt
  refine ⟨_, (pss_cons (ps_setLc (i := 1) (own := [("number", 2), ("one", 3), ("other", 4), ("many", 5), ("turned", 6)]) (g := (gTup K 5 (gCons (gName 2) (gCons (gName 3) (gCons (gName 4) (gCons (gName 5) (gCons (gName 6) gNil))))))) (tt := tYes) rfl scShus.nd rfl rfl (sw_true rfl rfl rfl (by decide +kernel)) (pi_list (pe_fld (pv 0) rfl)) (blkOk_by (N := nShus) (sc := defScope sSheetUsed) (by decide +kernel)) (fun _ _ _ _ _ => (pg_tup rfl (pgs_cons (pg_name (i := 2) scShus.nd rfl (.inl rfl)) (pgs_cons (pg_name (i := 3) scShus.nd rfl (.inl rfl)) (pgs_cons (pg_name (i := 4) scShus.nd rfl (.inl rfl)) (pgs_cons (pg_name (i := 5) scShus.nd rfl (.inl rfl)) (pgs_cons (pg_name (i := 6) scShus.nd rfl (.inl rfl)) pgs_nil))))))) (fun _ _ _ _ _ => pts_nil) (fun _ _ _ _ _ => (pe_op op_add (pe_callB (call_max2 rfl) (by rfl) T.mM (by decide +kernel) (pa_cons (pv 3) (pa_cons (pv 4) pa_nil))) (pv 5))))
    (pss_one (ps_ret (pe_callBK (cr_maxD rfl hr.units) (by rfl) T.mM (by decide +kernel) (pa_cons (pe_op op_cat (pv 1) (pe_lc (own := [("number", 2), ("letter", 7), ("at", 8), ("many", 5)]) (g := (gTup K 4 (gCons (gName 2) (gCons (gName 7) (gCons (gName 8) (gCons (gName 5) gNil)))))) (tt := tYes) rfl scShus.nd (pi_list (pe_fld (pv 0) rfl)) (blkOk_by (N := nShus) (sc := defScope sSheetUsed) (by decide +kernel)) (fun _ _ _ _ _ => (pg_tup rfl (pgs_cons (pg_name (i := 2) scShus.nd rfl (.inl rfl)) (pgs_cons (pg_name (i := 7) scShus.nd rfl (.inl rfl)) (pgs_cons (pg_name (i := 8) scShus.nd rfl (.inl rfl)) (pgs_cons (pg_name (i := 5) scShus.nd rfl (.inl rfl)) pgs_nil)))))) (fun _ _ _ _ _ => pts_nil) (fun _ _ _ _ _ => (pe_op op_add (pv 8) (pv 5))))) pa_nil) (pk_cons pe_int pk_nil))))), ?_⟩
  refine ⟨.ref p, rfl, p, S, dx, _, .ref sa, rfl, h2, X.clS, X.ns, fldS_said _ _ _ _, sa, rfl, ⟨_, .inl (.inl h3)⟩, fun D nD => ?_⟩
  refine lc_list (xs := xs) (fun i H5 => Same H H5 ∧ H5 D = some (.lst (((s_.said.take i).map fun r => (if r.sy.lo < r.sy.hi then r.sy.hi else r.sy.lo) + r.sy.n).map V.int))) ⟨same_upd nD, upd_same⟩ (fun i H5 _ hP => .inl (.inl (hP.1 _ _ h3))) (fun i v H5 hv hP => ?_) (fun H5 hP => ?_)
  · obtain ⟨sm, eD⟩ := hP
    obtain ⟨r, hr_, t, rfl, ht⟩ := h4.get hv
    have hi : i < s_.said.length := (List.getElem?_eq_some_iff.mp hr_).1
    refine ⟨t, _, rfl, .inl (.inl (sm _ _ ht)), rfl, _, _, rfl, _, _, rfl, _, _, rfl, _, _, rfl, _, _, rfl, rfl, rfl, ?_⟩
    refine tYes_ok ?_
    refine iteT ?_
    refine ⟨.int r.sy.lo, rfl, .int r.sy.hi, rfl, r.sy.lo, r.sy.hi, rfl, .int r.sy.n, rfl, _, _, rfl, rfl, _, eD, ?_, same_over sm nD, ?_⟩
    · rw [List.length_map, List.length_map, List.length_take]
      exact Nat.lt_of_le_of_lt (show _ ≤ 100000 by omega) (by decide)
    · rw [upd_same, List.take_add_one, hr_, List.map_append, List.map_append]
      rfl
  · obtain ⟨sm, eD⟩ := hP
    rw [h4.len, List.take_length] at eD
    refine ⟨.ref D, rfl, .ref p, rfl, p, S, dx, _, .ref na, rfl, sm _ _ h2, X.clS, X.nn, fldS_noted _ _ _ _, na, rfl, ⟨_, .inl (.inl (sm _ _ h5))⟩, fun D2 nD2 => ?_⟩
    refine lc_list (xs := ys) (fun i H6 => Same H5 H6 ∧ H6 D2 = some (.lst (((s_.noted.take i).map fun m => m.at_ + m.n).map V.int))) ⟨same_upd nD2, upd_same⟩ (fun i H6 _ hP => .inl (.inl (hP.1 _ _ (sm _ _ h5)))) (fun i v H6 hv hP => ?_) (fun H6 hP => ?_)
    · obtain ⟨sm2, eD2⟩ := hP
      obtain ⟨m, hm, t, rfl, ht⟩ := h6.get hv
      have hi : i < s_.noted.length := (List.getElem?_eq_some_iff.mp hm).1
      refine ⟨t, _, rfl, .inl (.inl (sm2 _ _ (sm _ _ ht))), rfl, _, _, rfl, _, _, rfl, _, _, rfl, _, _, rfl, rfl, rfl, ?_⟩
      refine tYes_ok ?_
      refine iteT ?_
      refine ⟨.int m.at_, rfl, .int m.n, rfl, _, _, rfl, rfl, _, eD2, ?_, same_over sm2 nD2, ?_⟩
      · rw [List.length_map, List.length_map, List.length_take]
        exact Nat.lt_of_le_of_lt (show _ ≤ 100000 by omega) (by decide)
      · rw [upd_same, List.take_add_one, hm, List.map_append, List.map_append]
        rfl
    · obtain ⟨sm2, eD2⟩ := hP
      rw [h6.len, List.take_length] at eD2
      refine ⟨D, D2, _, _, rfl, rfl, sm2 _ _ eD, eD2, ?_, ?_⟩
      · rw [List.length_map, List.length_map, List.length_map, List.length_map]
        exact Nat.le_trans (show _ ≤ 1000 by omega) (by decide)
      intro l1 n_l1
      generalize e_l1 : upd H6 l1 _ = H7
      have s7 := new_same e_l1 n_l1
      have z7 := new_at e_l1
      clear e_l1
      rw [← List.map_append] at z7
      exact ⟨l1, endsF s_, 0, rfl, rfl, .inl (.inl z7), q H7 (sm.trans (sm2.trans s7))⟩
theorem ok_shsh {f : Addr} {fd : FuncData} (F : Fun K "shortened" "Sheet.shortened" sSheetShortened f fd) (T : TSh Pg w K mg base S BL NN FU BS BT IU fSh fCl fCs fCm fPo fWo fUn fCr fCg f7 f0 fdSh fdCl fdCs fdCm fdPo fdWo fdUn fdCr fdCg fd7 fd0) (g7 : FnOk Pg w K mg base (L2N.CX Pg w) 9 f7 fd7 ["self", "size"] (spShre S BL)) (g0 : FnOk Pg w K mg base CX0 8 f0 fd0 ["self"] (spShus S)) : FnOk Pg w K mg base (L2N.CX Pg w) 10 f fd ["self", "many"] (spShsh S BL IU) := by
  refine okN F scShsh (fun vs H Q E h => ?_) (fun cdv A outer s H vs Q E hr h => ?_)
  · obtain ⟨p, e, N, s_, rfl, _⟩ := h; rfl
  obtain ⟨p, m, N, s_, rfl, sh, ln, q, q1, q2⟩ := h
  have r9 : Room 9 _ := hr
  have r8 : Room 8 _ := hr.mono (by decide)
  refine ⟨_, (pss_cons (ps_expr (pe_call T.gCg r8 (by rfl) T.mCg T.kCg T.bCg .nil (by exact L2N.passes_call (L2N.takes_of rfl rfl rfl rfl) (fun _ _ _ _ h => h)) (pa_cons (pv 1) pa_nil)))
    (pss_cons (ps_set (i := 2) scShsh.nd rfl (.inl rfl) (pe_meth (pv 0) T.clS T.m7 g7 r9 T.b7 .nil (by exact L2N.passes_call (L2N.takes_of rfl rfl rfl rfl) (fun _ _ _ _ h => h)) (pa_cons (pe_op op_sub (pe_fld (pv 0) rfl) (pv 1)) pa_nil)))
    (pss_cons (ps_if (pt_cmpR op_gt (pe_meth0 (pv 0) T.clS T.m0 g0 r8 T.b0 .nil pass0) (pe_fld (pv 2) rfl) (nomark _)) (pss_one (L2N.ps_raise rfl (L2N.takes_of rfl rfl rfl rfl) (L2N.pmk_own PySem.F.excBase_ValueError T.xIU.x T.xIU.g T.xIU.k (raises_own T.xIU.b T.xIU.t) rfl))) pss_nil)
    (pss_one (ps_ret (pv 2)))))), ?_⟩
  obtain ⟨_, dx, sa, na, xs, ys, e0, h2, h3, h4, h5, h6, h7, h8⟩ := sh.ex
  cases e0
  refine ⟨.int m, rfl, m, rfl, fun hm => ?_, fun hm => q2 (fun z => hm z.1) _ (Same.refl _)⟩
  refine ⟨.ref p, rfl, p, dx, _, rfl, h2, fldS_no _ _ _ _ (by decide +kernel), .ref p, rfl, p, S, dx, _, .int s_.size, rfl, h2, T.clS, T.nz, fldS_size _ _ _ _, .int m, rfl, _, _, rfl, rfl, ?_⟩
  refine ⟨p, s_.size - m, N, s_, rfl, sh, fun he => ?_, fun he => q2 fun z => he z.2⟩
  intro H1 p' s1 sh1
  obtain ⟨_, dx', sa', na', xs', ys', e0, k2, k3, k4, k5, k6, k7, k8⟩ := id sh1.ex
  cases e0
  refine ⟨.ref p, rfl, p, dx, _, rfl, s1 _ _ h2, fldS_no _ _ _ _ (by decide +kernel), p, N, s_, rfl, sh.same s1, ln, fun H2 s2 => ?_⟩
  refine ⟨.ref p', rfl, p', S, dx', _, .int (s_.size - m), rfl, s2 _ _ k2, T.clS, T.nz, fldS_size _ _ _ _, _, _, rfl, rfl, _, rfl, ite2 (fun c => ?_) (fun c => ?_)⟩
  · have c : s_.size - m < maxI (endsF s_) 0 := of_decide_eq_true c
    exact q1 ⟨hm, he⟩ (fun z => by have := maxI_le (d := 0) (b := s_.size - m) he.1 z; omega) _ (s1.trans s2)
  · have c : ¬ (s_.size - m < maxI (endsF s_) 0) := fun z => c (decide_eq_true z)
    refine ⟨.ref p', rfl, q ⟨hm, he⟩ (fun z hz => ?_) H2 p' (s1.trans s2) (sh1.same s2)⟩
    have := le_maxI (d := 0) hz
    omega
end
end Rep
namespace Rep
open PySem L2 L2H RepHot
/-! the book -/
def fldB (l : Addr) (h : Int) (sv nv : V) : List (Str × V) := [("sheets", .ref l), ("here", .int h), ("song", sv), ("notes", nv)]
theorem kb : ¬ (("sheets" : Str) = "here") ∧ ¬ (("sheets" : Str) = "song") ∧ ¬ (("sheets" : Str) = "notes") ∧ ¬ (("here" : Str) = "song") ∧ ¬ (("here" : Str) = "notes") ∧ ¬ (("song" : Str) = "notes") := by decide +kernel
theorem fldB_mk (l : Addr) (h : Int) (sv nv : V) : putF "notes" nv (putF "song" sv (putF "here" (.int h) (putF "sheets" (.ref l) []))) = fldB l h sv nv := by
  have e1 : putF "here" (.int h) ([(("sheets" : Str), V.ref l)] : List (Str × V)) = ([(("sheets" : Str), V.ref l), (("here" : Str), V.int h)] : List (Str × V)) := by
    show (if _ then _ else _) = _
    rw [if_neg kb.1]; rfl
  have e2 : putF "song" sv ([(("sheets" : Str), V.ref l), (("here" : Str), V.int h)] : List (Str × V)) = ([(("sheets" : Str), V.ref l), (("here" : Str), V.int h), (("song" : Str), sv)] : List (Str × V)) := by
    show (if _ then _ else _) = _
    rw [if_neg kb.2.1]
    show _ :: (if _ then _ else _) = _
    rw [if_neg kb.2.2.2.1]; rfl
  show putF "notes" nv (putF "song" sv (putF "here" (.int h) ([(("sheets" : Str), V.ref l)] : List (Str × V)))) = _
  rw [e1, e2]
  show (if _ then _ else _) = _
  rw [if_neg kb.2.2.1]
  show _ :: (if _ then _ else _) = _
  rw [if_neg kb.2.2.2.2.1]
  show _ :: _ :: (if _ then _ else _) = _
  rw [if_neg kb.2.2.2.2.2]; rfl
section
variable (l l' : Addr) (h h' : Int) (sv sv' nv nv' : V)
theorem fldB_sheets : (fldB l h sv nv).lookup ("sheets" : Str) = some (.ref l) := by rw [← fldB_mk, lookup_putF, if_neg kb.2.2.1, lookup_putF, if_neg kb.2.1, lookup_putF, if_neg kb.1, lookup_putF, if_pos rfl]
theorem fldB_here : (fldB l h sv nv).lookup ("here" : Str) = some (.int h) := by rw [← fldB_mk, lookup_putF, if_neg kb.2.2.2.2.1, lookup_putF, if_neg kb.2.2.2.1, lookup_putF, if_pos rfl]
theorem fldB_song : (fldB l h sv nv).lookup ("song" : Str) = some sv := by rw [← fldB_mk, lookup_putF, if_neg kb.2.2.2.2.2, lookup_putF, if_pos rfl]
theorem fldB_notes : (fldB l h sv nv).lookup ("notes" : Str) = some nv := by rw [← fldB_mk, lookup_putF, if_pos rfl]
theorem fldB_no {m : Str} (k : (m == "notes" || m == "song" || m == "here" || m == "sheets") = false) : (fldB l h sv nv).lookup m = none := by
  simp only [Bool.or_eq_false_iff, beq_eq_false_iff_ne] at k
  obtain ⟨⟨⟨h1, h2⟩, h3⟩, h4⟩ := k
  rw [← fldB_mk, lookup_putF, if_neg h1, lookup_putF, if_neg h2, lookup_putF, if_neg h3, lookup_putF, if_neg h4]; rfl
theorem putB_sheets : putF "sheets" (.ref l') (fldB l h sv nv) = fldB l' h sv nv := by show (if _ then _ else _) = _; rw [if_pos rfl]; rfl
theorem putB_here : putF "here" (.int h') (fldB l h sv nv) = fldB l h' sv nv := by
  show (if _ then _ else _) = _
  rw [if_neg kb.1]
  show _ :: (if _ then _ else _) = _
  rw [if_pos rfl]; rfl
theorem putB_song : putF "song" sv' (fldB l h sv nv) = fldB l h sv' nv := by
  show (if _ then _ else _) = _
  rw [if_neg kb.2.1]
  show _ :: (if _ then _ else _) = _
  rw [if_neg kb.2.2.2.1]
  show _ :: _ :: (if _ then _ else _) = _
  rw [if_pos rfl]; rfl
theorem putB_notes : putF "notes" nv' (fldB l h sv nv) = fldB l h sv nv' := by
  show (if _ then _ else _) = _
  rw [if_neg kb.2.2.1]
  show _ :: (if _ then _ else _) = _
  rw [if_neg kb.2.2.2.2.1]
  show _ :: _ :: (if _ then _ else _) = _
  rw [if_neg kb.2.2.2.2.2]
  show _ :: _ :: _ :: (if _ then _ else _) = _
  rw [if_pos rfl]; rfl
theorem fldB_len : (fldB l h sv nv).length < 1000 := by show 4 < 1000; decide
end
theorem atI_eq (xs : List V) (i : Nat) : atI xs (i : Int) = xs[i]? := by
  unfold atI ixN
  rw [if_pos (by omega)]
  by_cases h : (i : Int) < xs.length
  · rw [if_pos h]
    show xs[(i : Int).toNat]? = _
    rw [Int.toNat_natCast]
  · rw [if_neg h, List.getElem?_eq_none (by omega)]
    rfl
structure BkAt (BK S : Addr) (N : Addr → Prop) (H : Hp) (b : Addr) (sts : List Sht) (here : Nat) (sv nv : V) : Prop where
  ex : ∃ (dx l : Addr) (vs : List V), H b = some (.ins BK dx (fldB l (here : Int) sv nv)) ∧ H l = some (.lst vs) ∧ LL (ShAt S N) H vs sts ∧ ¬ N l ∧ here < sts.length
section
variable {BK S b : Addr} {N : Addr → Prop} {H H' : Hp} {sts : List Sht} {here : Nat} {sv nv : V}
theorem BkAt.kp (h : BkAt BK S N H b sts here sv nv) (k : Kp S N H H') (kb : ∀ o, H b = some o → H' b = some o) : BkAt BK S N H' b sts here sv nv := by
  obtain ⟨dx, l, vs, h1, h2, h3, h4, h5⟩ := h.ex
  exact ⟨dx, l, vs, kb _ h1, k _ _ h2 h4, h3.imp fun _ _ z => z.kp k, h4, h5⟩
theorem BkAt.same (h : BkAt BK S N H b sts here sv nv) (s : Same H H') : BkAt BK S N H' b sts here sv nv := h.kp (.of s) (fun o e => s _ _ e)
theorem BkAt.ins (h : BkAt BK S N H b sts here sv nv) {m : Str} (k : (m == "notes" || m == "song" || m == "here" || m == "sheets") = false) : ∃ dx fs, H b = some (.ins BK dx fs) ∧ fs.lookup m = none := by
  obtain ⟨dx, l, vs, h1, _⟩ := h.ex
  exact ⟨dx, _, h1, fldB_no _ _ _ _ k⟩
end
/-! rows as data -/
def rwD (r : Rw) : PyData := .tuple [.int r.num, .int r.sy.lo, .int r.sy.hi, .int r.sy.n, .bool r.sy.t]
theorem dpAll_rw {K : PySem.W.Frag} {H : Hp} : ∀ {vs : List V} {rs : List Rw}, RL H vs rs → DpAll K H vs (rs.map rwD)
  | [], [], _ => .nil
  | [], _ :: _, h => by have := h.len; simp at this
  | _ :: _, [], h => by have := h.len; simp at this
  | v :: vs, m :: ms, h => .cons (by obtain ⟨t, rfl, ht⟩ := h.at_ 0 v m rfl rfl
                                     exact .tup (.inl (.inl ht)) (.cons (.int _) (.cons (.int _) (.cons (.int _) (.cons (.int _) (.cons (.bl _) .nil)))))) (dpAll_rw ⟨by have := h.len; simpa using this, fun i w u h1 h2 => h.at_ (i + 1) w u h1 h2⟩)
theorem canRw : ∀ rs : List Rw, PyData.canLayAll0 (rs.map rwD) = true
  | [] => rfl
  | _ :: r => by
    show (true && PyData.canLayAll0 (r.map rwD)) = true
    rw [canRw r]; rfl
theorem depRw : ∀ rs : List Rw, PyData.depthAll (rs.map rwD) ≤ 1
  | [] => Nat.zero_le _
  | _ :: r => by
    show max 1 (PyData.depthAll (r.map rwD)) ≤ 1
    have := depRw r
    omega
theorem shapedRw (rs : List Rw) : SeqAt.shaped (.list (rs.map rwD)) = true := by
  unfold SeqAt.shaped
  have e : PyData.canLay0 (.list (rs.map rwD)) = true := canRw rs
  rw [e]
  refine decide_eq_true ?_
  show PyData.depthAll (rs.map rwD) + 1 ≤ 64
  have := depRw rs
  omega
/-- what the song is when another sheet is turned to -/
def SvK (sv sv' : V) (s s' : Sht) : Prop := sv' = .non ∨ (sv' = sv ∧ s.size = s'.size ∧ PyData.eqv (.list (s.said.map rwD)) (.list (s'.said.map rwD)) = true)
inductive Dd where
  | say (y : Sy) | unsay (n : Int) | amend (n : Int) (y : Sy) | rem (z : Str) (x m : Int) | forget (n : Int) | longer (m : Int) | shorter (m : Int)
/-- what a deed leads to: the kind of its refusal, or what is told and the sheet -/
def Stp (s : Sht) : Dd → Nat ⊕ (Option Int × Sht) → Prop
  | .say y, r => (Gd2 s.size y ∧ s.said.length < 24 ∧ r = .inr (some s.coming, { s with said := s.said ++ [⟨s.coming, y⟩], coming := s.coming + 1 })) ∨ (Gd2 s.size y ∧ ¬ s.said.length < 24 ∧ r = .inl 5) ∨ (¬ Gd2 s.size y ∧ r = .inl 1)
  | .unsay n, r => (∃ k, Fst (s.said.map Rw.num) n k ∧ r = .inr (none, { s with said := s.said.eraseIdx k })) ∨ (n ∉ s.said.map Rw.num ∧ r = .inl 3)
  | .amend n y, r => (∃ k, Fst (s.said.map Rw.num) n k ∧ Gd2 s.size y ∧ r = .inr (none, { s with said := s.said.set k ⟨n, y⟩ })) ∨ (∃ k, Fst (s.said.map Rw.num) n k ∧ ¬ Gd2 s.size y ∧ r = .inl 1) ∨ (n ∉ s.said.map Rw.num ∧ r = .inl 3)
  | .rem z x m, r => (Ltr z ∧ St_ x m s.size ∧ s.noted.length < 24 ∧ r = .inr (some s.coming, { s with noted := s.noted ++ [⟨s.coming, z, x, m⟩], coming := s.coming + 1 })) ∨ (Ltr z ∧ St_ x m s.size ∧ ¬ s.noted.length < 24 ∧ r = .inl 5) ∨ (Ltr z ∧ ¬ St_ x m s.size ∧ r = .inl 1) ∨ (¬ Ltr z ∧ r = .inl 4)
  | .forget n, r => (∃ k, Fst (s.noted.map Me.num) n k ∧ r = .inr (none, { s with noted := s.noted.eraseIdx k })) ∨ (n ∉ s.noted.map Me.num ∧ r = .inl 3)
  | .longer m, r => (1 ≤ m ∧ In40 (s.size + m) ∧ r = .inr (none, { s with size := s.size + m })) ∨ (¬ (1 ≤ m ∧ In40 (s.size + m)) ∧ r = .inl 0)
  | .shorter m, r => (1 ≤ m ∧ In40 (s.size - m) ∧ (∀ z ∈ endsF s, z ≤ s.size - m) ∧ r = .inr (none, { s with size := s.size - m })) ∨ (1 ≤ m ∧ In40 (s.size - m) ∧ ¬ (∀ z ∈ endsF s, z ≤ s.size - m) ∧ r = .inl 6) ∨ (¬ (1 ≤ m ∧ In40 (s.size - m)) ∧ r = .inl 0)
def oV' : Option Int → V
  | none => .non
  | some z => .int z
def Aft (BK S : Addr) (N : Addr → Prop) (cz : Nat → Addr) (H : Hp) (b : Addr) (sts : List Sht) (here : Nat) (sv : V) (s : Sht) (Q : VK) (E : XK) : Nat ⊕ (Option Int × Sht) → Prop
  | .inl j => NoS H (cz j) E
  | .inr (o, s') => ∀ H' sv', Sam b H H' → BkAt BK S N H' b (sts.take (here + 1) ++ [s']) (here + 1) sv' .non → SvK sv sv' s s' → Q (oV' o) H'
/-- a book that can be asked for a deed -/
structure Bk0 (BK S : Addr) (N : Addr → Prop) (H : Hp) (b : Addr) (sts : List Sht) (here : Nat) (sv nv : V) (s : Sht) : Prop where
  at_ : BkAt BK S N H b sts here sv nv
  now : sts[here]? = some s
  na : NA N H
  ln : Lens s
  lt : sts.length ≤ 1000
def spDd (BK S : Addr) (cz : Nat → Addr) (mk : Addr → List V → Dd → Prop) : Sp := fun vs H Q E => ∃ (b : Addr) (N : Addr → Prop) (sts : List Sht) (here : Nat) (sv nv : V) (s : Sht) (d : Dd), mk b vs d ∧ Bk0 BK S N H b sts here sv nv s ∧ ∀ r, Stp s d r → Aft BK S N cz H b sts here sv s Q E r
def mSay (b : Addr) (vs : List V) (d : Dd) : Prop := ∃ y : Sy, vs = [.ref b, .int y.lo, .int y.hi, .int y.n, .bl y.t] ∧ d = .say y
def mUnsay (b : Addr) (vs : List V) (d : Dd) : Prop := ∃ n : Int, vs = [.ref b, .int n] ∧ d = .unsay n
def mAmend (b : Addr) (vs : List V) (d : Dd) : Prop := ∃ (n : Int) (y : Sy), vs = [.ref b, .int n, .int y.lo, .int y.hi, .int y.n, .bl y.t] ∧ d = .amend n y
def mRem (b : Addr) (vs : List V) (d : Dd) : Prop := ∃ (z : Str) (x m : Int), vs = [.ref b, .str z, .int x, .int m] ∧ z.length ≤ 1000 ∧ d = .rem z x m
def mForget (b : Addr) (vs : List V) (d : Dd) : Prop := ∃ n : Int, vs = [.ref b, .int n] ∧ d = .forget n
def mLonger (b : Addr) (vs : List V) (d : Dd) : Prop := ∃ n : Int, vs = [.ref b, .int n] ∧ d = .longer n
def mShorter (b : Addr) (vs : List V) (d : Dd) : Prop := ∃ n : Int, vs = [.ref b, .int n] ∧ d = .shorter n
def spBsheet (BK S : Addr) : Sp := fun vs H Q _ => ∃ (b : Addr) (N : Addr → Prop) (sts : List Sht) (here : Nat) (sv nv : V), vs = [.ref b] ∧ BkAt BK S N H b sts here sv nv ∧ ∀ p s, ShAt S N H (.ref p) s → sts[here]? = some s → Q (.ref p) H
def spBlen (BK S : Addr) : Sp := fun vs H Q _ => ∃ (b : Addr) (N : Addr → Prop) (sts : List Sht) (here : Nat) (sv nv : V), vs = [.ref b] ∧ BkAt BK S N H b sts here sv nv ∧ ∀ s, sts[here]? = some s → Q (.int s.size) H
def spBcom (BK S : Addr) : Sp := fun vs H Q _ => ∃ (b : Addr) (N : Addr → Prop) (sts : List Sht) (here : Nat) (sv nv : V), vs = [.ref b] ∧ BkAt BK S N H b sts here sv nv ∧ ∀ s, sts[here]? = some s → Q (.int s.coming) H
def spBsay (BK S : Addr) : Sp := fun vs H Q _ => ∃ (b : Addr) (N : Addr → Prop) (sts : List Sht) (here : Nat) (sv nv : V), vs = [.ref b] ∧ BkAt BK S N H b sts here sv nv ∧ ∀ s H' l xs, sts[here]? = some s → Same H H' → H l = none → H' l = some (.lst xs) → RL H' xs s.said → Q (.ref l) H'
def spBmem (BK S : Addr) : Sp := fun vs H Q _ => ∃ (b : Addr) (N : Addr → Prop) (sts : List Sht) (here : Nat) (sv nv : V), vs = [.ref b] ∧ BkAt BK S N H b sts here sv nv ∧ ∀ s H' l xs, sts[here]? = some s → Same H H' → H l = none → H' l = some (.lst xs) → ML H' xs s.noted → Q (.ref l) H'
def spBundb (BK S : Addr) : Sp := fun vs H Q _ => ∃ (b : Addr) (N : Addr → Prop) (sts : List Sht) (here : Nat) (sv nv : V), vs = [.ref b] ∧ BkAt BK S N H b sts here sv nv ∧ Q (.int (here : Int)) H
def spBredb (BK S : Addr) : Sp := fun vs H Q _ => ∃ (b : Addr) (N : Addr → Prop) (sts : List Sht) (here : Nat) (sv nv : V), vs = [.ref b] ∧ BkAt BK S N H b sts here sv nv ∧ Q (.int ((sts.length : Int) - 1 - (here : Int))) H
def spBturn (BK S : Addr) : Sp := fun vs H Q _ => ∃ (b : Addr) (N : Addr → Prop) (sts : List Sht) (here here' : Nat) (by_ : Int) (sv nv : V), vs = [.ref b, .int by_] ∧ BkAt BK S N H b sts here sv nv ∧ (here : Int) + by_ = (here' : Int) ∧ here' < sts.length ∧ ∀ s s' H' sv', sts[here]? = some s → sts[here']? = some s' → Sam b H H' → BkAt BK S N H' b sts here' sv' .non → SvK sv sv' s s' → Q .non H'
def spBgoon (BK S : Addr) : Sp := fun vs H Q _ => ∃ (b p : Addr) (N : Addr → Prop) (sts : List Sht) (here : Nat) (sv nv : V) (s' : Sht), vs = [.ref b, .ref p] ∧ BkAt BK S N H b sts here sv nv ∧ ShAt S N H (.ref p) s' ∧ NA N H ∧ sts.length ≤ 1000 ∧ ∀ s H' sv', sts[here]? = some s → Sam b H H' → BkAt BK S N H' b (sts.take (here + 1) ++ [s']) (here + 1) sv' .non → SvK sv sv' s s' → Q .non H'
def spBundo (BK S : Addr) (cz : Nat → Addr) : Sp := fun vs H Q E => ∃ (b : Addr) (N : Addr → Prop) (sts : List Sht) (here : Nat) (sv nv : V), vs = [.ref b] ∧ BkAt BK S N H b sts here sv nv ∧ (∀ h', here = h' + 1 → ∀ s s' H' sv', sts[here]? = some s → sts[h']? = some s' → Sam b H H' → BkAt BK S N H' b sts h' sv' .non → SvK sv sv' s s' → Q .non H') ∧ (here = 0 → NoS H (cz 7) E)
def spBredo (BK S : Addr) (cz : Nat → Addr) : Sp := fun vs H Q E => ∃ (b : Addr) (N : Addr → Prop) (sts : List Sht) (here : Nat) (sv nv : V), vs = [.ref b] ∧ BkAt BK S N H b sts here sv nv ∧ (here + 1 < sts.length → ∀ s s' H' sv', sts[here]? = some s → sts[here + 1]? = some s' → Sam b H H' → BkAt BK S N H' b sts (here + 1) sv' .non → SvK sv sv' s s' → Q .non H') ∧ (¬ here + 1 < sts.length → NoS H (cz 7) E)
def spBinit (BK S BL : Addr) : Sp := fun vs H Q E => ∃ (b dx : Addr) (N : Addr → Prop) (e : Int), vs = [.ref b, .int e] ∧ H b = some (.ins BK dx []) ∧ NA N H ∧ (In40 e → ∀ H', Sam b H H' → BkAt BK S N H' b [⟨e, 1, [], []⟩] 0 .non .non → Q .non H') ∧ (¬ In40 e → E (.ref BL) none H)
theorem scBinit : FnScope ["self", "length"] ["self", "length"] (defScope sBookInit) := ⟨rfl, rfl, rfl, by decide +kernel, rfl, by decide +kernel, by decide +kernel⟩
theorem scBsheet : FnScope ["self"] ["self"] (defScope sBookSheet) := ⟨rfl, rfl, rfl, by decide +kernel, rfl, by decide +kernel, by decide +kernel⟩
theorem scBlen : FnScope ["self"] ["self"] (defScope sBookLength) := ⟨rfl, rfl, rfl, by decide +kernel, rfl, by decide +kernel, by decide +kernel⟩
theorem scBcom : FnScope ["self"] ["self"] (defScope sBookComing) := ⟨rfl, rfl, rfl, by decide +kernel, rfl, by decide +kernel, by decide +kernel⟩
theorem scBsay : FnScope ["self"] ["self"] (defScope sBookSayings) := ⟨rfl, rfl, rfl, by decide +kernel, rfl, by decide +kernel, by decide +kernel⟩
theorem scBmem : FnScope ["self"] ["self"] (defScope sBookMemories) := ⟨rfl, rfl, rfl, by decide +kernel, rfl, by decide +kernel, by decide +kernel⟩
theorem scBsayd : FnScope ["self", "one", "other", "many", "turned", "number"] ["self", "one", "other", "many", "turned"] (defScope sBookSay) := ⟨rfl, rfl, rfl, by decide +kernel, rfl, by decide +kernel, by decide +kernel⟩
theorem scBunsay : FnScope ["self", "number"] ["self", "number"] (defScope sBookUnsay) := ⟨rfl, rfl, rfl, by decide +kernel, rfl, by decide +kernel, by decide +kernel⟩
theorem scBamend : FnScope ["self", "number", "one", "other", "many", "turned"] ["self", "number", "one", "other", "many", "turned"] (defScope sBookAmend) := ⟨rfl, rfl, rfl, by decide +kernel, rfl, by decide +kernel, by decide +kernel⟩
theorem scBrem : FnScope ["self", "letter", "at", "many", "number"] ["self", "letter", "at", "many"] (defScope sBookRemember) := ⟨rfl, rfl, rfl, by decide +kernel, rfl, by decide +kernel, by decide +kernel⟩
theorem scBforg : FnScope ["self", "number"] ["self", "number"] (defScope sBookForget) := ⟨rfl, rfl, rfl, by decide +kernel, rfl, by decide +kernel, by decide +kernel⟩
theorem scBlon : FnScope ["self", "many"] ["self", "many"] (defScope sBookLengthen) := ⟨rfl, rfl, rfl, by decide +kernel, rfl, by decide +kernel, by decide +kernel⟩
theorem scBsho : FnScope ["self", "many"] ["self", "many"] (defScope sBookShorten) := ⟨rfl, rfl, rfl, by decide +kernel, rfl, by decide +kernel, by decide +kernel⟩
theorem scBgoon : FnScope ["self", "sheet"] ["self", "sheet"] (defScope sBookGo_on) := ⟨rfl, rfl, rfl, by decide +kernel, rfl, by decide +kernel, by decide +kernel⟩
theorem scBturn : FnScope ["self", "by", "old", "new"] ["self", "by"] (defScope sBookTurn) := ⟨rfl, rfl, rfl, by decide +kernel, rfl, by decide +kernel, by decide +kernel⟩
theorem scBundo : FnScope ["self"] ["self"] (defScope sBookUndo) := ⟨rfl, rfl, rfl, by decide +kernel, rfl, by decide +kernel, by decide +kernel⟩
theorem scBredo : FnScope ["self"] ["self"] (defScope sBookRedo) := ⟨rfl, rfl, rfl, by decide +kernel, rfl, by decide +kernel, by decide +kernel⟩
theorem scBundb : FnScope ["self"] ["self"] (defScope sBookUndoable) := ⟨rfl, rfl, rfl, by decide +kernel, rfl, by decide +kernel, by decide +kernel⟩
theorem scBredb : FnScope ["self"] ["self"] (defScope sBookRedoable) := ⟨rfl, rfl, rfl, by decide +kernel, rfl, by decide +kernel, by decide +kernel⟩
structure TxB (K : PySem.W.Frag) (mg : Str → Option Value) (BK S : Addr) : Prop extends TxS K S where
  clB : Cls K BK
  nsh : NoAttr K BK "sheets"
  nhe : NoAttr K BK "here"
  nso : NoAttr K BK "song"
  nno : NoAttr K BK "notes"
  ne : BK ≠ S
  mL : mg "list" = none
  ml : mg "len" = none
structure TB1 (Pg : Program) (w : World) (K : PySem.W.Frag) (mg : Str → Option Value) (base : Heap) (BK S : Addr) (fbs : Addr) (fdbs : FuncData) : Prop extends TxB K mg BK S where
  mbs : Meth K BK "sheet" fbs
  gbs : FnOk Pg w K mg base CX0 7 fbs fdbs ["self"] (spBsheet BK S)
  bbs : Binds K fdbs ["self"] []
structure TB2 (Pg : Program) (w : World) (K : PySem.W.Frag) (mg : Str → Option Value) (base : Heap) (BK S : Addr) (cz : Nat → Addr) (fbs fbc fbo fbt fbu fbr f1 f2 f3 f4 f5 f6 f8 f9 : Addr) (fdbs fdbc fdbo fdbt fdbu fdbr fd1 fd2 fd3 fd4 fd5 fd6 fd8 fd9 : FuncData) : Prop extends TB1 Pg w K mg base BK S fbs fdbs where
  mbc : Meth K BK "coming" fbc
  gbc : FnOk Pg w K mg base CX0 8 fbc fdbc ["self"] (spBcom BK S)
  bbc : Binds K fdbc ["self"] []
  mbo : Meth K BK "go_on" fbo
  gbo : FnOk Pg w K mg base CX0 9 fbo fdbo ["self", "sheet"] (spBgoon BK S)
  bbo : Binds K fdbo ["self", "sheet"] []
  mbt : Meth K BK "turn" fbt
  gbt : FnOk Pg w K mg base CX0 8 fbt fdbt ["self", "by"] (spBturn BK S)
  bbt : Binds K fdbt ["self", "by"] []
  mbu : Meth K BK "undoable" fbu
  gbu : FnOk Pg w K mg base CX0 7 fbu fdbu ["self"] (spBundb BK S)
  bbu : Binds K fdbu ["self"] []
  mbr : Meth K BK "redoable" fbr
  gbr : FnOk Pg w K mg base CX0 7 fbr fdbr ["self"] (spBredb BK S)
  bbr : Binds K fdbr ["self"] []
  m1 : Meth K S "with_saying" f1
  g1 : FnOk Pg w K mg base (L2N.CX Pg w) 9 f1 fd1 ["self", "row"] (spShws S (cz 1) (cz 5))
  b1 : Binds K fd1 ["self", "row"] []
  m2 : Meth K S "with_memory" f2
  g2 : FnOk Pg w K mg base (L2N.CX Pg w) 9 f2 fd2 ["self", "row"] (spShwm S (cz 4) (cz 1) (cz 5))
  b2 : Binds K fd2 ["self", "row"] []
  m3 : Meth K S "counted_on" f3
  g3 : FnOk Pg w K mg base CX0 9 f3 fd3 ["self"] (spShco S)
  b3 : Binds K fd3 ["self"] []
  m4 : Meth K S "without_saying" f4
  g4 : FnOk Pg w K mg base (L2N.CX Pg w) 9 f4 fd4 ["self", "number"] (spShos S (cz 3))
  b4 : Binds K fd4 ["self", "number"] []
  m5 : Meth K S "without_memory" f5
  g5 : FnOk Pg w K mg base (L2N.CX Pg w) 9 f5 fd5 ["self", "number"] (spShom S (cz 3))
  b5 : Binds K fd5 ["self", "number"] []
  m6 : Meth K S "amended" f6
  g6 : FnOk Pg w K mg base (L2N.CX Pg w) 9 f6 fd6 ["self", "row"] (spSham S (cz 3) (cz 1))
  b6 : Binds K fd6 ["self", "row"] []
  m8 : Meth K S "lengthened" f8
  g8 : FnOk Pg w K mg base (L2N.CX Pg w) 10 f8 fd8 ["self", "many"] (spShle S (cz 0))
  b8 : Binds K fd8 ["self", "many"] []
  m9 : Meth K S "shortened" f9
  g9 : FnOk Pg w K mg base (L2N.CX Pg w) 10 f9 fd9 ["self", "many"] (spShsh S (cz 0) (cz 6))
  b9 : Binds K fd9 ["self", "many"] []
  xNL : ExT K mg "NothingLeft" (cz 7)
section
variable {Pg : Program} {w : World} {K : PySem.W.Frag} {mg : Str → Option Value} {base : Heap} {BK S : Addr} {cz : Nat → Addr} {fbs fbc fbo fbt fbu fbr f1 f2 f3 f4 f5 f6 f8 f9 : Addr} {fdbs fdbc fdbo fdbt fdbu fdbr fd1 fd2 fd3 fd4 fd5 fd6 fd8 fd9 : FuncData}
theorem ok_bsheet {f : Addr} {fd : FuncData} {k : Nat} (F : Fun K "sheet" "Book.sheet" sBookSheet f fd) (X : TxB K mg BK S) : FnOk Pg w K mg base CX0 (k + 1) f fd ["self"] (spBsheet BK S) := by
  refine F.ok scBsheet (fun vs H Q E h => ?_) (fun cdv A outer s H vs Q E hr h => ?_)
  · obtain ⟨b, N, sts, here, sv, nv, rfl, _⟩ := h; rfl
  obtain ⟨b, N, sts, here, sv, nv, rfl, bk, q⟩ := h
  refine ⟨_, (pss_one (ps_ret (pe_ix ix_list (pe_fld (pv 0) rfl) (pe_fld (pv 0) rfl) (fun _ _ => rfl)))), ?_⟩
  obtain ⟨dx, l, vs, h1, h2, h3, h4, h5⟩ := bk.ex
  obtain ⟨v, hv, sh⟩ := h3.get' (List.getElem?_eq_getElem h5)
  obtain ⟨p, _, _, _, _, _, rfl, _⟩ := id sh.ex
  refine ⟨.ref b, rfl, b, BK, dx, _, .ref l, rfl, h1, X.clB, X.nsh, fldB_sheets _ _ _ _, .ref b, rfl, b, BK, dx, _, .int (here : Int), rfl, h1, X.clB, X.nhe, fldB_here _ _ _ _, l, vs, _, .ref p, rfl, rfl, .inl (.inl h2), ?_, q p _ sh (List.getElem?_eq_getElem h5)⟩
  rw [atI_eq]; exact hv
theorem ok_blen {f : Addr} {fd : FuncData} (F : Fun K "length" "Book.length" sBookLength f fd) (T : TB1 Pg w K mg base BK S fbs fdbs) : FnOk Pg w K mg base CX0 8 f fd ["self"] (spBlen BK S) := by
  refine F.ok scBlen (fun vs H Q E h => ?_) (fun cdv A outer s H vs Q E hr h => ?_)
  · obtain ⟨b, N, sts, here, sv, nv, rfl, _⟩ := h; rfl
  obtain ⟨b, N, sts, here, sv, nv, rfl, bk, q⟩ := h
  have r7 : Room 7 _ := hr
  refine ⟨_, (pss_one (ps_ret (pe_fld (pe_meth0 (pv 0) T.clB T.mbs T.gbs r7 T.bbs .nil pass0) rfl))), ?_⟩
  obtain ⟨dx, fs, hi, hn⟩ := bk.ins (m := "sheet") (by decide +kernel)
  refine ⟨.ref b, rfl, b, dx, _, rfl, hi, hn, b, N, sts, here, sv, nv, rfl, bk, fun p s_ sh hs => ?_⟩
  obtain ⟨_, dx, sa, na, xs, ys, e0, h2, h3, h4, h5, h6, h7, h8⟩ := sh.ex
  cases e0
  exact ⟨p, S, dx, _, .int s_.size, rfl, h2, T.clS, T.nz, fldS_size _ _ _ _, q s_ hs⟩
theorem ok_bcom {f : Addr} {fd : FuncData} (F : Fun K "coming" "Book.coming" sBookComing f fd) (T : TB1 Pg w K mg base BK S fbs fdbs) : FnOk Pg w K mg base CX0 8 f fd ["self"] (spBcom BK S) := by
  refine F.ok scBcom (fun vs H Q E h => ?_) (fun cdv A outer s H vs Q E hr h => ?_)
  · obtain ⟨b, N, sts, here, sv, nv, rfl, _⟩ := h; rfl
  obtain ⟨b, N, sts, here, sv, nv, rfl, bk, q⟩ := h
  have r7 : Room 7 _ := hr
  refine ⟨_, (pss_one (ps_ret (pe_fld (pe_meth0 (pv 0) T.clB T.mbs T.gbs r7 T.bbs .nil pass0) rfl))), ?_⟩
  obtain ⟨dx, fs, hi, hn⟩ := bk.ins (m := "sheet") (by decide +kernel)
  refine ⟨.ref b, rfl, b, dx, _, rfl, hi, hn, b, N, sts, here, sv, nv, rfl, bk, fun p s_ sh hs => ?_⟩
  obtain ⟨_, dx, sa, na, xs, ys, e0, h2, h3, h4, h5, h6, h7, h8⟩ := sh.ex
  cases e0
  exact ⟨p, S, dx, _, .int s_.coming, rfl, h2, T.clS, T.nu, fldS_up _ _ _ _, q s_ hs⟩
theorem ok_bsay {f : Addr} {fd : FuncData} (F : Fun K "sayings" "Book.sayings" sBookSayings f fd) (T : TB1 Pg w K mg base BK S fbs fdbs) : FnOk Pg w K mg base CX0 8 f fd ["self"] (spBsay BK S) := by
  refine F.ok scBsay (fun vs H Q E h => ?_) (fun cdv A outer s H vs Q E hr h => ?_)
  · obtain ⟨b, N, sts, here, sv, nv, rfl, _⟩ := h; rfl
  obtain ⟨b, N, sts, here, sv, nv, rfl, bk, q⟩ := h
  have r7 : Room 7 _ := hr
  refine ⟨_, (pss_one (ps_ret (pe_callTy call_list_of (by rfl) T.mL PyProof.Rows.boot_list (pa_cons (pe_fld (pe_meth0 (pv 0) T.clB T.mbs T.gbs r7 T.bbs .nil pass0) rfl) pa_nil)))), ?_⟩
  obtain ⟨dx, fs, hi, hn⟩ := bk.ins (m := "sheet") (by decide +kernel)
  refine ⟨.ref b, rfl, b, dx, _, rfl, hi, hn, b, N, sts, here, sv, nv, rfl, bk, fun p s_ sh hs => ?_⟩
  obtain ⟨_, dx, sa, na, xs, ys, e0, h2, h3, h4, h5, h6, h7, h8⟩ := sh.ex
  cases e0
  refine ⟨p, S, dx, _, .ref sa, rfl, h2, T.clS, T.ns, fldS_said _ _ _ _, sa, xs, rfl, .inl (.inl (.inl h3)), ?_⟩
  intro l1 n_l1
  generalize e_l1 : upd H l1 _ = H1
  have s1 := new_same e_l1 n_l1
  have z1 := new_at e_l1
  clear e_l1
  exact q s_ H1 l1 xs hs s1 n_l1 z1 (RL.ts (TS.of s1) h4)
theorem ok_bmem {f : Addr} {fd : FuncData} (F : Fun K "memories" "Book.memories" sBookMemories f fd) (T : TB1 Pg w K mg base BK S fbs fdbs) : FnOk Pg w K mg base CX0 8 f fd ["self"] (spBmem BK S) := by
  refine F.ok scBmem (fun vs H Q E h => ?_) (fun cdv A outer s H vs Q E hr h => ?_)
  · obtain ⟨b, N, sts, here, sv, nv, rfl, _⟩ := h; rfl
  obtain ⟨b, N, sts, here, sv, nv, rfl, bk, q⟩ := h
  have r7 : Room 7 _ := hr
  refine ⟨_, (pss_one (ps_ret (pe_callTy call_list_of (by rfl) T.mL PyProof.Rows.boot_list (pa_cons (pe_fld (pe_meth0 (pv 0) T.clB T.mbs T.gbs r7 T.bbs .nil pass0) rfl) pa_nil)))), ?_⟩
  obtain ⟨dx, fs, hi, hn⟩ := bk.ins (m := "sheet") (by decide +kernel)
  refine ⟨.ref b, rfl, b, dx, _, rfl, hi, hn, b, N, sts, here, sv, nv, rfl, bk, fun p s_ sh hs => ?_⟩
  obtain ⟨_, dx, sa, na, xs, ys, e0, h2, h3, h4, h5, h6, h7, h8⟩ := sh.ex
  cases e0
  refine ⟨p, S, dx, _, .ref na, rfl, h2, T.clS, T.nn, fldS_noted _ _ _ _, na, ys, rfl, .inl (.inl (.inl h5)), ?_⟩
  intro l1 n_l1
  generalize e_l1 : upd H l1 _ = H1
  have s1 := new_same e_l1 n_l1
  have z1 := new_at e_l1
  clear e_l1
  exact q s_ H1 l1 ys hs s1 n_l1 z1 (ML.ts (TS.of s1) h6)
theorem ok_bundb {f : Addr} {fd : FuncData} {k : Nat} (F : Fun K "undoable" "Book.undoable" sBookUndoable f fd) (X : TxB K mg BK S) : FnOk Pg w K mg base CX0 (k + 1) f fd ["self"] (spBundb BK S) := by
  refine F.ok scBundb (fun vs H Q E h => ?_) (fun cdv A outer s H vs Q E hr h => ?_)
  · obtain ⟨b, N, sts, here, sv, nv, rfl, _⟩ := h; rfl
  obtain ⟨b, N, sts, here, sv, nv, rfl, bk, q⟩ := h
  refine ⟨_, (pss_one (ps_ret (pe_fld (pv 0) rfl))), ?_⟩
  obtain ⟨dx, l, vs, h1, h2, h3, h4, h5⟩ := bk.ex
  exact ⟨.ref b, rfl, b, BK, dx, _, .int (here : Int), rfl, h1, X.clB, X.nhe, fldB_here _ _ _ _, q⟩
theorem ok_bredb {f : Addr} {fd : FuncData} {k : Nat} (F : Fun K "redoable" "Book.redoable" sBookRedoable f fd) (T : TxB K mg BK S) : FnOk Pg w K mg base CX0 (k + 1) f fd ["self"] (spBredb BK S) := by
  refine F.ok scBredb (fun vs H Q E h => ?_) (fun cdv A outer s H vs Q E hr h => ?_)
  · obtain ⟨b, N, sts, here, sv, nv, rfl, _⟩ := h; rfl
  obtain ⟨b, N, sts, here, sv, nv, rfl, bk, q⟩ := h
  refine ⟨_, (pss_one (ps_ret (pe_op op_sub (pe_op op_sub (pe_callB call_len_seq (by rfl) T.ml PySem.boot_len (pa_cons (pe_fld (pv 0) rfl) pa_nil)) pe_int) (pe_fld (pv 0) rfl)))), ?_⟩
  obtain ⟨dx, l, vs, h1, h2, h3, h4, h5⟩ := bk.ex
  refine ⟨.ref b, rfl, b, BK, dx, _, .ref l, rfl, h1, T.clB, T.nsh, fldB_sheets _ _ _ _, l, vs, rfl, .inl (.inl (.inl h2)), _, _, rfl, rfl, .ref b, rfl, b, BK, dx, _, .int (here : Int), rfl, h1, T.clB, T.nhe, fldB_here _ _ _ _, _, _, rfl, rfl, ?_⟩
  rw [h3.len]; exact q
theorem ok_bturn {f : Addr} {fd : FuncData} (F : Fun K "turn" "Book.turn" sBookTurn f fd) (T : TB1 Pg w K mg base BK S fbs fdbs) : FnOk Pg w K mg base CX0 8 f fd ["self", "by"] (spBturn BK S) := by
  refine F.ok scBturn (fun vs H Q E h => ?_) (fun cdv A outer s H vs Q E hr h => ?_)
  · obtain ⟨b, N, sts, here, here', by_, sv, nv, rfl, _⟩ := h; rfl
  obtain ⟨b, N, sts, here, here', by_, sv, nv, rfl, bk, eb, hl, q⟩ := h
  have r7 : Room 7 _ := hr
  refine ⟨_, (pss_cons (ps_set (i := 2) scBturn.nd rfl (.inl rfl) (pe_meth0 (pv 0) T.clB T.mbs T.gbs r7 T.bbs .nil pass0))
    (pss_cons (ps_fldaug (pv 0) (pv 1) in_add)
    (pss_cons (ps_set (i := 3) scBturn.nd rfl (.inl rfl) (pe_meth0 (pv 0) T.clB T.mbs T.gbs r7 T.bbs .nil pass0))
    (pss_cons (ps_if (PW.pt (pw_or (pt_cmpR op_ne (pe_fld (pv 2) rfl) (pe_fld (pv 3) rfl) (nomark _)) (pw_or1 (pt_cmpR (op_neD hr.units) (pe_fld (pv 2) rfl) (pe_fld (pv 3) rfl) (nomark _))))) (pss_one (ps_fld (pv 0) pe_non rfl)) pss_nil)
    (pss_one (ps_fld (pv 0) pe_non rfl)))))), ?_⟩
  obtain ⟨dx0, fs0, hi, hn⟩ := bk.ins (m := "sheet") (by decide +kernel)
  refine ⟨.ref b, rfl, b, dx0, _, rfl, hi, hn, b, N, sts, here, sv, nv, rfl, bk, fun p s_ sh hs => ?_⟩
  obtain ⟨dx, l, vs, h1, h2, h3, h4, h5⟩ := bk.ex
  refine ⟨.ref b, rfl, b, BK, dx, _, .int (here : Int), rfl, h1, T.clB, T.nhe, fldB_here _ _ _ _, .int by_, rfl, _, _, rfl, rfl, dx, _, h1, fldB_len _ _ _ _, ?_⟩
  rw [eb, putB_here]
  have s0 : Sam b H H := fun b o e _ => e
  have sm1 : Sam b H (upd H b (.ins BK dx (fldB l (here' : Int) sv nv))) := s0.upd
  have hb1 : upd H b (.ins BK dx (fldB l (here' : Int) sv nv)) b = some (.ins BK dx (fldB l (here' : Int) sv nv)) := upd_same
  generalize upd H b (.ins BK dx (fldB l (here' : Int) sv nv)) = H1 at sm1 hb1 ⊢
  have kp1 : Kp S N H H1 := .sam sm1 h1 T.ne
  have nlb : l ≠ b := fun z => by rw [z, h1] at h2; cases h2
  have bk1 : BkAt BK S N H1 b sts here' sv nv := ⟨dx, l, vs, hb1, sm1 _ _ h2 nlb, h3.imp fun _ _ z => z.kp kp1, h4, hl⟩
  refine ⟨.ref b, rfl, b, dx, _, rfl, hb1, fldB_no _ _ _ _ (by decide +kernel), b, N, sts, here', sv, nv, rfl, bk1, fun p' s' sh' hs' => ?_⟩
  have shp := sh.kp kp1
  obtain ⟨_, da, sa, na, xs, ys, e0, a2, a3, a4, a5, a6, a7, a8⟩ := shp.ex
  cases e0
  obtain ⟨_, dc, sc, nc, xc, yc, e0, c2, c3, c4, c5, c6, c7, c8⟩ := sh'.ex
  cases e0
  have fin : ∀ (Hx : Hp) (sx : V), Sam b H Hx → Hx b = some (.ins BK dx (fldB l (here' : Int) sx nv)) → SvK sv sx s_ s' → Q .non (upd Hx b (.ins BK dx (fldB l (here' : Int) sx .non))) := fun Hx sx smx hbx hk => by
    have kpx : Kp S N H (upd Hx b (.ins BK dx (fldB l (here' : Int) sx .non))) := .sam smx.upd h1 T.ne
    exact q s_ s' _ sx hs hs' smx.upd ⟨dx, l, vs, upd_same, smx.upd _ _ h2 nlb, h3.imp fun _ _ z => z.kp kpx, h4, hl⟩ hk
  refine ⟨.ref p, rfl, p, S, da, _, .int s_.size, rfl, a2, T.clS, T.nz, fldS_size _ _ _ _, .ref p', rfl, p', S, dc, _, .int s'.size, rfl, c2, T.clS, T.nz, fldS_size _ _ _ _, rfl, _, rfl, ite2 (fun c => ?_) (fun c => ?_)⟩
  · refine iteT ?_
    refine ⟨.ref b, rfl, b, BK, dx, _, rfl, hb1, T.clB, T.nso, fldB_len _ _ _ _, ?_⟩
    rw [putB_song]
    refine ⟨.ref b, rfl, b, BK, dx, _, rfl, upd_same, T.clB, T.nno, fldB_len _ _ _ _, ?_⟩
    rw [putB_notes]
    exact fin _ .non sm1.upd upd_same (.inl rfl)
  · have c : s_.size = s'.size := by
      by_cases z : s_.size = s'.size
      · exact z
      · exact absurd (show (!decide (V.int s_.size = V.int s'.size)) = true by rw [decide_eq_false fun y => z (V.int.inj y)]; rfl) c
    refine ⟨.ref p, rfl, p, S, da, _, .ref sa, rfl, a2, T.clS, T.ns, fldS_said _ _ _ _, .ref p', rfl, p', S, dc, _, .ref sc, rfl, c2, T.clS, T.ns, fldS_said _ _ _ _, _, _, .lst (.inl (.inl a3)) (dpAll_rw a4), .lst (.inl (.inl c3)) (dpAll_rw c4), shapedRw _, shapedRw _, _, rfl, ite2 (fun d => ?_) (fun d => ?_)⟩
    · refine ⟨.ref b, rfl, b, BK, dx, _, rfl, hb1, T.clB, T.nso, fldB_len _ _ _ _, ?_⟩
      rw [putB_song]
      refine ⟨.ref b, rfl, b, BK, dx, _, rfl, upd_same, T.clB, T.nno, fldB_len _ _ _ _, ?_⟩
      rw [putB_notes]
      exact fin _ .non sm1.upd upd_same (.inl rfl)
    · refine ⟨.ref b, rfl, b, BK, dx, _, rfl, hb1, T.clB, T.nno, fldB_len _ _ _ _, ?_⟩
      rw [putB_notes]
      exact fin H1 sv sm1 hb1 (.inr ⟨rfl, c, by simpa using d⟩)
end
end Rep
namespace Rep
open PySem L2 L2H RepHot
/-! the book's deeds -/
theorem Sam.pre {b : Addr} {H H1 H2 : Hp} (s : Same H H1) (h : Sam b H1 H2) : Sam b H H2 := fun c o e n => h c o (s _ _ e) n
theorem Sam.trans {b : Addr} {H H1 H2 : Hp} (h : Sam b H H1) (k : Sam b H1 H2) : Sam b H H2 := fun c o e n => k c o (h c o e n) n
theorem ShAt.ins {S p : Addr} {N : Addr → Prop} {H : Hp} {s : Sht} (h : ShAt S N H (.ref p) s) {m : Str} (k : (m == "noted" || m == "said" || m == "upcoming" || m == "size") = false) : ∃ dx fs, H p = some (.ins S dx fs) ∧ fs.lookup m = none := by
  obtain ⟨_, dx, sa, na, xs, ys, e0, h2, _⟩ := h.ex
  cases e0
  exact ⟨dx, _, h2, fldS_no _ _ _ _ k⟩
theorem take_at {α : Type} {l : List α} {k : Nat} {a : α} (h : k < l.length) : (l.take (k + 1) ++ [a])[k]? = l[k]? ∧ (l.take (k + 1) ++ [a])[k + 1]? = some a ∧ (l.take (k + 1) ++ [a]).length = k + 2 := by
  have e : (l.take (k + 1)).length = k + 1 := by rw [List.length_take]; omega
  refine ⟨?_, ?_, ?_⟩
  · rw [List.getElem?_append_left (by omega), List.getElem?_take]; simp
  · rw [List.getElem?_append_right (by omega), e, Nat.sub_self]; rfl
  · rw [List.length_append, e]; rfl
structure TTurn (Pg : Program) (w : World) (K : PySem.W.Frag) (mg : Str → Option Value) (base : Heap) (BK S : Addr) (fbt : Addr) (fdbt : FuncData) : Prop where
  clB : Cls K BK
  mbt : Meth K BK "turn" fbt
  gbt : FnOk Pg w K mg base CX0 8 fbt fdbt ["self", "by"] (spBturn BK S)
  bbt : Binds K fdbt ["self", "by"] []
structure TBi (Pg : Program) (w : World) (K : PySem.W.Frag) (mg : Str → Option Value) (base : Heap) (S BL : Addr) (fCl fSh : Addr) (fdCl fdSh : FuncData) : Prop where
  gCl : FnOk Pg w K mg base (L2N.CX Pg w) 8 fCl fdCl ["length"] (spChklX BL)
  bCl : Binds K fdCl ["length"] []
  kCl : PySem.W.keepIn K (.ref fCl) = true
  mCl : mg "check_length" = some (.ref fCl)
  MSh : Mk K S fSh
  gSh : FnOk Pg w K mg base CX0 7 fSh fdSh nSinit (spSinit S)
  bSh : Binds K fdSh nSinit []
  mSh : mg "Sheet" = some (.ref S)
section
variable {Pg : Program} {w : World} {K : PySem.W.Frag} {mg : Str → Option Value} {base : Heap} {BK S : Addr} {cz : Nat → Addr} {fbs fbc fbo fbt fbu fbr f1 f2 f3 f4 f5 f6 f8 f9 : Addr} {fdbs fdbc fdbo fdbt fdbu fdbr fd1 fd2 fd3 fd4 fd5 fd6 fd8 fd9 : FuncData}
theorem ok_binit {f fCl fSh : Addr} {fd fdCl fdSh : FuncData} {BL : Addr} (F : Fun K "__init__" "Book.__init__" sBookInit f fd) (X : TxB K mg BK S) (T : TBi Pg w K mg base S BL fCl fSh fdCl fdSh) : FnOk Pg w K mg base (L2N.CX Pg w) 9 f fd ["self", "length"] (spBinit BK S BL) := by
  refine okN F scBinit (fun vs H Q E h => ?_) (fun cdv A outer s H vs Q E hr h => ?_)
  · obtain ⟨b, dx, N, e, rfl, _⟩ := h; rfl
  obtain ⟨b, dx, N, e, rfl, hb, na, q, qe⟩ := h
  have r8 : Room 8 _ := hr
  refine ⟨_, (pss_cons (ps_expr (pe_call T.gCl r8 (by rfl) T.mCl T.kCl T.bCl .nil (by exact L2N.passes_call (L2N.takes_of rfl rfl rfl rfl) (fun _ _ _ _ h => h)) (pa_cons (pv 1) pa_nil)))
    (pss_cons (ps_fld (pv 0) (pe_lst (pa_cons (pe_make T.MSh T.gSh r8 (by rfl) T.mSh T.bSh .nil pass0 (pa_cons (pv 1) (pa_cons pe_int (pa_cons (pe_lst pa_nil) (pa_cons (pe_lst pa_nil) pa_nil))))) pa_nil)) rfl)
    (pss_cons (ps_fld (pv 0) pe_int rfl)
    (pss_cons (ps_fld (pv 0) pe_non rfl)
    (pss_one (ps_fld (pv 0) pe_non rfl)))))), ?_⟩
  refine ⟨.int e, rfl, e, rfl, fun he => ?_, fun he => qe he⟩
  refine ⟨.int e, rfl, ?_⟩
  refine ⟨szN 0 rfl, fun l1 n_l1 => ?_⟩
  generalize e_l1 : upd H l1 _ = H1
  have s1 := new_same e_l1 n_l1
  have z1 := new_at e_l1
  clear e_l1
  refine ⟨szN 0 rfl, fun l2 n_l2 => ?_⟩
  generalize e_l2 : upd H1 l2 _ = H2
  have s2 := new_same e_l2 n_l2
  have z2 := new_at e_l2
  clear e_l2
  intro p dxp np ndx ne
  refine make_sh (N := N) (rs := []) (ms := []) (s2 _ _ z1) LL.nil z2 LL.nil (na.not n_l1) ((na.same s1).not n_l2) np ndx ne (fun H3 s3 sh3 => ?_)
  refine ⟨szN 1 rfl, fun l3 n_l3 => ?_⟩
  generalize e_l3 : upd H3 l3 _ = H4
  have s4 := new_same e_l3 n_l3
  have z4 := new_at e_l3
  clear e_l3
  have s14 := s1.trans (s2.trans (s3.trans s4))
  have hb4 := s14 _ _ hb
  refine ⟨.ref b, rfl, b, BK, dx, _, rfl, hb4, X.clB, X.nsh, (by show 0 < 1000; decide), ?_⟩
  refine ⟨.ref b, rfl, b, BK, dx, _, rfl, upd_same, X.clB, X.nhe, (by have := length_putF "sheets" (V.ref l3) []; exact Nat.lt_of_le_of_lt this (by decide)), ?_⟩
  refine ⟨.ref b, rfl, b, BK, dx, _, rfl, upd_same, X.clB, X.nso, ?_, ?_⟩
  · have h1 := length_putF "here" (V.int 0) (putF "sheets" (V.ref l3) [])
    have h2 := length_putF "sheets" (V.ref l3) []
    have h3 : ([] : List (Str × V)).length = 0 := rfl
    omega
  refine ⟨.ref b, rfl, b, BK, dx, _, rfl, upd_same, X.clB, X.nno, ?_, ?_⟩
  · have h0 := length_putF "song" V.non (putF "here" (V.int 0) (putF "sheets" (V.ref l3) []))
    have h1 := length_putF "here" (V.int 0) (putF "sheets" (V.ref l3) [])
    have h2 := length_putF "sheets" (V.ref l3) []
    have h3 : ([] : List (Str × V)).length = 0 := rfl
    omega
  rw [fldB_mk]
  have s0 : Sam b H4 H4 := fun b o e _ => e
  have sm := s0.upd (o := .ins BK dx (putF "sheets" (V.ref l3) [])) |>.upd (o := .ins BK dx (putF "here" (V.int 0) (putF "sheets" (V.ref l3) []))) |>.upd (o := .ins BK dx (putF "song" V.non (putF "here" (V.int 0) (putF "sheets" (V.ref l3) [])))) |>.upd (o := .ins BK dx (fldB l3 0 .non .non))
  have kp := Kp.sam (S := S) (N := N) sm hb4 X.ne
  have n3 : l3 ≠ b := fun z => by rw [z, hb4] at z4; cases z4
  exact q he _ (Sam.pre s14 sm) ⟨dx, l3, _, upd_same, sm _ _ z4 n3, LL.one ((sh3.same s4).kp kp), (na.same (s1.trans (s2.trans s3))).not n_l3, Nat.zero_lt_one⟩
end
end Rep
namespace Rep
open PySem L2 L2H RepHot
/-! the law's own book: a state is a tuple, a deed is a tuple -/
structure StAt (N : Addr → Prop) (H : Hp) (v : V) (s : Sht) : Prop where
  ex : ∃ (t la lb : Addr) (xs ys : List V), v = .ref t ∧ H t = some (.tup [.int s.size, .int s.coming, .ref la, .ref lb]) ∧ H la = some (.lst xs) ∧ RL H xs s.said ∧ H lb = some (.lst ys) ∧ ML H ys s.noted ∧ ¬ N la ∧ ¬ N lb
theorem StAt.kp {S : Addr} {N : Addr → Prop} {H H' : Hp} {v : V} {s : Sht} (h : StAt N H v s) (k : Kp S N H H') : StAt N H' v s := by
  obtain ⟨t, la, lb, xs, ys, h1, h2, h3, h4, h5, h6, h7, h8⟩ := h.ex
  exact ⟨t, la, lb, xs, ys, h1, k _ _ h2 trivial, k _ _ h3 h7, RL.ts k.ts h4, k _ _ h5 h8, ML.ts k.ts h6, h7, h8⟩
theorem StAt.same {N : Addr → Prop} {H H' : Hp} {v : V} {s : Sht} (h : StAt N H v s) (k : Same H H') : StAt N H' v s := h.kp (S := 0) (.of k)
theorem StAt.more {N M : Addr → Prop} {H : Hp} {v : V} {s : Sht} (h : StAt N H v s) (k : ∀ a xs, M a → H a = some (.lst xs) → N a) : StAt M H v s := by
  obtain ⟨t, la, lb, xs, ys, h1, h2, h3, h4, h5, h6, h7, h8⟩ := h.ex
  exact ⟨t, la, lb, xs, ys, h1, h2, h3, h4, h5, h6, fun z => h7 (k _ _ z h3), fun z => h8 (k _ _ z h5)⟩
inductive De where
  | dd (d : Dd) | undo | redo
def ddV : Dd → List V
  | .say y => [.str "say", .int y.lo, .int y.hi, .int y.n, .bl y.t]
  | .unsay n => [.str "unsay", .int n]
  | .amend n y => [.str "amend", .int n, .int y.lo, .int y.hi, .int y.n, .bl y.t]
  | .rem z x m => [.str "remember", .str z, .int x, .int m]
  | .forget n => [.str "forget", .int n]
  | .longer m => [.str "lengthen", .int m]
  | .shorter m => [.str "shorten", .int m]
def deV : De → List V
  | .dd d => ddV d
  | .undo => [.str "undo"]
  | .redo => [.str "redo"]
def DeAt (H : Hp) (v : V) (d : De) : Prop := ∃ t, v = .ref t ∧ H t = some (.tup (deV d))
theorem DeAt.ts {H H' : Hp} (h : TS H H') {v : V} {d : De} (k : DeAt H v d) : DeAt H' v d := by obtain ⟨t, e, ht⟩ := k; exact ⟨t, e, h _ _ ht⟩
def ddOk : Dd → Prop
  | .rem z _ _ => z.length ≤ 1000
  | _ => True
/-- what a sheet is -/
structure Wf (s : Sht) : Prop where
  r1 : (s.said.map Rw.num).Pairwise (· < ·)
  r2 : (s.noted.map Me.num).Pairwise (· < ·)
  c1 : ∀ r ∈ s.said, r.num < s.coming
  c2 : ∀ m ∈ s.noted, m.num < s.coming
  l1 : s.said.length ≤ 24
  l2 : s.noted.length ≤ 24
  lt : ∀ m ∈ s.noted, Ltr m.lt
  e : In40 s.size
theorem Wf.lens {s : Sht} (h : Wf s) : Lens s := ⟨by have := h.l1; omega, by have := h.l2; omega⟩
theorem filter_erase {α : Type} (f : α → Int) {n : Int} : ∀ {l : List α} {k : Nat}, (l.map f).Pairwise (· < ·) → Fst (l.map f) n k → l.filter (fun r => !decide (f r = n)) = l.eraseIdx k
  | [], k, _, h => by have := h.1; simp at this
  | a :: r, 0, p, h => by
    have e : f a = n := by have := h.1; simpa using this
    rw [List.filter_cons_of_neg (by simp [e]), List.filter_eq_self.mpr fun b hb => ?_]
    · rfl
    · have := (List.pairwise_cons.mp p).1 (f b) (List.mem_map_of_mem hb)
      simp; omega
  | a :: r, k + 1, p, h => by
    have e : ¬ f a = n := fun z => h.2 0 (by omega) (by simp [z])
    rw [List.filter_cons_of_pos (by simp [e]), List.eraseIdx_cons_succ, filter_erase f (List.pairwise_cons.mp p).2 ⟨h.1, fun j hj => h.2 (j + 1) (by omega)⟩]
theorem map_set {α : Type} (f : α → Int) {n : Int} {b : α} : ∀ {l : List α} {k : Nat}, (l.map f).Pairwise (· < ·) → Fst (l.map f) n k → l.map (fun r => if f r = n then b else r) = l.set k b
  | [], k, _, h => by have := h.1; simp at this
  | a :: r, 0, p, h => by
    have e : f a = n := by have := h.1; simpa using this
    rw [List.map_cons, if_pos e, List.set_cons_zero]
    congr 1
    rw [show r = r.map id by rw [List.map_id]]
    rw [List.map_map]
    refine List.map_congr_left fun c hc => ?_
    have := (List.pairwise_cons.mp p).1 (f c) (List.mem_map_of_mem hc)
    show (if f c = n then b else c) = c
    rw [if_neg (by omega)]
  | a :: r, k + 1, p, h => by
    have e : ¬ f a = n := fun z => h.2 0 (by omega) (by simp [z])
    rw [List.map_cons, if_neg e, List.set_cons_succ, map_set f (List.pairwise_cons.mp p).2 ⟨h.1, fun j hj => h.2 (j + 1) (by omega)⟩]
theorem fst_of {ns : List Int} {n : Int} (h : n ∈ ns) : ∃ k, Fst ns n k := by
  induction ns with
  | nil => cases h
  | cons a r ih =>
    by_cases e : a = n
    · exact ⟨0, by rw [e]; rfl, fun j hj => absurd hj (Nat.not_lt_zero _)⟩
    · obtain ⟨k, h1, h2⟩ := ih ((List.mem_cons.mp h).resolve_left fun z => e z.symm)
      refine ⟨k + 1, h1, fun j hj => ?_⟩
      cases j with
      | zero => exact fun z => e (by simpa using z)
      | succ j => exact h2 j (by omega)
theorem Fst.mem {ns : List Int} {n : Int} {k : Nat} (h : Fst ns n k) : n ∈ ns := List.mem_of_getElem? h.1
theorem inV_int {n : Int} : ∀ {ns : List Int}, inV (.int n) (ns.map V.int) = decide (n ∈ ns)
  | [] => by simp [inV]
  | a :: r => by
    have ih := inV_int (n := n) (ns := r)
    unfold inV at *
    rw [List.map_cons, List.any_cons, ih]
    show ((a == n) || decide (n ∈ r)) = _
    by_cases e : a = n
    · simp [e]
    · have e' : ¬ n = a := fun z => e z.symm
      simp [e, e']
theorem flat_int : ∀ {ns : List Int}, (ns.map V.int).all flatV = true
  | [] => rfl
  | a :: r => by rw [List.map_cons, List.all_cons, flat_int (ns := r)]; rfl
theorem sT (a : Str) : V.bl (decide (V.str a = V.str a)) = V.bl true := by rw [decide_eq_true rfl]
theorem sF {a b : Str} (h : a ≠ b) : V.bl (decide (V.str a = V.str b)) = V.bl false := by rw [decide_eq_false (fun z => h (V.str.inj z))]
def w0 : Nat ⊕ (Option Int × Sht) → Str
  | .inl j => kinWord j
  | .inr _ => ""
def t0 : Nat ⊕ (Option Int × Sht) → V
  | .inl _ => .non
  | .inr (o, _) => oV' o
def s0 (s : Sht) : Nat ⊕ (Option Int × Sht) → Sht
  | .inl _ => s
  | .inr (_, s') => s'
def RnOk (N : Addr → Prop) (H : Hp) (s : Sht) (Q : VK) (r0 : Nat ⊕ (Option Int × Sht)) : Prop := ∀ H' t v', Same H H' → H' t = some (.tup [.str (w0 r0), t0 r0, v']) → StAt N H' v' (s0 s r0) → Q (.ref t) H'
def lenK : Dd → Bool
  | .longer _ => true
  | .shorter _ => true
  | _ => false
def spNx (lk : Bool) : Sp := fun vs H Q _ => ∃ (stv dv : V) (N : Addr → Prop) (s : Sht) (d : Dd), vs = [stv, dv] ∧ StAt N H stv s ∧ DeAt H dv (.dd d) ∧ ddOk d ∧ NA N H ∧ Wf s ∧ lenK d = lk ∧ ∀ r0, Stp s d r0 → RnOk N H s Q r0
def spGs : Sp := fun vs H Q _ => ∃ e x n : Int, vs = [.int e, .int x, .int n] ∧ Q (.bl (decide (St_ x n e))) H
def spNum : Sp := fun vs H Q _ => ∃ (a : Addr) (xs : List V) (ns : List Int), vs = [.ref a] ∧ H a = some (.lst xs) ∧ LL HdAt H xs ns ∧ ns.length ≤ 1000 ∧ ∀ H' l, Same H H' → H' l = some (.lst (ns.map V.int)) → Q (.ref l) H'
theorem scGs : FnScope ["_law_length", "_law_at", "_law_many"] ["_law_length", "_law_at", "_law_many"] (defScope s_law_good_stretch) := ⟨rfl, rfl, rfl, by decide +kernel, rfl, by decide +kernel, by decide +kernel⟩
abbrev nNum : List Str := ["_law_rows", "_law_row"]
theorem scNum : FnScope nNum ["_law_rows"] (defScope s_law_numbers) := ⟨rfl, rfl, rfl, by decide +kernel, rfl, by decide +kernel, by decide +kernel⟩
section
variable {Pg : Program} {w : World} {K : PySem.W.Frag} {mg : Str → Option Value} {base : Heap}
theorem ok_gs {f : Addr} {fd : FuncData} {k : Nat} (F : Fun K "_law_good_stretch" "_law_good_stretch" s_law_good_stretch f fd) : FnOk Pg w K mg base CX0 (k + 1) f fd ["_law_length", "_law_at", "_law_many"] spGs := by
  refine F.ok scGs (fun vs H Q E h => ?_) (fun cdv A outer s H vs Q E hr h => ?_)
  · obtain ⟨e, x, n, rfl, _⟩ := h; rfl
  obtain ⟨e, x, n, rfl, q⟩ := h
  refine ⟨_, (pss_one (ps_ret (pe_and (pe_cmpR op_gt (pv 2) pe_int (nomark _)) (pe_and (pe_cmpR op_le pe_int (pv 1) (nomark _)) (pe_one (pe_cmpR op_le (pe_op op_add (pv 1) (pv 2)) (pv 0) (nomark _))))))), ?_⟩
  by_cases h1 : 0 < n
  · refine ⟨.int n, rfl, _, _, rfl, rfl, true, (by show V.bl (decide (0 < n)) = _; rw [decide_eq_true h1]), ?_⟩
    refine iteT ?_
    by_cases h2 : 0 ≤ x
    · refine ⟨.int x, rfl, _, _, rfl, rfl, true, (by show V.bl (decide (0 ≤ x)) = _; rw [decide_eq_true h2]), ?_⟩
      refine iteT ?_
      refine ⟨.int x, rfl, .int n, rfl, _, _, rfl, rfl, .int e, rfl, _, _, rfl, rfl, ?_⟩
      have e1 : decide (x + n ≤ e) = decide (St_ x n e) := decide_eq_decide.mpr ⟨fun z => ⟨by omega, h2, z⟩, fun z => z.2.2⟩
      show Q (.bl (decide (x + n ≤ e))) H
      rw [e1]; exact q
    · refine ⟨.int x, rfl, _, _, rfl, rfl, false, (by show V.bl (decide (0 ≤ x)) = _; rw [decide_eq_false h2]), ?_⟩
      refine iteF ?_
      rw [decide_eq_false fun z => h2 z.2.1] at q; exact q
  · refine ⟨.int n, rfl, _, _, rfl, rfl, false, (by show V.bl (decide (0 < n)) = _; rw [decide_eq_false h1]), ?_⟩
    refine iteF ?_
    rw [decide_eq_false fun z => h1 (by have := z.1; omega)] at q; exact q
theorem ok_num {f : Addr} {fd : FuncData} {k : Nat} (F : Fun K "_law_numbers" "_law_numbers" s_law_numbers f fd) : FnOk Pg w K mg base CX0 (k + 1) f fd ["_law_rows"] spNum := by
  refine F.ok scNum (fun vs H Q E h => ?_) (fun cdv A outer s H vs Q E hr h => ?_)
  · obtain ⟨a, xs, ns, rfl, _⟩ := h; rfl
  obtain ⟨a, xs, ns, rfl, hX, ll, hl, q⟩ := h
  refine ⟨_, (pss_one (ps_ret (pe_lc (own := [("_law_row", 1)]) (g := (gName 1)) (tt := tYes) (te := (tOp (rIxT K) (tVar 1) (tC (.int 0)))) rfl scNum.nd (pi_list (pv 0)) (blkOk_by (N := nNum) (sc := defScope s_law_numbers) (by decide +kernel)) (fun _ _ _ _ _ => (pg_name (i := 1) scNum.nd rfl (.inl rfl))) (fun _ _ _ _ _ => pts_nil) (fun _ _ _ _ _ => (pe_ix ix_tup (pv 1) pe_int (fun _ _ => rfl)))))), ?_⟩
  refine ⟨.ref a, rfl, a, rfl, ⟨_, .inl (.inl hX)⟩, fun D nD => ?_⟩
  refine lc_list (xs := xs) (fun i H3 => Same H H3 ∧ H3 D = some (.lst ((ns.take i).map V.int))) ⟨same_upd nD, upd_same⟩ (fun i H3 _ hP => .inl (.inl (hP.1 _ _ hX))) (fun i v H3 hv hP => ?_) (fun H3 hP => ?_)
  · obtain ⟨sm, eD⟩ := hP
    obtain ⟨n, hn, t, r, rfl, ht⟩ := ll.get hv
    have hi : i < ns.length := (List.getElem?_eq_some_iff.mp hn).1
    refine ⟨rfl, ?_⟩
    refine tYes_ok ?_
    refine iteT ?_
    refine ⟨.ref t, rfl, t, _, _, .int n, rfl, rfl, .inl (.inl (sm _ _ ht)), atI_0 _ _, _, eD, ?_, same_over sm nD, ?_⟩
    · rw [List.length_map, List.length_take]
      exact Nat.lt_of_le_of_lt (show _ ≤ 100000 by omega) (by decide)
    · rw [upd_same, List.take_add_one, hn, List.map_append]
      rfl
  · obtain ⟨sm, eD⟩ := hP
    rw [ll.len, List.take_length] at eD
    exact q H3 D sm eD
end
end Rep
namespace Rep
open PySem L2 L2H RepHot
instance {e : Int} {y : Sy} : Decidable (Gd2 e y) := inferInstanceAs (Decidable (_ ∧ _))
abbrev nLln : List Str := ["_law_state", "_law_deed_here", "_law_length", "_law_coming", "_law_sayings", "_law_memories", "_law_far", "_law_ends", "_law_row", "_law_end"]
theorem scLln : FnScope nLln ["_law_state", "_law_deed_here"] (defScope s_law_length_next) := ⟨rfl, rfl, rfl, by decide +kernel, rfl, by decide +kernel, by decide +kernel⟩
abbrev nLrn : List Str := ["_law_state", "_law_deed_here", "_law_length", "_law_coming", "_law_sayings", "_law_memories", "_law_one", "_law_other", "_law_many", "_law_turned", "_law_good", "_law_rows", "_law_row"]
theorem scLrn : FnScope nLrn ["_law_state", "_law_deed_here"] (defScope s_law_row_next) := ⟨rfl, rfl, rfl, by decide +kernel, rfl, by decide +kernel, by decide +kernel⟩
structure TNx (Pg : Program) (w : World) (K : PySem.W.Frag) (mg : Str → Option Value) (base : Heap) (fGs fNu : Addr) (fdGs fdNu : FuncData) : Prop where
  gGs : FnOk Pg w K mg base CX0 8 fGs fdGs ["_law_length", "_law_at", "_law_many"] spGs
  bGs : Binds K fdGs ["_law_length", "_law_at", "_law_many"] []
  kGs : PySem.W.keepIn K (.ref fGs) = true
  mGs : mg "_law_good_stretch" = some (.ref fGs)
  gNu : FnOk Pg w K mg base CX0 8 fNu fdNu ["_law_rows"] spNum
  bNu : Binds K fdNu ["_law_rows"] []
  kNu : PySem.W.keepIn K (.ref fNu) = true
  mNu : mg "_law_numbers" = some (.ref fNu)
  mM : mg "max" = none
  ml : mg "len" = none
theorem dpAll_int {K : PySem.W.Frag} {H : Hp} : ∀ {l : List Int}, DpAll K H (l.map V.int) (l.map PyData.int)
  | [] => .nil
  | _ :: _ => .cons (.int _) dpAll_int
theorem canInt : ∀ l : List Int, PyData.canLayAll0 (l.map PyData.int) = true
  | [] => rfl
  | _ :: r => by
    show (true && PyData.canLayAll0 (r.map PyData.int)) = true
    rw [canInt r]; rfl
theorem shapedInt (l : List Int) : SeqAt.shaped (.list (l.map PyData.int)) = true := by
  unfold SeqAt.shaped
  have e : PyData.canLay0 (.list (l.map PyData.int)) = true := canInt l
  rw [e]
  refine decide_eq_true ?_
  show PyData.depthAll (l.map PyData.int) + 1 ≤ 64
  have := depth_ints l
  omega
theorem eqv_nilL {l : List PyData} : PyData.eqv (.list l) (.list []) = l.isEmpty := by
  cases l <;> rfl
theorem abc_mem {c : Nat} : c ∈ ("abcdefghijklmnopqrstuvwxyz" : Str).cps.toList ↔ 97 ≤ c ∧ c ≤ 122 := by
  rw [show ("abcdefghijklmnopqrstuvwxyz" : Str).cps.toList = List.range' 97 26 by decide +kernel, List.mem_range'_1]
  omega
section
variable {Pg : Program} {w : World} {K : PySem.W.Frag} {mg : Str → Option Value} {base : Heap} {fGs fNu : Addr} {fdGs fdNu : FuncData}
theorem ok_lln {f : Addr} {fd : FuncData} (F : Fun K "_law_length_next" "_law_length_next" s_law_length_next f fd) (T : TNx Pg w K mg base fGs fNu fdGs fdNu) : FnOk Pg w K mg base CX0 9 f fd ["_law_state", "_law_deed_here"] (spNx true) := by
  refine F.ok scLln (fun vs H Q E h => ?_) (fun cdv A outer s H vs Q E hr h => ?_)
  · obtain ⟨stv, dv, N, s_, d, rfl, _⟩ := h; rfl
  obtain ⟨stv, dv, N, s_, d, rfl, st, ⟨td, rfl, hd⟩, dok, na, wf, lk, q⟩ := h
  have r8 : Room 8 _ := hr
  refine ⟨_, (C8.pss_cut (ps_asg (pv 0) (pg_tup rfl (pgs_cons (pg_name (i := 2) scLln.nd rfl (.inl rfl)) (pgs_cons (pg_name (i := 3) scLln.nd rfl (.inl rfl)) (pgs_cons (pg_name (i := 4) scLln.nd rfl (.inl rfl)) (pgs_cons (pg_name (i := 5) scLln.nd rfl (.inl rfl)) pgs_nil))))))
    (C8.pss_cut (ps_set (i := 6) scLln.nd rfl (.inr rfl) (pe_op op_add (pv 2) (pe_ix ix_tup (pv 1) pe_int (fun _ _ => rfl))))
    (C8.pss_cut (ps_if (pt_cmpR op_eq (pe_ix ix_tup (pv 1) pe_int (fun _ _ => rfl)) pe_str (nomark _)) (pss_one (ps_set (i := 6) scLln.nd rfl (.inr rfl) (pe_op op_sub (pv 2) (pe_ix ix_tup (pv 1) pe_int (fun _ _ => rfl))))) pss_nil)
    (pss_cons (ps_if (PW.pt (pw_or (pt_cmpR op_lt (pe_ix ix_tup (pv 1) pe_int (fun _ _ => rfl)) pe_int (nomark _)) (pw_or (pt_cmpR op_lt (pv 6) pe_int (nomark _)) (pw_or1 (pt_cmpR op_ge (pv 6) (pe_op op_pow pe_int pe_int) (nomark _)))))) (pss_one (ps_ret (pe_tup (pa_cons pe_str (pa_cons pe_non (pa_cons (pv 0) pa_nil)))))) pss_nil)
    (C8.pss_cut (ps_set (i := 7) scLln.nd rfl (.inl rfl) (pe_op op_cat (pe_lc (own := [("_law_row", 8)]) (g := (gName 8)) (tt := tYes) (te := (tOp (rI0 fun i j => .int (i + j)) (tCB (fun xs H Q => ∃ i j, xs = [.int i, .int j] ∧ Q (.int (if j > i then j else i)) H) (tCons (tOp (rIxT K) (tVar 8) (tC (.int 1))) (tCons (tOp (rIxT K) (tVar 8) (tC (.int 2))) tNil))) (tOp (rIxT K) (tVar 8) (tC (.int 3))))) rfl scLln.nd (pi_list (pv 4)) (blkOk_by (N := nLln) (sc := defScope s_law_length_next) (by decide +kernel)) (fun _ _ _ _ _ => (pg_name (i := 8) scLln.nd rfl (.inl rfl))) (fun _ _ _ _ _ => pts_nil) (fun _ _ _ _ _ => (pe_op op_add (pe_callB (call_max2 rfl) (by rfl) T.mM (by decide +kernel) (pa_cons (pe_ix ix_tup (pv 8) pe_int (fun _ _ => rfl)) (pa_cons (pe_ix ix_tup (pv 8) pe_int (fun _ _ => rfl)) pa_nil))) (pe_ix ix_tup (pv 8) pe_int (fun _ _ => rfl))))) (pe_lc (own := [("_law_row", 8)]) (g := (gName 8)) (tt := tYes) (te := (tOp (rI0 fun i j => .int (i + j)) (tOp (rIxT K) (tVar 8) (tC (.int 2))) (tOp (rIxT K) (tVar 8) (tC (.int 3))))) rfl scLln.nd (pi_list (pv 5)) (blkOk_by (N := nLln) (sc := defScope s_law_length_next) (by decide +kernel)) (fun _ _ _ _ _ => (pg_name (i := 8) scLln.nd rfl (.inl rfl))) (fun _ _ _ _ _ => pts_nil) (fun _ _ _ _ _ => (pe_op op_add (pe_ix ix_tup (pv 8) pe_int (fun _ _ => rfl)) (pe_ix ix_tup (pv 8) pe_int (fun _ _ => rfl)))))))
    (pss_cons (ps_if (PW.pt (pw_and (pt_cmpR op_eq (pe_ix ix_tup (pv 1) pe_int (fun _ _ => rfl)) pe_str (nomark _)) (pw_and1 (pt_cmpR (op_neD hr.units) (pe_lc (own := [("_law_end", 9)]) (g := (gName 9)) (tt := (tTest (tOp (rI0 fun i j => .bl (decide (j < i))) (tVar 9) (tVar 6)))) (te := (tVar 9)) rfl scLln.nd (pi_list (pv 7)) (blkOk_by (N := nLln) (sc := defScope s_law_length_next) (by decide +kernel)) (fun _ _ _ _ _ => (pg_name (i := 9) scLln.nd rfl (.inl rfl))) (fun _ _ _ _ _ => (pts_one (pt_cmpR op_gt (pv 9) (pv 6) (nomark _)))) (fun _ _ _ _ _ => (pv 9))) (pe_lst pa_nil) (nomark _))))) (pss_one (ps_ret (pe_tup (pa_cons pe_str (pa_cons pe_non (pa_cons (pv 0) pa_nil)))))) pss_nil)
    (pss_one (ps_ret (pe_tup (pa_cons pe_str (pa_cons pe_non (pa_cons (pe_tup (pa_cons (pv 6) (pa_cons (pv 3) (pa_cons (pv 4) (pa_cons (pv 5) pa_nil))))) pa_nil)))))))))))), ?_⟩
  obtain ⟨t, la, lb, xs, ys, rfl, h2, h3, h4, h5, h6, h7, h8⟩ := st.ex
  have l1 := wf.l1
  have l2 := wf.l2
  have x1 := h4.len
  have y1 := h6.len
  obtain ⟨m, W, ed, ek⟩ : ∃ (m : Int) (W : Str), ddV d = [.str W, .int m] ∧ ((d = .longer m ∧ W = "lengthen") ∨ (d = .shorter m ∧ W = "shorten")) := by
    cases d with
    | longer m => exact ⟨m, _, rfl, .inl ⟨rfl, rfl⟩⟩
    | shorter m => exact ⟨m, _, rfl, .inr ⟨rfl, rfl⟩⟩
    | _ => cases lk
  have hd : H td = some (.tup [.str W, .int m]) := by rw [hd]; show some (HO.tup (ddV d)) = _; rw [ed]
  refine ⟨fun σ' H' => σ' = [some (.ref t), some (.ref td), some (.int s_.size), some (.int s_.coming), some (.ref la), some (.ref lb), none, none, none, none] ∧ H' = H, ?_, ?_⟩
  · exact ⟨.ref t, rfl, t, _, rfl, .inl (.inl h2), rfl, _, _, rfl, _, _, rfl, _, _, rfl, _, _, rfl, rfl, rfl, rfl⟩
  rintro σ' H' ⟨rfl, eH⟩
  subst eH
  refine ⟨fun σ' H0 => σ' = [some (.ref t), some (.ref td), some (.int s_.size), some (.int s_.coming), some (.ref la), some (.ref lb), some (.int (s_.size + m)), none, none, none] ∧ H0 = H', ?_, ?_⟩
  · exact ⟨.int s_.size, rfl, .ref td, rfl, td, _, _, .int m, rfl, rfl, .inl (.inl hd), rfl, _, _, rfl, rfl, rfl, rfl⟩
  rintro σ' H0 ⟨rfl, eH⟩
  subst eH
  refine ⟨fun σ' H1 => ∃ far, σ' = [some (.ref t), some (.ref td), some (.int s_.size), some (.int s_.coming), some (.ref la), some (.ref lb), some (.int far), none, none, none] ∧ H1 = H0 ∧ ((d = .longer m ∧ W = "lengthen" ∧ far = s_.size + m) ∨ (d = .shorter m ∧ W = "shorten" ∧ far = s_.size - m)), ?_, ?_⟩
  · rcases ek with ⟨e1, rfl⟩ | ⟨e1, rfl⟩
    · exact ⟨.ref td, rfl, td, _, _, .str "lengthen", rfl, rfl, .inl (.inl hd), rfl, rfl, false, sF (by decide +kernel), iteF ⟨_, rfl, rfl, .inl ⟨e1, rfl, rfl⟩⟩⟩
    · exact ⟨.ref td, rfl, td, _, _, .str "shorten", rfl, rfl, .inl (.inl hd), rfl, rfl, true, sT _, iteT ⟨.int s_.size, rfl, .ref td, rfl, td, _, _, .int m, rfl, rfl, .inl (.inl hd), rfl, _, _, rfl, rfl, _, rfl, rfl, .inr ⟨e1, rfl, rfl⟩⟩⟩
  rintro σ' H1 ⟨far, rfl, eH, kd⟩
  subst eH
  have bad : ¬ (1 ≤ m ∧ In40 far) → Stp s_ d (.inl 0) := fun z => by
    rcases kd with ⟨e1, _, rfl⟩ | ⟨e1, _, rfl⟩
    · rw [e1]; exact .inr ⟨z, rfl⟩
    · rw [e1]; exact .inr (.inr ⟨z, rfl⟩)
  have ret0 : ¬ (1 ≤ m ∧ In40 far) → ∀ t1 H2, Same H1 H2 → H2 t1 = some (.tup [.str "BadLength", .non, .ref t]) → Q (.ref t1) H2 := fun z t1 H2 s2 z2 => q _ (bad z) H2 t1 (.ref t) s2 z2 (st.same s2)
  have p40' : (10 : Int) ^ (40 : Int).toNat = 10 ^ 40 := by decide +kernel
  refine ⟨.ref td, rfl, td, _, _, .int m, rfl, rfl, .inl (.inl hd), rfl, _, _, rfl, rfl, _, rfl, ite2 (fun c => ?_) (fun c => ?_)⟩
  · have c : m < 1 := of_decide_eq_true c
    refine iteT ?_
    refine ⟨.ref t, rfl, ?_⟩
    refine ⟨szN 3 rfl, fun t1 n_t1 => ?_⟩
    generalize e_t1 : upd H1 t1 _ = H2
    have s2 := new_same e_t1 n_t1
    have z2 := new_at e_t1
    clear e_t1
    exact ret0 (fun z => by have := z.1; omega) _ _ s2 z2
  have c : ¬ m < 1 := fun z => c (decide_eq_true z)
  refine ⟨.int far, rfl, _, _, rfl, rfl, _, rfl, ite2 (fun c2 => ?_) (fun c2 => ?_)⟩
  · have c2 : far < 0 := of_decide_eq_true c2
    refine iteT ?_
    refine ⟨.ref t, rfl, ?_⟩
    refine ⟨szN 3 rfl, fun t1 n_t1 => ?_⟩
    generalize e_t1 : upd H1 t1 _ = H2
    have s2 := new_same e_t1 n_t1
    have z2 := new_at e_t1
    clear e_t1
    exact ret0 (fun z => by have := z.2.1; omega) _ _ s2 z2
  have c2 : ¬ far < 0 := fun z => c2 (decide_eq_true z)
  refine ⟨.int far, rfl, 10, 40, rfl, rfl, p40, _, _, rfl, rfl, _, rfl, ite2 (fun c3 => ?_) (fun c3 => ?_)⟩
  · have c3 : (10 : Int) ^ (40 : Int).toNat ≤ far := of_decide_eq_true c3
    refine ⟨.ref t, rfl, ?_⟩
    refine ⟨szN 3 rfl, fun t1 n_t1 => ?_⟩
    generalize e_t1 : upd H1 t1 _ = H2
    have s2 := new_same e_t1 n_t1
    have z2 := new_at e_t1
    clear e_t1
    exact ret0 (fun z => by have := z.2.2; rw [p40'] at c3; omega) _ _ s2 z2
  have c3 : ¬ (10 : Int) ^ (40 : Int).toNat ≤ far := fun z => c3 (decide_eq_true z)
  rw [p40'] at c3
  have good : 1 ≤ m ∧ In40 far := ⟨by omega, by omega, by omega⟩
  clear ret0 bad
  -- the ends
  refine ⟨fun σ' H2 => ∃ D, σ' = [some (.ref t), some (.ref td), some (.int s_.size), some (.int s_.coming), some (.ref la), some (.ref lb), some (.int far), some (.ref D), none, none] ∧ Same H1 H2 ∧ H2 D = some (.lst ((endsF s_).map V.int)), ?_, ?_⟩
  · refine ⟨.ref la, rfl, la, rfl, ⟨_, .inl (.inl h3)⟩, fun D nD => ?_⟩
    refine lc_list (xs := xs) (fun i H5 => Same H1 H5 ∧ H5 D = some (.lst (((s_.said.take i).map fun r => (if r.sy.lo < r.sy.hi then r.sy.hi else r.sy.lo) + r.sy.n).map V.int))) ⟨same_upd nD, upd_same⟩ (fun i H5 _ hP => .inl (.inl (hP.1 _ _ h3))) (fun i v H5 hv hP => ?_) (fun H5 hP => ?_)
    · obtain ⟨sm, eD⟩ := hP
      obtain ⟨r, hr_, tr, rfl, ht⟩ := h4.get hv
      have hi : i < s_.said.length := (List.getElem?_eq_some_iff.mp hr_).1
      refine ⟨rfl, ?_⟩
      refine tYes_ok ?_
      refine iteT ?_
      have htr := sm _ _ ht
      refine ⟨.ref tr, rfl, tr, _, _, .int r.sy.lo, rfl, rfl, .inl (.inl htr), rfl, .ref tr, rfl, tr, _, _, .int r.sy.hi, rfl, rfl, .inl (.inl htr), rfl, r.sy.lo, r.sy.hi, rfl, .ref tr, rfl, tr, _, _, .int r.sy.n, rfl, rfl, .inl (.inl htr), rfl, _, _, rfl, rfl, _, eD, ?_, same_over sm nD, ?_⟩
      · rw [List.length_map, List.length_map, List.length_take]
        exact Nat.lt_of_le_of_lt (show _ ≤ 100000 by omega) (by decide)
      · rw [upd_same, List.take_add_one, hr_, List.map_append, List.map_append]
        rfl
    · obtain ⟨sm, eD⟩ := hP
      rw [h4.len, List.take_length] at eD
      refine ⟨.ref lb, rfl, lb, rfl, ⟨_, .inl (.inl (sm _ _ h5))⟩, fun D2 nD2 => ?_⟩
      refine lc_list (xs := ys) (fun i H6 => Same H5 H6 ∧ H6 D2 = some (.lst (((s_.noted.take i).map fun m => m.at_ + m.n).map V.int))) ⟨same_upd nD2, upd_same⟩ (fun i H6 _ hP => .inl (.inl (hP.1 _ _ (sm _ _ h5)))) (fun i v H6 hv hP => ?_) (fun H6 hP => ?_)
      · obtain ⟨sm2, eD2⟩ := hP
        obtain ⟨me, hm, tr, rfl, ht⟩ := h6.get hv
        have hi : i < s_.noted.length := (List.getElem?_eq_some_iff.mp hm).1
        refine ⟨rfl, ?_⟩
        refine tYes_ok ?_
        refine iteT ?_
        have htr := sm2 _ _ (sm _ _ ht)
        refine ⟨.ref tr, rfl, tr, _, _, .int me.at_, rfl, rfl, .inl (.inl htr), rfl, .ref tr, rfl, tr, _, _, .int me.n, rfl, rfl, .inl (.inl htr), rfl, _, _, rfl, rfl, _, eD2, ?_, same_over sm2 nD2, ?_⟩
        · rw [List.length_map, List.length_map, List.length_take]
          exact Nat.lt_of_le_of_lt (show _ ≤ 100000 by omega) (by decide)
        · rw [upd_same, List.take_add_one, hm, List.map_append, List.map_append]
          rfl
      · obtain ⟨sm2, eD2⟩ := hP
        rw [h6.len, List.take_length] at eD2
        refine ⟨D, D2, _, _, rfl, rfl, sm2 _ _ eD, eD2, ?_, ?_⟩
        · rw [List.length_map, List.length_map, List.length_map, List.length_map]
          exact Nat.le_trans (show _ ≤ 1000 by omega) (by decide)
        intro l1_ n_l1_
        generalize e_l1_ : upd H6 l1_ _ = H7
        have s7 := new_same e_l1_ n_l1_
        have z7 := new_at e_l1_
        clear e_l1_
        rw [← List.map_append] at z7
        exact ⟨l1_, rfl, sm.trans (sm2.trans s7), z7⟩
  rintro σ' H2 ⟨D, rfl, s2, eD⟩
  have le : (endsF s_).length ≤ 100 := by unfold endsF; rw [List.length_append, List.length_map, List.length_map]; omega
  have hd2 := s2 _ _ hd
  have h22 := s2 _ _ h2
  have fin : (s0 s_ (.inr (none, { s_ with size := far })) = { s_ with size := far }) := rfl
  have done : Stp s_ d (.inr (none, { s_ with size := far })) → ∀ H3, Same H2 H3 → ∀ t1 H4, Same H3 H4 → H4 t1 = some (.tup [.int far, .int s_.coming, .ref la, .ref lb]) → ∀ t2 H5, Same H4 H5 → H5 t2 = some (.tup [.str "", .non, .ref t1]) → Q (.ref t2) H5 := fun z H3 s3 t1 H4 s4 z4 t2 H5 s5 z5 => by
    have s15 := s2.trans (s3.trans (s4.trans s5))
    exact q _ z H5 t2 (.ref t1) s15 z5 ⟨t1, la, lb, xs, ys, rfl, s5 _ _ z4, s15 _ _ h3, RL.ts (TS.of s15) h4, s15 _ _ h5, ML.ts (TS.of s15) h6, h7, h8⟩
  rcases kd with ⟨e1, rfl, rfl⟩ | ⟨e1, rfl, rfl⟩
  · refine ⟨.ref td, rfl, td, _, _, .str "lengthen", rfl, rfl, .inl (.inl hd2), rfl, rfl, false, sF (by decide +kernel), iteF (iteF ?_)⟩
    refine ⟨.int (s_.size + m), rfl, .int s_.coming, rfl, .ref la, rfl, .ref lb, rfl, ?_⟩
    refine ⟨szN 4 rfl, fun t1 n_t1 => ?_⟩
    generalize e_t1 : upd H2 t1 _ = H3
    have s3 := new_same e_t1 n_t1
    have z3 := new_at e_t1
    clear e_t1
    refine ⟨szN 3 rfl, fun t2 n_t2 => ?_⟩
    generalize e_t2 : upd H3 t2 _ = H4
    have s4 := new_same e_t2 n_t2
    have z4 := new_at e_t2
    clear e_t2
    exact done (by rw [e1]; exact .inl ⟨good.1, good.2, rfl⟩) H2 (Same.refl _) t1 H3 s3 z3 t2 H4 s4 z4
  · refine ⟨.ref td, rfl, td, _, _, .str "shorten", rfl, rfl, .inl (.inl hd2), rfl, rfl, true, sT _, iteT ?_⟩
    refine ⟨.ref D, rfl, D, rfl, ⟨_, .inl (.inl eD)⟩, fun D2 nD2 => ?_⟩
    refine lc_list (xs := (endsF s_).map V.int) (fun i H6 => Same H2 H6 ∧ H6 D2 = some (.lst ((((endsF s_).take i).filter fun z => decide (s_.size - m < z)).map V.int))) ⟨same_upd nD2, upd_same⟩ (fun i H6 _ hP => .inl (.inl (hP.1 _ _ eD))) (fun i v H6 hv hP => ?_) (fun H6 hP => ?_)
    · obtain ⟨sm2, eD2⟩ := hP
      rw [List.getElem?_map] at hv
      obtain ⟨z, hz, rfl⟩ := Option.map_eq_some_iff.mp hv
      have et : (endsF s_).take (i + 1) = (endsF s_).take i ++ [z] := by rw [List.take_add_one, hz]; rfl
      refine ⟨rfl, ?_⟩
      refine ⟨.int z, rfl, .int (s_.size - m), rfl, _, _, rfl, rfl, _, rfl, ?_⟩
      refine ite2 (fun c => ?_) (fun c => ?_)
      · have c : s_.size - m < z := of_decide_eq_true c
        refine ⟨.int z, rfl, _, eD2, ?_, same_over sm2 nD2, ?_⟩
        · rw [List.length_map]
          have h1 := List.length_filter_le (fun z => decide (s_.size - m < z)) ((endsF s_).take i)
          rw [List.length_take] at h1
          exact Nat.lt_of_le_of_lt (show _ ≤ 100000 by omega) (by decide)
        · rw [upd_same, et, List.filter_append, List.filter_cons_of_pos (by simp [c]), List.map_append]
          rfl
      · have c : ¬ s_.size - m < z := fun z => c (decide_eq_true z)
        refine ⟨sm2, ?_⟩
        rw [eD2, et, List.filter_append, List.filter_cons_of_neg (by simp [c]), List.filter_nil, List.append_nil]
    · obtain ⟨sm2, eD2⟩ := hP
      rw [List.length_map, List.take_length] at eD2
      refine ⟨szN 0 rfl, fun l0 n_l0 => ?_⟩
      generalize e_l0 : upd H6 l0 _ = H7
      have s7 := new_same e_l0 n_l0
      have z7 := new_at e_l0
      clear e_l0
      refine ⟨_, .list [], .lst (.inl (.inl (s7 _ _ eD2))) dpAll_int, .lst (.inl (.inl z7)) .nil, shapedInt _, by decide +kernel, _, rfl, ?_⟩
      rw [eqv_nilL, List.isEmpty_map]
      by_cases c : ∀ z ∈ endsF s_, z ≤ s_.size - m
      · rw [show ((endsF s_).filter fun z => decide (s_.size - m < z)).isEmpty = true from by
          rw [List.isEmpty_iff, List.filter_eq_nil_iff]
          intro z hz
          have := c z hz
          simp; omega]
        refine iteF ?_
        refine ⟨.int (s_.size - m), rfl, .int s_.coming, rfl, .ref la, rfl, .ref lb, rfl, ?_⟩
        refine ⟨szN 4 rfl, fun t1 n_t1 => ?_⟩
        generalize e_t1 : upd H7 t1 _ = H8
        have s8 := new_same e_t1 n_t1
        have z8 := new_at e_t1
        clear e_t1
        refine ⟨szN 3 rfl, fun t2 n_t2 => ?_⟩
        generalize e_t2 : upd H8 t2 _ = H9
        have s9 := new_same e_t2 n_t2
        have z9 := new_at e_t2
        clear e_t2
        exact done (by rw [e1]; exact .inl ⟨good.1, good.2, c, rfl⟩) H7 (sm2.trans s7) t1 H8 s8 z8 t2 H9 s9 z9
      · rw [show ((endsF s_).filter fun z => decide (s_.size - m < z)).isEmpty = false from by
          rw [Bool.eq_false_iff]
          intro z
          rw [List.isEmpty_iff, List.filter_eq_nil_iff] at z
          exact c fun a ha => by have := z a ha; simp at this; omega]
        refine iteT ?_
        refine ⟨.ref t, rfl, ?_⟩
        refine ⟨szN 3 rfl, fun t2 n_t2 => ?_⟩
        generalize e_t2 : upd H7 t2 _ = H8
        have s8 := new_same e_t2 n_t2
        have z8 := new_at e_t2
        clear e_t2
        have s18 := s2.trans (sm2.trans (s7.trans s8))
        exact q (.inl 6) (by rw [e1]; exact .inr (.inl ⟨good.1, good.2, c, rfl⟩)) H8 t2 (.ref t) s18 z8 (st.same s18)
end
end Rep
namespace Rep
open PySem L2 L2H RepHot
section
variable {Pg : Program} {w : World} {K : PySem.W.Frag} {mg : Str → Option Value} {base : Heap} {fGs fNu : Addr} {fdGs fdNu : FuncData}
theorem ok_lrn {f : Addr} {fd : FuncData} (F : Fun K "_law_row_next" "_law_row_next" s_law_row_next f fd) (T : TNx Pg w K mg base fGs fNu fdGs fdNu) : FnOk Pg w K mg base CX0 9 f fd ["_law_state", "_law_deed_here"] (spNx false) := by
  refine F.ok scLrn (fun vs H Q E h => ?_) (fun cdv A outer s H vs Q E hr h => ?_)
  · obtain ⟨stv, dv, N, s_, d, rfl, _⟩ := h; rfl
  obtain ⟨stv, dv, N, s_, d, rfl, st, ⟨td, rfl, hd⟩, dok, na, wf, lk, q⟩ := h
  have r8 : Room 8 _ := hr
  refine ⟨_, (C8.pss_cut (ps_asg (pv 0) (pg_tup rfl (pgs_cons (pg_name (i := 2) scLrn.nd rfl (.inl rfl)) (pgs_cons (pg_name (i := 3) scLrn.nd rfl (.inl rfl)) (pgs_cons (pg_name (i := 4) scLrn.nd rfl (.inl rfl)) (pgs_cons (pg_name (i := 5) scLrn.nd rfl (.inl rfl)) pgs_nil))))))
    (pss_cons (ps_if (pt_cmpR op_in_seq (pe_ix ix_tup (pv 1) pe_int (fun _ _ => rfl)) (pe_tup (pa_cons pe_str (pa_cons pe_str pa_nil))) (by rfl)) (C8.pss_cut (ps_asg (pe_slice sl_tup (pv 1) (po_some (pe_un un_neg pe_int)) po_none) (pg_tup rfl (pgs_cons (pg_name (i := 6) scLrn.nd rfl (.inl rfl)) (pgs_cons (pg_name (i := 7) scLrn.nd rfl (.inl rfl)) (pgs_cons (pg_name (i := 8) scLrn.nd rfl (.inl rfl)) (pgs_cons (pg_name (i := 9) scLrn.nd rfl (.inl rfl)) pgs_nil))))))
    (C8.pss_cut (ps_set (i := 10) scLrn.nd rfl (.inl rfl) (pe_and (pe_call T.gGs r8 (by rfl) T.mGs T.kGs T.bGs .nil pass0 (pa_cons (pv 2) (pa_cons (pv 6) (pa_cons (pv 8) pa_nil)))) (pe_one (pe_call T.gGs r8 (by rfl) T.mGs T.kGs T.bGs .nil pass0 (pa_cons (pv 2) (pa_cons (pv 7) (pa_cons (pv 8) pa_nil)))))))
    (pss_cons (ps_if (PW.pt (pw_and (pt_cmpR op_eq (pe_ix ix_tup (pv 1) pe_int (fun _ _ => rfl)) pe_str (nomark _)) (pw_and1 (pt_cmpR op_notIn_seq (pe_ix ix_tup (pv 1) pe_int (fun _ _ => rfl)) (pe_call T.gNu r8 (by rfl) T.mNu T.kNu T.bNu .nil pass0 (pa_cons (pv 4) pa_nil)) (by rfl))))) (pss_one (ps_ret (pe_tup (pa_cons pe_str (pa_cons pe_non (pa_cons (pv 0) pa_nil)))))) pss_nil)
    (pss_cons (ps_if (pt_not (pt_val (pv 10))) (pss_one (ps_ret (pe_tup (pa_cons pe_str (pa_cons pe_non (pa_cons (pv 0) pa_nil)))))) pss_nil)
    (pss_cons (ps_if (PW.pt (pw_and (pt_cmpR op_eq (pe_ix ix_tup (pv 1) pe_int (fun _ _ => rfl)) pe_str (nomark _)) (pw_and1 (pt_cmpR op_ge (pe_callB call_len_seq (by rfl) T.ml PySem.boot_len (pa_cons (pv 4) pa_nil)) pe_int (nomark _))))) (pss_one (ps_ret (pe_tup (pa_cons pe_str (pa_cons pe_non (pa_cons (pv 0) pa_nil)))))) pss_nil)
    (pss_cons (ps_if (pt_cmpR op_eq (pe_ix ix_tup (pv 1) pe_int (fun _ _ => rfl)) pe_str (nomark _)) (pss_one (ps_ret (pe_tup (pa_cons pe_str (pa_cons (pv 3) (pa_cons (pe_tup (pa_cons (pv 2) (pa_cons (pe_op op_add (pv 3) pe_int) (pa_cons (pe_op op_cat (pv 4) (pe_lst (pa_cons (pe_op op_catT (pe_tup (pa_cons (pv 3) pa_nil)) (pe_slice sl_tup (pv 1) (po_some pe_int) po_none)) pa_nil))) (pa_cons (pv 5) pa_nil))))) pa_nil)))))) pss_nil)
    (pss_cons (ps_setLc (i := 11) (own := [("_law_row", 12)]) (g := (gName 12)) (tt := tYes) (te := (tIf (tTest (tOp rEq (tOp (rIxT K) (tVar 12) (tC (.int 0))) (tOp (rIxT K) (tVar 1) (tC (.int 1))))) (tSl (rSlT K) (tVar 1) (tPart (tC (.int 1))) tNoPart) (tVar 12))) rfl scLrn.nd rfl rfl (sw_true rfl rfl rfl (by decide +kernel)) (pi_list (pv 4)) (blkOk_by (N := nLrn) (sc := defScope s_law_row_next) (by decide +kernel)) (fun _ _ _ _ _ => (pg_name (i := 12) scLrn.nd rfl (.inl rfl))) (fun _ _ _ _ _ => pts_nil) (fun _ _ _ _ _ => (pe_ifExp (pt_cmpR op_eq (pe_ix ix_tup (pv 12) pe_int (fun _ _ => rfl)) (pe_ix ix_tup (pv 1) pe_int (fun _ _ => rfl)) (nomark _)) (pe_slice sl_tup (pv 1) (po_some pe_int) po_none) (pv 12))))
    (pss_one (ps_ret (pe_tup (pa_cons pe_str (pa_cons pe_non (pa_cons (pe_tup (pa_cons (pv 2) (pa_cons (pv 3) (pa_cons (pv 11) (pa_cons (pv 5) pa_nil))))) pa_nil))))))))))))) pss_nil)
    (pss_cons (ps_if (pt_cmpR op_eq (pe_ix ix_tup (pv 1) pe_int (fun _ _ => rfl)) pe_str (nomark _)) (pss_cons (ps_if (PW.pt (pw_or (pt_cmpR op_ne (pe_callB call_len_str (by rfl) T.ml PySem.boot_len (pa_cons (pe_ix ix_tup (pv 1) pe_int (fun _ _ => rfl)) pa_nil)) pe_int (nomark _)) (pw_or1 (pt_cmpR op_notIn_sign (pe_ix ix_tup (pv 1) pe_int (fun _ _ => rfl)) pe_str (by rfl))))) (pss_one (ps_ret (pe_tup (pa_cons pe_str (pa_cons pe_non (pa_cons (pv 0) pa_nil)))))) pss_nil)
    (pss_cons (ps_if (pt_not (pt_val (pe_call T.gGs r8 (by rfl) T.mGs T.kGs T.bGs .nil pass0 (pa_cons (pv 2) (pa_cons (pe_ix ix_tup (pv 1) pe_int (fun _ _ => rfl)) (pa_cons (pe_ix ix_tup (pv 1) pe_int (fun _ _ => rfl)) pa_nil)))))) (pss_one (ps_ret (pe_tup (pa_cons pe_str (pa_cons pe_non (pa_cons (pv 0) pa_nil)))))) pss_nil)
    (pss_cons (ps_if (pt_cmpR op_ge (pe_callB call_len_seq (by rfl) T.ml PySem.boot_len (pa_cons (pv 5) pa_nil)) pe_int (nomark _)) (pss_one (ps_ret (pe_tup (pa_cons pe_str (pa_cons pe_non (pa_cons (pv 0) pa_nil)))))) pss_nil)
    (pss_one (ps_ret (pe_tup (pa_cons pe_str (pa_cons (pv 3) (pa_cons (pe_tup (pa_cons (pv 2) (pa_cons (pe_op op_add (pv 3) pe_int) (pa_cons (pv 4) (pa_cons (pe_op op_cat (pv 5) (pe_lst (pa_cons (pe_op op_catT (pe_tup (pa_cons (pv 3) pa_nil)) (pe_slice sl_tup (pv 1) (po_some pe_int) po_none)) pa_nil))) pa_nil))))) pa_nil))))))))) pss_nil)
    (pss_cons (ps_if (PW.pt (pw_and (pt_cmpR op_eq (pe_ix ix_tup (pv 1) pe_int (fun _ _ => rfl)) pe_str (nomark _)) (pw_and1 (pt_cmpR op_in_seq (pe_ix ix_tup (pv 1) pe_int (fun _ _ => rfl)) (pe_call T.gNu r8 (by rfl) T.mNu T.kNu T.bNu .nil pass0 (pa_cons (pv 4) pa_nil)) (by rfl))))) (pss_one (ps_ret (pe_tup (pa_cons pe_str (pa_cons pe_non (pa_cons (pe_tup (pa_cons (pv 2) (pa_cons (pv 3) (pa_cons (pe_lc (own := [("_law_row", 12)]) (g := (gName 12)) (tt := (tTest (tOp rNe (tOp (rIxT K) (tVar 12) (tC (.int 0))) (tOp (rIxT K) (tVar 1) (tC (.int 1)))))) (te := (tVar 12)) rfl scLrn.nd (pi_list (pv 4)) (blkOk_by (N := nLrn) (sc := defScope s_law_row_next) (by decide +kernel)) (fun _ _ _ _ _ => (pg_name (i := 12) scLrn.nd rfl (.inl rfl))) (fun _ _ _ _ _ => (pts_one (pt_cmpR op_ne (pe_ix ix_tup (pv 12) pe_int (fun _ _ => rfl)) (pe_ix ix_tup (pv 1) pe_int (fun _ _ => rfl)) (nomark _)))) (fun _ _ _ _ _ => (pv 12))) (pa_cons (pv 5) pa_nil))))) pa_nil)))))) pss_nil)
    (pss_cons (ps_if (PW.pt (pw_and (pt_cmpR op_eq (pe_ix ix_tup (pv 1) pe_int (fun _ _ => rfl)) pe_str (nomark _)) (pw_and1 (pt_cmpR op_in_seq (pe_ix ix_tup (pv 1) pe_int (fun _ _ => rfl)) (pe_call T.gNu r8 (by rfl) T.mNu T.kNu T.bNu .nil pass0 (pa_cons (pv 5) pa_nil)) (by rfl))))) (pss_one (ps_ret (pe_tup (pa_cons pe_str (pa_cons pe_non (pa_cons (pe_tup (pa_cons (pv 2) (pa_cons (pv 3) (pa_cons (pv 4) (pa_cons (pe_lc (own := [("_law_row", 12)]) (g := (gName 12)) (tt := (tTest (tOp rNe (tOp (rIxT K) (tVar 12) (tC (.int 0))) (tOp (rIxT K) (tVar 1) (tC (.int 1)))))) (te := (tVar 12)) rfl scLrn.nd (pi_list (pv 5)) (blkOk_by (N := nLrn) (sc := defScope s_law_row_next) (by decide +kernel)) (fun _ _ _ _ _ => (pg_name (i := 12) scLrn.nd rfl (.inl rfl))) (fun _ _ _ _ _ => (pts_one (pt_cmpR op_ne (pe_ix ix_tup (pv 12) pe_int (fun _ _ => rfl)) (pe_ix ix_tup (pv 1) pe_int (fun _ _ => rfl)) (nomark _)))) (fun _ _ _ _ _ => (pv 12))) pa_nil))))) pa_nil)))))) pss_nil)
    (pss_one (ps_ret (pe_tup (pa_cons pe_str (pa_cons pe_non (pa_cons (pv 0) pa_nil))))))))))), ?_⟩
  obtain ⟨t, la, lb, xs, ys, rfl, h2, h3, h4, h5, h6, h7, h8⟩ := st.ex
  have l1 := wf.l1
  have l2 := wf.l2
  have x1 := h4.len
  have y1 := h6.len
  refine ⟨fun σ' H' => σ' = [some (.ref t), some (.ref td), some (.int s_.size), some (.int s_.coming), some (.ref la), some (.ref lb), none, none, none, none, none, none, none] ∧ H' = H, ?_, ?_⟩
  · exact ⟨.ref t, rfl, t, _, rfl, .inl (.inl h2), rfl, _, _, rfl, _, _, rfl, _, _, rfl, _, _, rfl, rfl, rfl, rfl⟩
  rintro σ' H' ⟨rfl, eH⟩
  subst eH
  have no_ : ∀ (j : Nat) (H2 : Hp) (t1 : Addr), Stp s_ d (.inl j) → Same H' H2 → H2 t1 = some (.tup [.str (kinWord j), .non, .ref t]) → Q (.ref t1) H2 := fun j H2 t1 z s2 z2 => q (.inl j) z H2 t1 (.ref t) s2 z2 (st.same s2)
  have yes_ : ∀ (o : Option Int) (c : Int) (rs : List Rw) (ms : List Me) (H2 : Hp) (t1 t2 a b : Addr) (us vs : List V), Stp s_ d (.inr (o, ⟨s_.size, c, rs, ms⟩)) → Same H' H2 → H2 t1 = some (.tup [.int s_.size, .int c, .ref a, .ref b]) → H2 a = some (.lst us) → RL H2 us rs → H2 b = some (.lst vs) → ML H2 vs ms → ¬ N a → ¬ N b → H2 t2 = some (.tup [.str "", oV' o, .ref t1]) → Q (.ref t2) H2 :=
    fun o c rs ms H2 t1 t2 a b us vs z s2 z1 e1 e2 e3 e4 n1 n2 z2 => q _ z H2 t2 (.ref t1) s2 z2 ⟨t1, a, b, us, vs, rfl, z1, e1, e2, e3, e4, n1, n2⟩
  clear q
  cases d with
  | say y =>
    have hd : H' td = some (.tup [.str "say", .int y.lo, .int y.hi, .int y.n, .bl y.t]) := hd
    refine ⟨.ref td, rfl, td, _, _, .str "say", rfl, rfl, .inl (.inl hd), rfl, ?_⟩
    refine ⟨szN 2 rfl, fun tw n_tw => ?_⟩
    generalize e_tw : upd H' tw _ = H1
    have u1 := new_same e_tw n_tw
    have z1 := new_at e_tw
    clear e_tw
    refine ⟨tw, _, rfl, .inr (.inl (.inl z1)), rfl, by decide +kernel, true, by decide +kernel, iteT ?_⟩
    have hd1 := u1 _ _ hd
    refine ⟨fun σ' H2 => σ' = [some (.ref t), some (.ref td), some (.int s_.size), some (.int s_.coming), some (.ref la), some (.ref lb), some (.int y.lo), some (.int y.hi), some (.int y.n), some (.bl y.t), none, none, none] ∧ Same H1 H2, ?_, ?_⟩
    · refine ⟨.ref td, rfl, 4, rfl, _, rfl, td, _, rfl, .inl (.inl hd1), (show ¬ (HT.sIx 5 0 (some (-4)) = 0 ∧ HT.sIx 5 5 none = 5) from by decide), ?_⟩
      intro t2 n_t2
      generalize e_t2 : upd H1 t2 _ = H2
      have u2 := new_same e_t2 n_t2
      have z2 := new_at e_t2
      clear e_t2
      have z2 : H2 t2 = some (.tup [.int y.lo, .int y.hi, .int y.n, .bl y.t]) := z2
      exact ⟨t2, _, rfl, .inl (.inl z2), rfl, _, _, rfl, _, _, rfl, _, _, rfl, _, _, rfl, rfl, rfl, u2⟩
    rintro σ' H2 ⟨rfl, u2⟩
    refine ⟨fun σ' H3 => σ' = [some (.ref t), some (.ref td), some (.int s_.size), some (.int s_.coming), some (.ref la), some (.ref lb), some (.int y.lo), some (.int y.hi), some (.int y.n), some (.bl y.t), some (.bl (decide (Gd2 s_.size y))), none, none] ∧ H3 = H2, ?_, ?_⟩
    · refine ⟨.int s_.size, rfl, .int y.lo, rfl, .int y.n, rfl, s_.size, y.lo, y.n, rfl, ?_⟩
      by_cases g1 : St_ y.lo y.n s_.size
      · refine ⟨true, by rw [decide_eq_true g1], iteT ?_⟩
        refine ⟨.int s_.size, rfl, .int y.hi, rfl, .int y.n, rfl, s_.size, y.hi, y.n, rfl, ?_⟩
        have e1 : decide (St_ y.hi y.n s_.size) = decide (Gd2 s_.size y) := decide_eq_decide.mpr ⟨fun z => ⟨g1, z⟩, fun z => z.2⟩
        rw [e1]; exact ⟨rfl, rfl⟩
      · refine ⟨false, by rw [decide_eq_false g1], iteF ?_⟩
        have e1 : decide (Gd2 s_.size y) = false := decide_eq_false fun z => g1 z.1
        rw [e1]; exact ⟨rfl, rfl⟩
    rintro σ' H3 ⟨rfl, eH⟩
    subst eH
    have u3 := u1.trans u2
    have hd3 := u3 _ _ hd
    refine ⟨.ref td, rfl, td, _, _, .str "say", rfl, rfl, .inl (.inl hd3), rfl, rfl, false, sF (by decide +kernel), iteF (iteF ?_)⟩
    refine ⟨.bl (decide (Gd2 s_.size y)), rfl, _, rfl, ?_⟩
    by_cases g : Gd2 s_.size y
    case neg =>
      rw [decide_eq_false g]
      refine iteT ?_
      refine ⟨.ref t, rfl, ?_⟩
      refine ⟨szN 3 rfl, fun tr n_tr => ?_⟩
      generalize e_tr : upd H3 tr _ = HR
      have uR := new_same e_tr n_tr
      have zR := new_at e_tr
      clear e_tr
      exact no_ 1 HR tr (.inr (.inr ⟨g, rfl⟩)) (u3.trans uR) zR
    rw [decide_eq_true g]
    refine iteF ?_
    refine ⟨.ref td, rfl, td, _, _, .str "say", rfl, rfl, .inl (.inl hd3), rfl, rfl, true, sT _, iteT ?_⟩
    refine ⟨.ref la, rfl, la, xs, rfl, .inl (.inl (.inl (u3 _ _ h3))), _, _, rfl, rfl, _, rfl, ite2 (fun c => ?_) (fun c => ?_)⟩
    · have c : (24 : Int) ≤ xs.length := of_decide_eq_true c
      refine ⟨.ref t, rfl, ?_⟩
      refine ⟨szN 3 rfl, fun tr n_tr => ?_⟩
      generalize e_tr : upd H3 tr _ = HR
      have uR := new_same e_tr n_tr
      have zR := new_at e_tr
      clear e_tr
      exact no_ 5 HR tr (.inr (.inl ⟨g, by omega, rfl⟩)) (u3.trans uR) zR
    have c : ¬ (24 : Int) ≤ xs.length := fun z => c (decide_eq_true z)
    refine ⟨.ref td, rfl, td, _, _, .str "say", rfl, rfl, .inl (.inl hd3), rfl, rfl, true, sT _, iteT ?_⟩
    refine ⟨.int s_.coming, rfl, .int s_.size, rfl, .int s_.coming, rfl, _, _, rfl, rfl, .ref la, rfl, .int s_.coming, rfl, ?_⟩
    refine ⟨szN 1 rfl, fun ta n_ta => ?_⟩
    generalize e_ta : upd H3 ta _ = H4
    have u4 := new_same e_ta n_ta
    have z4 := new_at e_ta
    clear e_ta
    refine ⟨.ref td, rfl, _, rfl, td, _, rfl, .inl (.inl (u4 _ _ hd3)), (show ¬ (HT.sIx 5 0 (some 1) = 0 ∧ HT.sIx 5 5 none = 5) from by decide), ?_⟩
    intro tb n_tb
    generalize e_tb : upd H4 tb _ = H5
    have u5 := new_same e_tb n_tb
    have z5 := new_at e_tb
    clear e_tb
    have z5 : H5 tb = some (.tup [.int y.lo, .int y.hi, .int y.n, .bl y.t]) := z5
    refine ⟨ta, tb, _, _, rfl, rfl, .inl (.inl (u5 _ _ z4)), .inl (.inl z5), (fun z => nomatch z), by show 1 + 4 ≤ sizeLine; decide, (fun z => nomatch z), fun _ => ?_⟩
    intro tc n_tc
    generalize e_tc : upd H5 tc _ = H6
    have u6 := new_same e_tc n_tc
    have z6 := new_at e_tc
    clear e_tc
    have z6 : H6 tc = some (.tup [.int s_.coming, .int y.lo, .int y.hi, .int y.n, .bl y.t]) := z6
    refine ⟨szN 1 rfl, fun lc n_lc => ?_⟩
    generalize e_lc : upd H6 lc _ = H7
    have u7 := new_same e_lc n_lc
    have z7 := new_at e_lc
    clear e_lc
    have u37 := u3.trans (u4.trans (u5.trans (u6.trans u7)))
    refine ⟨la, lc, _, _, rfl, rfl, u37 _ _ h3, z7, Nat.le_trans (show xs.length + 1 ≤ 1000 by omega) (by decide), ?_⟩
    intro ld n_ld
    generalize e_ld : upd H7 ld _ = H8
    have u8 := new_same e_ld n_ld
    have z8 := new_at e_ld
    clear e_ld
    refine ⟨.ref lb, rfl, ?_⟩
    refine ⟨szN 4 rfl, fun te n_te => ?_⟩
    generalize e_te : upd H8 te _ = H9
    have u9 := new_same e_te n_te
    have z9 := new_at e_te
    clear e_te
    refine ⟨szN 3 rfl, fun tf n_tf => ?_⟩
    generalize e_tf : upd H9 tf _ = HA
    have uA := new_same e_tf n_tf
    have zA := new_at e_tf
    clear e_tf
    have u8A := u9.trans uA
    have uAll := u37.trans (u8.trans u8A)
    exact yes_ (some s_.coming) (s_.coming + 1) (s_.said ++ [⟨s_.coming, y⟩]) s_.noted HA te tf ld lb _ ys (.inl ⟨g, by omega, rfl⟩) uAll (uA _ _ z9) (u8A _ _ z8) ((RL.ts (TS.of uAll) h4).snoc ⟨tc, rfl, (u7.trans (u8.trans u8A)) _ _ z6⟩) (uAll _ _ h5) (ML.ts (TS.of uAll) h6) ((na.same u37).not n_ld) h8 zA
  | unsay n =>
    have hd : H' td = some (.tup [.str "unsay", .int n]) := hd
    refine ⟨.ref td, rfl, td, _, _, .str "unsay", rfl, rfl, .inl (.inl hd), rfl, ?_⟩
    refine ⟨szN 2 rfl, fun tw n_tw => ?_⟩
    generalize e_tw : upd H' tw _ = H1
    have u1 := new_same e_tw n_tw
    have z1 := new_at e_tw
    clear e_tw
    refine ⟨tw, _, rfl, .inr (.inl (.inl z1)), rfl, by decide +kernel, false, by decide +kernel, iteF ?_⟩
    have hd1 := u1 _ _ hd
    refine ⟨.ref td, rfl, td, _, _, .str "unsay", rfl, rfl, .inl (.inl hd1), rfl, rfl, false, sF (by decide +kernel), iteF ?_⟩
    refine ⟨.ref td, rfl, td, _, _, .str "unsay", rfl, rfl, .inl (.inl hd1), rfl, rfl, true, sT _, iteT ?_⟩
    have hdH := hd1
    refine ⟨.ref td, rfl, td, _, _, .int n, rfl, rfl, .inl (.inl hdH), rfl, .ref la, rfl, la, _, _, rfl, u1 _ _ h3, (RL.ts (TS.of u1) h4).hd, by rw [List.length_map]; omega, fun HN ln uN zN => ?_⟩
    refine ⟨ln, _, rfl, .inl (.inl (.inl zN)), rfl, flat_int, decide ((n ∈ s_.said.map Rw.num)), by rw [inV_int]; rfl, ?_⟩
    have u1N := u1.trans uN
    by_cases c : n ∈ s_.said.map Rw.num
    case neg =>
      rw [decide_eq_false c]
      refine iteF ?_
      refine ⟨.ref td, rfl, td, _, _, .str "unsay", rfl, rfl, .inl (.inl (uN _ _ hd1)), rfl, rfl, false, sF (by decide +kernel), iteF (iteF ?_)⟩
      refine ⟨.ref t, rfl, ?_⟩
      refine ⟨szN 3 rfl, fun tr n_tr => ?_⟩
      generalize e_tr : upd HN tr _ = HR
      have uR := new_same e_tr n_tr
      have zR := new_at e_tr
      clear e_tr
      exact no_ 3 HR tr (.inr ⟨c, rfl⟩) (u1N.trans uR) zR
    rw [decide_eq_true c]
    refine iteT ?_
    obtain ⟨k, hk⟩ := fst_of c
    refine ⟨.int s_.size, rfl, .int s_.coming, rfl, .ref la, rfl, la, rfl, ⟨_, .inl (.inl (u1N _ _ h3))⟩, fun D nD => ?_⟩
    refine lc_list (xs := xs) (fun i H5 => Same HN H5 ∧ ∃ zs, H5 D = some (.lst zs) ∧ RL H5 zs ((s_.said.take i).filter fun r => !decide (r.num = n)) ∧ zs.length ≤ i) ⟨same_upd nD, [], upd_same, LL.nil, Nat.le_refl _⟩ (fun i H5 _ hP => .inl (.inl (hP.1 _ _ (u1N _ _ h3)))) (fun i v H5 hv hP => ?_) (fun H5 hP => ?_)
    · obtain ⟨sm, zs, eD, rl, zl⟩ := hP
      obtain ⟨r, hr_, tr, rfl, ht⟩ := h4.get hv
      have hi : i < s_.said.length := (List.getElem?_eq_some_iff.mp hr_).1
      have et : s_.said.take (i + 1) = s_.said.take i ++ [r] := by rw [List.take_add_one, hr_]; rfl
      have htr := sm _ _ (u1N _ _ ht)
      refine ⟨rfl, ?_⟩
      refine ⟨.ref tr, rfl, tr, _, _, .int r.num, rfl, rfl, .inl (.inl htr), rfl, .ref td, rfl, td, _, _, .int n, rfl, rfl, .inl (.inl (sm _ _ (uN _ _ hd1))), rfl, rfl, _, rfl, ?_⟩
      refine ite2 (fun c => ?_) (fun c => ?_)
      · have c : ¬ r.num = n := fun z => by rw [z, decide_eq_true rfl] at c; cases c
        refine ⟨.ref tr, rfl, zs, eD, small1000 (by omega), same_over sm nD, _, upd_same, ?_, by rw [List.length_append, List.length_singleton]; omega⟩
        rw [et, List.filter_append, List.filter_cons_of_pos (by simp [c])]
        exact LL.snoc (RL.ts (fun t' xs' e => by rw [upd_ne (fun z => by rw [z, eD] at e; cases e)]; exact e) rl) ⟨tr, rfl, by rw [upd_ne (fun z => by rw [z, eD] at htr; cases htr)]; exact htr⟩
      · have c : r.num = n := by
          by_cases z : r.num = n
          · exact z
          · exact absurd (by rw [decide_eq_false fun y => z (V.int.inj y)]; rfl) c
        refine ⟨sm, zs, eD, ?_, by omega⟩
        rw [et, List.filter_append, List.filter_cons_of_neg (by simp [c]), List.filter_nil, List.append_nil]
        exact rl
    · obtain ⟨sm, zs, eD, rl, zl⟩ := hP
      rw [h4.len, List.take_length, filter_erase Rw.num wf.r1 hk] at rl
      refine ⟨.ref lb, rfl, ?_⟩
      refine ⟨szN 4 rfl, fun te n_te => ?_⟩
      generalize e_te : upd H5 te _ = H9
      have u9 := new_same e_te n_te
      have z9 := new_at e_te
      clear e_te
      refine ⟨szN 3 rfl, fun tf n_tf => ?_⟩
      generalize e_tf : upd H9 tf _ = HA
      have uA := new_same e_tf n_tf
      have zA := new_at e_tf
      clear e_tf
      have u9A := u9.trans uA
      have uAll := u1N.trans (sm.trans u9A)
      exact yes_ none s_.coming (s_.said.eraseIdx k) s_.noted HA te tf D lb zs ys (.inl ⟨k, hk, rfl⟩) uAll (uA _ _ z9) (u9A _ _ eD) (RL.ts (TS.of u9A) rl) (uAll _ _ h5) (ML.ts (TS.of uAll) h6) ((na.same u1N).not nD) h8 zA
  | forget n =>
    have hd : H' td = some (.tup [.str "forget", .int n]) := hd
    refine ⟨.ref td, rfl, td, _, _, .str "forget", rfl, rfl, .inl (.inl hd), rfl, ?_⟩
    refine ⟨szN 2 rfl, fun tw n_tw => ?_⟩
    generalize e_tw : upd H' tw _ = H1
    have u1 := new_same e_tw n_tw
    have z1 := new_at e_tw
    clear e_tw
    refine ⟨tw, _, rfl, .inr (.inl (.inl z1)), rfl, by decide +kernel, false, by decide +kernel, iteF ?_⟩
    have hd1 := u1 _ _ hd
    refine ⟨.ref td, rfl, td, _, _, .str "forget", rfl, rfl, .inl (.inl hd1), rfl, rfl, false, sF (by decide +kernel), iteF ?_⟩
    refine ⟨.ref td, rfl, td, _, _, .str "forget", rfl, rfl, .inl (.inl hd1), rfl, rfl, false, sF (by decide +kernel), iteF (iteF ?_)⟩
    refine ⟨.ref td, rfl, td, _, _, .str "forget", rfl, rfl, .inl (.inl hd1), rfl, rfl, true, sT _, iteT ?_⟩
    have hdH := hd1
    refine ⟨.ref td, rfl, td, _, _, .int n, rfl, rfl, .inl (.inl hdH), rfl, .ref lb, rfl, lb, _, _, rfl, u1 _ _ h5, (ML.ts (TS.of u1) h6).hd, by rw [List.length_map]; omega, fun HN ln uN zN => ?_⟩
    refine ⟨ln, _, rfl, .inl (.inl (.inl zN)), rfl, flat_int, decide ((n ∈ s_.noted.map Me.num)), by rw [inV_int]; rfl, ?_⟩
    have u1N := u1.trans uN
    by_cases c : n ∈ s_.noted.map Me.num
    case neg =>
      rw [decide_eq_false c]
      refine iteF ?_
      refine ⟨.ref t, rfl, ?_⟩
      refine ⟨szN 3 rfl, fun tr n_tr => ?_⟩
      generalize e_tr : upd HN tr _ = HR
      have uR := new_same e_tr n_tr
      have zR := new_at e_tr
      clear e_tr
      exact no_ 3 HR tr (.inr ⟨c, rfl⟩) (u1N.trans uR) zR
    rw [decide_eq_true c]
    refine iteT ?_
    obtain ⟨k, hk⟩ := fst_of c
    refine ⟨.int s_.size, rfl, .int s_.coming, rfl, .ref la, rfl, .ref lb, rfl, lb, rfl, ⟨_, .inl (.inl (u1N _ _ h5))⟩, fun D nD => ?_⟩
    refine lc_list (xs := ys) (fun i H5 => Same HN H5 ∧ ∃ zs, H5 D = some (.lst zs) ∧ ML H5 zs ((s_.noted.take i).filter fun r => !decide (r.num = n)) ∧ zs.length ≤ i) ⟨same_upd nD, [], upd_same, LL.nil, Nat.le_refl _⟩ (fun i H5 _ hP => .inl (.inl (hP.1 _ _ (u1N _ _ h5)))) (fun i v H5 hv hP => ?_) (fun H5 hP => ?_)
    · obtain ⟨sm, zs, eD, rl, zl⟩ := hP
      obtain ⟨r, hr_, tr, rfl, ht⟩ := h6.get hv
      have hi : i < s_.noted.length := (List.getElem?_eq_some_iff.mp hr_).1
      have et : s_.noted.take (i + 1) = s_.noted.take i ++ [r] := by rw [List.take_add_one, hr_]; rfl
      have htr := sm _ _ (u1N _ _ ht)
      refine ⟨rfl, ?_⟩
      refine ⟨.ref tr, rfl, tr, _, _, .int r.num, rfl, rfl, .inl (.inl htr), rfl, .ref td, rfl, td, _, _, .int n, rfl, rfl, .inl (.inl (sm _ _ (uN _ _ hd1))), rfl, rfl, _, rfl, ?_⟩
      refine ite2 (fun c => ?_) (fun c => ?_)
      · have c : ¬ r.num = n := fun z => by rw [z, decide_eq_true rfl] at c; cases c
        refine ⟨.ref tr, rfl, zs, eD, small1000 (by omega), same_over sm nD, _, upd_same, ?_, by rw [List.length_append, List.length_singleton]; omega⟩
        rw [et, List.filter_append, List.filter_cons_of_pos (by simp [c])]
        exact LL.snoc (ML.ts (fun t' xs' e => by rw [upd_ne (fun z => by rw [z, eD] at e; cases e)]; exact e) rl) ⟨tr, rfl, by rw [upd_ne (fun z => by rw [z, eD] at htr; cases htr)]; exact htr⟩
      · have c : r.num = n := by
          by_cases z : r.num = n
          · exact z
          · exact absurd (by rw [decide_eq_false fun y => z (V.int.inj y)]; rfl) c
        refine ⟨sm, zs, eD, ?_, by omega⟩
        rw [et, List.filter_append, List.filter_cons_of_neg (by simp [c]), List.filter_nil, List.append_nil]
        exact rl
    · obtain ⟨sm, zs, eD, rl, zl⟩ := hP
      rw [h6.len, List.take_length, filter_erase Me.num wf.r2 hk] at rl
      refine ⟨szN 4 rfl, fun te n_te => ?_⟩
      generalize e_te : upd H5 te _ = H9
      have u9 := new_same e_te n_te
      have z9 := new_at e_te
      clear e_te
      refine ⟨szN 3 rfl, fun tf n_tf => ?_⟩
      generalize e_tf : upd H9 tf _ = HA
      have uA := new_same e_tf n_tf
      have zA := new_at e_tf
      clear e_tf
      have u9A := u9.trans uA
      have uAll := u1N.trans (sm.trans u9A)
      exact yes_ none s_.coming s_.said (s_.noted.eraseIdx k) HA te tf la D xs zs (.inl ⟨k, hk, rfl⟩) uAll (uA _ _ z9) (uAll _ _ h3) (RL.ts (TS.of uAll) h4) (u9A _ _ eD) (ML.ts (TS.of u9A) rl) h7 ((na.same u1N).not nD) zA
  | amend n y =>
    have hd : H' td = some (.tup [.str "amend", .int n, .int y.lo, .int y.hi, .int y.n, .bl y.t]) := hd
    refine ⟨.ref td, rfl, td, _, _, .str "amend", rfl, rfl, .inl (.inl hd), rfl, ?_⟩
    refine ⟨szN 2 rfl, fun tw n_tw => ?_⟩
    generalize e_tw : upd H' tw _ = H1
    have u1 := new_same e_tw n_tw
    have z1 := new_at e_tw
    clear e_tw
    refine ⟨tw, _, rfl, .inr (.inl (.inl z1)), rfl, by decide +kernel, true, by decide +kernel, iteT ?_⟩
    have hd1 := u1 _ _ hd
    refine ⟨fun σ' H2 => σ' = [some (.ref t), some (.ref td), some (.int s_.size), some (.int s_.coming), some (.ref la), some (.ref lb), some (.int y.lo), some (.int y.hi), some (.int y.n), some (.bl y.t), none, none, none] ∧ Same H1 H2, ?_, ?_⟩
    · refine ⟨.ref td, rfl, 4, rfl, _, rfl, td, _, rfl, .inl (.inl hd1), (show ¬ (HT.sIx 6 0 (some (-4)) = 0 ∧ HT.sIx 6 6 none = 6) from by decide), ?_⟩
      intro t2 n_t2
      generalize e_t2 : upd H1 t2 _ = H2
      have u2 := new_same e_t2 n_t2
      have z2 := new_at e_t2
      clear e_t2
      have z2 : H2 t2 = some (.tup [.int y.lo, .int y.hi, .int y.n, .bl y.t]) := z2
      exact ⟨t2, _, rfl, .inl (.inl z2), rfl, _, _, rfl, _, _, rfl, _, _, rfl, _, _, rfl, rfl, rfl, u2⟩
    rintro σ' H2 ⟨rfl, u2⟩
    refine ⟨fun σ' H3 => σ' = [some (.ref t), some (.ref td), some (.int s_.size), some (.int s_.coming), some (.ref la), some (.ref lb), some (.int y.lo), some (.int y.hi), some (.int y.n), some (.bl y.t), some (.bl (decide (Gd2 s_.size y))), none, none] ∧ H3 = H2, ?_, ?_⟩
    · refine ⟨.int s_.size, rfl, .int y.lo, rfl, .int y.n, rfl, s_.size, y.lo, y.n, rfl, ?_⟩
      by_cases g1 : St_ y.lo y.n s_.size
      · refine ⟨true, by rw [decide_eq_true g1], iteT ?_⟩
        refine ⟨.int s_.size, rfl, .int y.hi, rfl, .int y.n, rfl, s_.size, y.hi, y.n, rfl, ?_⟩
        have e1 : decide (St_ y.hi y.n s_.size) = decide (Gd2 s_.size y) := decide_eq_decide.mpr ⟨fun z => ⟨g1, z⟩, fun z => z.2⟩
        rw [e1]; exact ⟨rfl, rfl⟩
      · refine ⟨false, by rw [decide_eq_false g1], iteF ?_⟩
        have e1 : decide (Gd2 s_.size y) = false := decide_eq_false fun z => g1 z.1
        rw [e1]; exact ⟨rfl, rfl⟩
    rintro σ' H3 ⟨rfl, eH⟩
    subst eH
    have u3 := u1.trans u2
    have hd3 := u3 _ _ hd
    refine ⟨.ref td, rfl, td, _, _, .str "amend", rfl, rfl, .inl (.inl hd3), rfl, rfl, true, sT _, iteT ?_⟩
    have hdH := hd3
    refine ⟨.ref td, rfl, td, _, _, .int n, rfl, rfl, .inl (.inl hdH), rfl, .ref la, rfl, la, _, _, rfl, u3 _ _ h3, (RL.ts (TS.of u3) h4).hd, by rw [List.length_map]; omega, fun HN ln uN zN => ?_⟩
    refine ⟨ln, _, rfl, .inl (.inl (.inl zN)), rfl, flat_int, decide (¬ (n ∈ s_.said.map Rw.num)), by rw [inV_int, decide_not]; rfl, ?_⟩
    have u3N := u3.trans uN
    have hdN := uN _ _ hd3
    by_cases c : n ∈ s_.said.map Rw.num
    case neg =>
      rw [decide_eq_true c]
      refine iteT ?_
      refine ⟨.ref t, rfl, ?_⟩
      refine ⟨szN 3 rfl, fun tr n_tr => ?_⟩
      generalize e_tr : upd HN tr _ = HR
      have uR := new_same e_tr n_tr
      have zR := new_at e_tr
      clear e_tr
      exact no_ 3 HR tr (.inr (.inr ⟨c, rfl⟩)) (u3N.trans uR) zR
    rw [show decide (¬ (n ∈ s_.said.map Rw.num)) = false from decide_eq_false fun z => z c]
    refine iteF ?_
    obtain ⟨k, hk⟩ := fst_of c
    refine ⟨.bl (decide (Gd2 s_.size y)), rfl, _, rfl, ?_⟩
    by_cases g : Gd2 s_.size y
    case neg =>
      rw [decide_eq_false g]
      refine iteT ?_
      refine ⟨.ref t, rfl, ?_⟩
      refine ⟨szN 3 rfl, fun tr n_tr => ?_⟩
      generalize e_tr : upd HN tr _ = HR
      have uR := new_same e_tr n_tr
      have zR := new_at e_tr
      clear e_tr
      exact no_ 1 HR tr (.inr (.inl ⟨k, hk, g, rfl⟩)) (u3N.trans uR) zR
    rw [decide_eq_true g]
    refine iteF ?_
    refine ⟨.ref td, rfl, td, _, _, .str "amend", rfl, rfl, .inl (.inl hdN), rfl, rfl, false, sF (by decide +kernel), iteF (iteF ?_)⟩
    refine ⟨.ref td, rfl, td, _, _, .str "amend", rfl, rfl, .inl (.inl hdN), rfl, rfl, false, sF (by decide +kernel), iteF ?_⟩
    refine ⟨.ref la, rfl, la, rfl, ⟨_, .inl (.inl (u3N _ _ h3))⟩, fun D nD => ?_⟩
    refine lc_list (xs := xs) (fun i H5 => Same HN H5 ∧ ∃ zs, H5 D = some (.lst zs) ∧ RL H5 zs ((s_.said.take i).map fun r => if r.num = n then ⟨n, y⟩ else r) ∧ zs.length = i) ⟨same_upd nD, [], upd_same, LL.nil, rfl⟩ (fun i H5 _ hP => .inl (.inl (hP.1 _ _ (u3N _ _ h3)))) (fun i v H5 hv hP => ?_) (fun H5 hP => ?_)
    · obtain ⟨sm, zs, eD, rl, zl⟩ := hP
      obtain ⟨r, hr_, tr, rfl, ht⟩ := h4.get hv
      have hi : i < s_.said.length := (List.getElem?_eq_some_iff.mp hr_).1
      have et : s_.said.take (i + 1) = s_.said.take i ++ [r] := by rw [List.take_add_one, hr_]; rfl
      have htr := sm _ _ (u3N _ _ ht)
      have htd := sm _ _ hdN
      refine ⟨rfl, ?_⟩
      refine tYes_ok ?_
      refine iteT ?_
      refine ⟨.ref tr, rfl, tr, _, _, .int r.num, rfl, rfl, .inl (.inl htr), rfl, .ref td, rfl, td, _, _, .int n, rfl, rfl, .inl (.inl htd), rfl, rfl, _, rfl, ?_⟩
      refine ite2 (fun c => ?_) (fun c => ?_)
      · have c : r.num = n := V.int.inj (of_decide_eq_true c)
        refine ⟨.ref td, rfl, _, rfl, td, _, rfl, .inl (.inl htd), (show ¬ (HT.sIx 6 0 (some 1) = 0 ∧ HT.sIx 6 6 none = 6) from by decide), ?_⟩
        intro tb n_tb
        generalize e_tb : upd H5 tb _ = H6
        have u6 := new_same e_tb n_tb
        have z6 := new_at e_tb
        clear e_tb
        have z6 : H6 tb = some (.tup [.int n, .int y.lo, .int y.hi, .int y.n, .bl y.t]) := z6
        have eD6 := u6 _ _ eD
        refine ⟨zs, eD6, small1000 (by omega), same_over (sm.trans u6) nD, _, upd_same, ?_, by rw [List.length_append, List.length_singleton]; omega⟩
        rw [et, List.map_append, List.map_cons, if_pos c]
        exact LL.snoc (RL.ts (fun t' xs' e => by rw [upd_ne (fun z => by rw [z, eD6] at e; cases e)]; exact e) (RL.ts (TS.of u6) rl)) ⟨tb, rfl, by rw [upd_ne (fun z => by rw [z, eD6] at z6; cases z6)]; exact z6⟩
      · have c : ¬ r.num = n := fun z => c (decide_eq_true (by rw [z]))
        refine ⟨.ref tr, rfl, zs, eD, small1000 (by omega), same_over sm nD, _, upd_same, ?_, by rw [List.length_append, List.length_singleton]; omega⟩
        rw [et, List.map_append, List.map_cons, if_neg c]
        exact LL.snoc (RL.ts (fun t' xs' e => by rw [upd_ne (fun z => by rw [z, eD] at e; cases e)]; exact e) rl) ⟨tr, rfl, by rw [upd_ne (fun z => by rw [z, eD] at htr; cases htr)]; exact htr⟩
    · obtain ⟨sm, zs, eD, rl, zl⟩ := hP
      rw [h4.len, List.take_length, map_set Rw.num wf.r1 hk] at rl
      refine ⟨.int s_.size, rfl, .int s_.coming, rfl, .ref D, rfl, .ref lb, rfl, ?_⟩
      refine ⟨szN 4 rfl, fun te n_te => ?_⟩
      generalize e_te : upd H5 te _ = H9
      have u9 := new_same e_te n_te
      have z9 := new_at e_te
      clear e_te
      refine ⟨szN 3 rfl, fun tf n_tf => ?_⟩
      generalize e_tf : upd H9 tf _ = HA
      have uA := new_same e_tf n_tf
      have zA := new_at e_tf
      clear e_tf
      have u9A := u9.trans uA
      have uAll := u3N.trans (sm.trans u9A)
      exact yes_ none s_.coming (s_.said.set k ⟨n, y⟩) s_.noted HA te tf D lb zs ys (.inl ⟨k, hk, g, rfl⟩) uAll (uA _ _ z9) (u9A _ _ eD) (RL.ts (TS.of u9A) rl) (uAll _ _ h5) (ML.ts (TS.of uAll) h6) ((na.same u3N).not nD) h8 zA
  | rem z x m =>
    have hd : H' td = some (.tup [.str "remember", .str z, .int x, .int m]) := hd
    have dok : z.length ≤ 1000 := dok
    refine ⟨.ref td, rfl, td, _, _, .str "remember", rfl, rfl, .inl (.inl hd), rfl, ?_⟩
    refine ⟨szN 2 rfl, fun tw n_tw => ?_⟩
    generalize e_tw : upd H' tw _ = H1
    have u1 := new_same e_tw n_tw
    have z1 := new_at e_tw
    clear e_tw
    refine ⟨tw, _, rfl, .inr (.inl (.inl z1)), rfl, by decide +kernel, false, by decide +kernel, iteF ?_⟩
    have hd1 := u1 _ _ hd
    refine ⟨.ref td, rfl, td, _, _, .str "remember", rfl, rfl, .inl (.inl hd1), rfl, rfl, true, sT _, iteT ?_⟩
    refine ⟨.ref td, rfl, td, _, _, .str z, rfl, rfl, .inl (.inl hd1), rfl, z, rfl, Nat.le_trans dok (by decide), rfl, _, rfl, ite2 (fun c => ?_) (fun c => ?_)⟩
    · have c : ¬ z.length = 1 := fun y => by rw [y] at c; exact absurd c (by decide)
      refine iteT ?_
      refine ⟨.ref t, rfl, ?_⟩
      refine ⟨szN 3 rfl, fun tr n_tr => ?_⟩
      generalize e_tr : upd H1 tr _ = HR
      have uR := new_same e_tr n_tr
      have zR := new_at e_tr
      clear e_tr
      exact no_ 4 HR tr (.inr (.inr (.inr ⟨fun y => c y.len, rfl⟩))) (u1.trans uR) zR
    have c : z.length = 1 := by
      by_cases y : z.length = 1
      · exact y
      · exact absurd (by rw [decide_eq_false fun w => y (by have := V.int.inj w; omega)]; rfl) c
    obtain ⟨ch, rfl⟩ := str_one c
    refine ⟨.ref td, rfl, td, _, _, .str ⟨#[ch]⟩, rfl, rfl, .inl (.inl hd1), rfl, ch, _, rfl, rfl, _, rfl, ?_⟩
    by_cases g : Ltr ⟨#[ch]⟩
    case neg =>
      rw [decide_eq_false (fun y => g (ltr_one.mpr (abc_mem.mp y)))]
      refine iteT ?_
      refine ⟨.ref t, rfl, ?_⟩
      refine ⟨szN 3 rfl, fun tr n_tr => ?_⟩
      generalize e_tr : upd H1 tr _ = HR
      have uR := new_same e_tr n_tr
      have zR := new_at e_tr
      clear e_tr
      exact no_ 4 HR tr (.inr (.inr (.inr ⟨g, rfl⟩))) (u1.trans uR) zR
    rw [decide_eq_true (abc_mem.mpr (ltr_one.mp g))]
    refine iteF ?_
    refine ⟨.int s_.size, rfl, .ref td, rfl, td, _, _, .int x, rfl, rfl, .inl (.inl hd1), rfl, .ref td, rfl, td, _, _, .int m, rfl, rfl, .inl (.inl hd1), rfl, s_.size, x, m, rfl, ?_⟩
    by_cases g2 : St_ x m s_.size
    case neg =>
      refine ⟨false, by rw [decide_eq_false g2], ?_⟩
      refine iteT ?_
      refine ⟨.ref t, rfl, ?_⟩
      refine ⟨szN 3 rfl, fun tr n_tr => ?_⟩
      generalize e_tr : upd H1 tr _ = HR
      have uR := new_same e_tr n_tr
      have zR := new_at e_tr
      clear e_tr
      exact no_ 1 HR tr (.inr (.inr (.inl ⟨g, g2, rfl⟩))) (u1.trans uR) zR
    refine ⟨true, by rw [decide_eq_true g2], ?_⟩
    refine iteF ?_
    refine ⟨.ref lb, rfl, lb, ys, rfl, .inl (.inl (.inl (u1 _ _ h5))), _, _, rfl, rfl, _, rfl, ite2 (fun c => ?_) (fun c => ?_)⟩
    · have c : (24 : Int) ≤ ys.length := of_decide_eq_true c
      refine ⟨.ref t, rfl, ?_⟩
      refine ⟨szN 3 rfl, fun tr n_tr => ?_⟩
      generalize e_tr : upd H1 tr _ = HR
      have uR := new_same e_tr n_tr
      have zR := new_at e_tr
      clear e_tr
      exact no_ 5 HR tr (.inr (.inl ⟨g, g2, by omega, rfl⟩)) (u1.trans uR) zR
    have c : ¬ (24 : Int) ≤ ys.length := fun z => c (decide_eq_true z)
    refine ⟨.int s_.coming, rfl, .int s_.size, rfl, .int s_.coming, rfl, _, _, rfl, rfl, .ref la, rfl, .ref lb, rfl, .int s_.coming, rfl, ?_⟩
    refine ⟨szN 1 rfl, fun ta n_ta => ?_⟩
    generalize e_ta : upd H1 ta _ = H4
    have u4 := new_same e_ta n_ta
    have z4 := new_at e_ta
    clear e_ta
    refine ⟨.ref td, rfl, _, rfl, td, _, rfl, .inl (.inl (u4 _ _ hd1)), (show ¬ (HT.sIx 4 0 (some 1) = 0 ∧ HT.sIx 4 4 none = 4) from by decide), ?_⟩
    intro tb n_tb
    generalize e_tb : upd H4 tb _ = H5
    have u5 := new_same e_tb n_tb
    have z5 := new_at e_tb
    clear e_tb
    have z5 : H5 tb = some (.tup [.str ⟨#[ch]⟩, .int x, .int m]) := z5
    refine ⟨ta, tb, _, _, rfl, rfl, .inl (.inl (u5 _ _ z4)), .inl (.inl z5), (fun z => nomatch z), by show 1 + 3 ≤ sizeLine; decide, (fun z => nomatch z), fun _ => ?_⟩
    intro tc n_tc
    generalize e_tc : upd H5 tc _ = H6
    have u6 := new_same e_tc n_tc
    have z6 := new_at e_tc
    clear e_tc
    have z6 : H6 tc = some (.tup [.int s_.coming, .str ⟨#[ch]⟩, .int x, .int m]) := z6
    refine ⟨szN 1 rfl, fun lc n_lc => ?_⟩
    generalize e_lc : upd H6 lc _ = H7
    have u7 := new_same e_lc n_lc
    have z7 := new_at e_lc
    clear e_lc
    have u37 := u1.trans (u4.trans (u5.trans (u6.trans u7)))
    refine ⟨lb, lc, _, _, rfl, rfl, u37 _ _ h5, z7, Nat.le_trans (show ys.length + 1 ≤ 1000 by omega) (by decide), ?_⟩
    intro ld n_ld
    generalize e_ld : upd H7 ld _ = H8
    have u8 := new_same e_ld n_ld
    have z8 := new_at e_ld
    clear e_ld
    refine ⟨szN 4 rfl, fun te n_te => ?_⟩
    generalize e_te : upd H8 te _ = H9
    have u9 := new_same e_te n_te
    have z9 := new_at e_te
    clear e_te
    refine ⟨szN 3 rfl, fun tf n_tf => ?_⟩
    generalize e_tf : upd H9 tf _ = HA
    have uA := new_same e_tf n_tf
    have zA := new_at e_tf
    clear e_tf
    have u8A := u9.trans uA
    have uAll := u37.trans (u8.trans u8A)
    exact yes_ (some s_.coming) (s_.coming + 1) s_.said (s_.noted ++ [⟨s_.coming, ⟨#[ch]⟩, x, m⟩]) HA te tf la ld xs _ (.inl ⟨g, g2, by omega, rfl⟩) uAll (uA _ _ z9) (uAll _ _ h3) (RL.ts (TS.of uAll) h4) (u8A _ _ z8) ((ML.ts (TS.of uAll) h6).snoc ⟨tc, rfl, (u7.trans (u8.trans u8A)) _ _ z6⟩) h7 ((na.same u37).not n_ld) zA
  | longer m => cases lk
  | shorter m => cases lk
end
end Rep
namespace Rep
open PySem L2 L2H RepHot
/-! the law's model -/
def mdK (tv : V) (pa aa : Addr) : List (Key × V) := [(.inr "now", tv), (.inr "past", .ref pa), (.inr "ahead", .ref aa)]
theorem kk : ¬ ((Sum.inr ("now" : Str) : Key) = (Sum.inr ("past" : Str) : Key)) ∧ ¬ ((Sum.inr ("now" : Str) : Key) = (Sum.inr ("ahead" : Str) : Key)) ∧ ¬ ((Sum.inr ("past" : Str) : Key) = (Sum.inr ("ahead" : Str) : Key)) := by decide +kernel
theorem md_now (tv : V) (pa aa : Addr) : valV (mdK tv pa aa) (Sum.inr "now") = some tv := valV_pos rfl
theorem md_past (tv : V) (pa aa : Addr) : valV (mdK tv pa aa) (Sum.inr "past") = some (.ref pa) := by unfold mdK; rw [valV_neg kk.1]; exact valV_pos rfl
theorem md_ahead (tv : V) (pa aa : Addr) : valV (mdK tv pa aa) (Sum.inr "ahead") = some (.ref aa) := by unfold mdK; rw [valV_neg kk.2.1, valV_neg kk.2.2]; exact valV_pos rfl
theorem put_now (tv tv' : V) (pa aa : Addr) : putK (mdK tv pa aa) (Sum.inr "now") tv' = mdK tv' pa aa := by
  unfold putK mdK
  rw [if_pos (by simp)]
  show (if _ then _ else _) :: (if _ then _ else _) :: (if _ then _ else _) :: [] = _
  rw [if_pos rfl, if_neg (fun z => kk.1 z.symm), if_neg (fun z => kk.2.1 z.symm)]
theorem put_ahead (tv : V) (pa aa aa' : Addr) : putK (mdK tv pa aa) (Sum.inr "ahead") (.ref aa') = mdK tv pa aa' := by
  unfold putK mdK
  rw [if_pos (by simp)]
  show (if _ then _ else _) :: (if _ then _ else _) :: (if _ then _ else _) :: [] = _
  rw [if_neg kk.2.1, if_neg kk.2.2, if_pos rfl]
theorem LL.tr {α : Type} {D D' : Hp → V → α → Prop} {H H' : Hp} {vs : List V} {as : List α} (h : LL D H vs as) (s : ∀ v a, D H v a → D' H' v a) : LL D' H' vs as := ⟨h.len, fun i v a h1 h2 => s v a (h.at_ i v a h1 h2)⟩
def Nn (X : Addr → Prop) (pa aa : Addr) : Addr → Prop := fun a => a = pa ∨ a = aa ∨ X a
/-- lists that are there -/
def NX (X : Addr → Prop) (H : Hp) : Prop := ∀ a, X a → ∃ us, H a = some (.lst us)
/-- lists stay lists -/
def Kin (H H' : Hp) : Prop := ∀ c us, H c = some (.lst us) → ∃ us', H' c = some (.lst us')
theorem Kin.of {H H' : Hp} (s : Same H H') : Kin H H' := fun c us e => ⟨us, s _ _ e⟩
theorem Kin.trans {H H1 H2 : Hp} (a : Kin H H1) (b : Kin H1 H2) : Kin H H2 := fun c us e => by obtain ⟨us1, e1⟩ := a c us e; exact b c us1 e1
theorem NX.kin {X : Addr → Prop} {H H' : Hp} (h : NX X H) (k : Kin H H') : NX X H' := fun a z => by obtain ⟨us, e⟩ := h a z; exact k a us e
theorem NX.same {X : Addr → Prop} {H H' : Hp} (h : NX X H) (s : Same H H') : NX X H' := h.kin (.of s)
theorem NX.na {X : Addr → Prop} {H : Hp} (h : NX X H) : NA X H := fun a z => by obtain ⟨us, e⟩ := h a z; exact ⟨_, e⟩
theorem nx0 {H : Hp} : NX (fun _ => False) H := fun a z => z.elim
structure MdAt (X : Addr → Prop) (pa aa : Addr) (H : Hp) (m : Addr) (past : List Sht) (now : Sht) (ahead : List Sht) : Prop where
  ex : ∃ (tv : V) (ps as : List V), H m = some (.dK (mdK tv pa aa)) ∧ StAt (Nn X pa aa) H tv now ∧ H pa = some (.lst ps) ∧ LL (StAt (Nn X pa aa)) H ps past ∧ H aa = some (.lst as) ∧ LL (StAt (Nn X pa aa)) H as ahead ∧ pa ≠ aa
theorem MdAt.same {X : Addr → Prop} {pa aa m : Addr} {H H' : Hp} {past ahead : List Sht} {now : Sht} (h : MdAt X pa aa H m past now ahead) (s : Same H H') : MdAt X pa aa H' m past now ahead := by
  obtain ⟨tv, ps, as, h1, h2, h3, h4, h5, h6, h7⟩ := h.ex
  exact ⟨tv, ps, as, s _ _ h1, h2.same s, s _ _ h3, h4.imp fun _ _ z => z.same s, s _ _ h5, h6.imp fun _ _ z => z.same s, h7⟩
theorem MdAt.sam {X : Addr → Prop} {BK : Addr} {pa aa m b dx : Addr} {fs : List (Str × V)} {H H' : Hp} {past ahead : List Sht} {now : Sht} (h : MdAt X pa aa H m past now ahead) (s : Sam b H H') (hb : H b = some (.ins BK dx fs)) : MdAt X pa aa H' m past now ahead := by
  obtain ⟨tv, ps, as, h1, h2, h3, h4, h5, h6, h7⟩ := h.ex
  have kp : Kp (BK + 1) (Nn X pa aa) H H' := .sam s hb (Nat.succ_ne_self BK).symm
  have ne : ∀ {c : Addr} {o : HO}, H c = some o → (∀ C dx fs, o ≠ .ins C dx fs) → H' c = some o := fun {c o} e z => s _ _ e fun y => by rw [y, hb] at e; exact z _ _ _ (Option.some.inj e).symm
  exact ⟨tv, ps, as, ne h1 (fun _ _ _ z => by cases z), h2.kp kp, ne h3 (fun _ _ _ z => by cases z), h4.imp fun _ _ z => z.kp kp, ne h5 (fun _ _ _ z => by cases z), h6.imp fun _ _ z => z.kp kp, h7⟩
theorem Kp.lst {S c : Addr} {N : Addr → Prop} {H : Hp} {xs : List V} {o : HO} (hn : N c) (e : H c = some (.lst xs)) : Kp S N H (upd H c o) := fun b x eb w => by
  by_cases z : b = c
  · subst z
    rw [e] at eb
    cases eb
    exact absurd hn w
  · rw [upd_ne z]; exact eb
theorem Kp.dk {S c : Addr} {N : Addr → Prop} {H : Hp} {kv : List (Key × V)} {o : HO} (e : H c = some (.dK kv)) : Kp S N H (upd H c o) := fun b x eb w => by
  by_cases z : b = c
  · subst z
    rw [e] at eb
    cases eb
    exact absurd w id
  · rw [upd_ne z]; exact eb
/-- only the model's own changes -/
def FrM (m pa aa : Addr) (H H' : Hp) : Prop := ∀ c o, H c = some o → c ≠ m → c ≠ pa → c ≠ aa → H' c = some o
theorem FrM.of {m pa aa : Addr} {H H' : Hp} (s : Same H H') : FrM m pa aa H H' := fun c o e _ _ _ => s _ _ e
theorem FrM.then {m pa aa : Addr} {H H1 H2 : Hp} (f : FrM m pa aa H H1) (s : Same H1 H2) : FrM m pa aa H H2 := fun c o e a b d => s _ _ (f c o e a b d)
theorem FrM.upd {m pa aa c : Addr} {H H1 : Hp} {o : HO} (f : FrM m pa aa H H1) (hc : c = m ∨ c = pa ∨ c = aa) : FrM m pa aa H (upd H1 c o) := fun x p e a b d => by
  rw [upd_ne (fun z => by subst z; rcases hc with z | z | z <;> contradiction)]; exact f x p e a b d
abbrev Res := Nat ⊕ (Option Int × List Sht × Sht × List Sht)
def wordR : Res → Str
  | .inl j => kinWord j
  | .inr _ => ""
def toldR : Res → V
  | .inl _ => .non
  | .inr (o, _) => oV' o
def resB (past : List Sht) (now : Sht) (ahead : List Sht) : Res → List Sht × Sht × List Sht
  | .inl _ => (past, now, ahead)
  | .inr (_, x) => x
def liftR (past : List Sht) (now : Sht) : Nat ⊕ (Option Int × Sht) → Res
  | .inl j => .inl j
  | .inr (o, s') => .inr (o, past ++ [now], s', [])
def RStp (past : List Sht) (now : Sht) (ahead : List Sht) : De → Res → Prop
  | .dd d, r => ∃ r0, Stp now d r0 ∧ r = liftR past now r0
  | .undo, r => (past = [] ∧ r = .inl 7) ∨ (∃ p x, past = p ++ [x] ∧ r = .inr (none, p, x, ahead ++ [now]))
  | .redo, r => (ahead = [] ∧ r = .inl 7) ∨ (∃ a x, ahead = a ++ [x] ∧ r = .inr (none, past ++ [now], x, a))
def deOk : De → Prop
  | .dd d => ddOk d
  | _ => True
def spDm : Sp := fun vs H Q _ => ∃ (X : Addr → Prop) (m pa aa : Addr) (dv : V) (past : List Sht) (now : Sht) (ahead : List Sht) (de : De), vs = [.ref m, dv] ∧ MdAt X pa aa H m past now ahead ∧ DeAt H dv de ∧ deOk de ∧ Wf now ∧ (∀ s ∈ past, Wf s) ∧ (∀ s ∈ ahead, Wf s) ∧ past.length + ahead.length ≤ 900 ∧ NX X H ∧
  ∀ r, RStp past now ahead de r → ∀ H' t aa', FrM m pa aa H H' → (∃ us, H' aa = some (.lst us)) → (aa' = aa ∨ H aa' = none) → MdAt X pa aa' H' m (resB past now ahead r).1 (resB past now ahead r).2.1 (resB past now ahead r).2.2 → H' t = some (.tup [.str (wordR r), toldR r]) → Q (.ref t) H'
theorem upd_none {H : Hp} {c x : Addr} {o : HO} (e : upd H c o x = none) : H x = none := by
  by_cases z : x = c
  · subst z; rw [upd_same] at e; cases e
  · rw [upd_ne z] at e; exact e
theorem stp_no {s : Sht} {d : Dd} {j : Nat} (h : Stp s d (.inl j)) : ¬ kinWord j = "" := by
  have hj : j = 0 ∨ j = 1 ∨ j = 3 ∨ j = 4 ∨ j = 5 ∨ j = 6 := by
    cases d with
    | say y => rcases h with ⟨_, _, h⟩ | ⟨_, _, h⟩ | ⟨_, h⟩ <;> cases h <;> simp
    | unsay n => rcases h with ⟨_, _, h⟩ | ⟨_, h⟩ <;> cases h <;> simp
    | amend n y => rcases h with ⟨_, _, _, h⟩ | ⟨_, _, _, h⟩ | ⟨_, h⟩ <;> cases h <;> simp
    | rem z x m => rcases h with ⟨_, _, _, h⟩ | ⟨_, _, _, h⟩ | ⟨_, _, h⟩ | ⟨_, h⟩ <;> cases h <;> simp
    | forget n => rcases h with ⟨_, _, h⟩ | ⟨_, h⟩ <;> cases h <;> simp
    | longer m => rcases h with ⟨_, _, h⟩ | ⟨_, h⟩ <;> cases h <;> simp
    | shorter m => rcases h with ⟨_, _, _, h⟩ | ⟨_, _, _, h⟩ | ⟨_, h⟩ <;> cases h <;> simp
  rcases hj with rfl | rfl | rfl | rfl | rfl | rfl <;> decide +kernel
/-! states as data -/
def meD' (m : Me) : PyData := .tuple [.int m.num, .str m.lt, .int m.at_, .int m.n]
theorem dpAll_me' {K : PySem.W.Frag} {H : Hp} : ∀ {vs : List V} {ms : List Me}, ML H vs ms → DpAll K H vs (ms.map meD')
  | [], [], _ => .nil
  | [], _ :: _, h => by have := h.len; simp at this
  | _ :: _, [], h => by have := h.len; simp at this
  | v :: vs, m :: ms, h => .cons (by obtain ⟨t, rfl, ht⟩ := h.at_ 0 v m rfl rfl
                                     exact .tup (.inl (.inl ht)) (.cons (.int _) (.cons (.str _) (.cons (.int _) (.cons (.int _) .nil))))) (dpAll_me' ⟨by have := h.len; simpa using this, fun i w u h1 h2 => h.at_ (i + 1) w u h1 h2⟩)
theorem canMe' : ∀ ms : List Me, (∀ m ∈ ms, Ltr m.lt) → PyData.canLayAll0 (ms.map meD') = true
  | [], _ => rfl
  | m :: r, h => by
    have hs : PyData.canLay0 (.str m.lt) = true := by
      obtain ⟨c, ec, _, hc⟩ := h m List.mem_cons_self
      rw [ec]
      show (#[c].all fun x => decide (x < 0x110000)) = true
      simp
      omega
    show ((true && (PyData.canLay0 (.str m.lt) && (true && (true && true)))) && PyData.canLayAll0 (r.map meD')) = true
    rw [canMe' r fun x hx => h x (List.mem_cons_of_mem _ hx), hs]; rfl
theorem depMe' : ∀ ms : List Me, PyData.depthAll (ms.map meD') ≤ 1
  | [] => Nat.zero_le _
  | _ :: r => by
    show max 1 (PyData.depthAll (r.map meD')) ≤ 1
    have := depMe' r
    omega
def stD (s : Sht) : PyData := .tuple [.int s.size, .int s.coming, .list (s.said.map rwD), .list (s.noted.map meD')]
theorem dpAll_st {K : PySem.W.Frag} {N : Addr → Prop} {H : Hp} : ∀ {vs : List V} {ss : List Sht}, LL (StAt N) H vs ss → DpAll K H vs (ss.map stD)
  | [], [], _ => .nil
  | [], _ :: _, h => by have := h.len; simp at this
  | _ :: _, [], h => by have := h.len; simp at this
  | v :: vs, m :: ms, h => .cons (by obtain ⟨t, la, lb, xs, ys, rfl, h2, h3, h4, h5, h6, h7, h8⟩ := (h.at_ 0 v m rfl rfl).ex
                                     exact .tup (.inl (.inl h2)) (.cons (.int _) (.cons (.int _) (.cons (.lst (.inl (.inl h3)) (dpAll_rw h4)) (.cons (.lst (.inl (.inl h5)) (dpAll_me' h6)) .nil))))) (dpAll_st ⟨by have := h.len; simpa using this, fun i w u h1 h2 => h.at_ (i + 1) w u h1 h2⟩)
theorem canSt : ∀ ss : List Sht, (∀ s ∈ ss, Wf s) → PyData.canLayAll0 (ss.map stD) = true
  | [], _ => rfl
  | s :: r, h => by
    show ((true && (true && (PyData.canLayAll0 (s.said.map rwD) && (PyData.canLayAll0 (s.noted.map meD') && true)))) && PyData.canLayAll0 (r.map stD)) = true
    rw [canSt r fun x hx => h x (List.mem_cons_of_mem _ hx), canRw, canMe' s.noted (h s List.mem_cons_self).lt]; rfl
theorem depSt : ∀ ss : List Sht, PyData.depthAll (ss.map stD) ≤ 3
  | [] => Nat.zero_le _
  | s :: r => by
    show max (max 0 (max 0 (max (PyData.depthAll (s.said.map rwD) + 1) (max (PyData.depthAll (s.noted.map meD') + 1) 0))) + 1) (PyData.depthAll (r.map stD)) ≤ 3
    have h1 := depSt r
    have h2 := depRw s.said
    have h3 := depMe' s.noted
    omega
theorem shapedSt (ss : List Sht) (h : ∀ s ∈ ss, Wf s) : SeqAt.shaped (.list (ss.map stD)) = true := by
  unfold SeqAt.shaped
  have e : PyData.canLay0 (.list (ss.map stD)) = true := canSt ss h
  rw [e]
  refine decide_eq_true ?_
  show PyData.depthAll (ss.map stD) + 1 ≤ 64
  have := depSt ss
  omega
theorem scLdm : FnScope ["_law_book_here", "_law_deed_here", "_law_take", "_law_give", "_law_word", "_law_told", "_law_state"] ["_law_book_here", "_law_deed_here"] (defScope s_law_do_model) := ⟨rfl, rfl, rfl, by decide +kernel, rfl, by decide +kernel, by decide +kernel⟩
structure TDm (Pg : Program) (w : World) (K : PySem.W.Frag) (mg : Str → Option Value) (base : Heap) (fLn fRn : Addr) (fdLn fdRn : FuncData) : Prop where
  gLn : FnOk Pg w K mg base CX0 9 fLn fdLn ["_law_state", "_law_deed_here"] (spNx true)
  bLn : Binds K fdLn ["_law_state", "_law_deed_here"] []
  kLn : PySem.W.keepIn K (.ref fLn) = true
  mLn : mg "_law_length_next" = some (.ref fLn)
  gRn : FnOk Pg w K mg base CX0 9 fRn fdRn ["_law_state", "_law_deed_here"] (spNx false)
  bRn : Binds K fdRn ["_law_state", "_law_deed_here"] []
  kRn : PySem.W.keepIn K (.ref fRn) = true
  mRn : mg "_law_row_next" = some (.ref fRn)
  mI : mg "int" = none
theorem snoc_of {α : Type} {l : List α} (h : l ≠ []) : ∃ p x, l = p ++ [x] := ⟨l.dropLast, l.getLast h, (List.dropLast_concat_getLast h).symm⟩
section
variable {Pg : Program} {w : World} {K : PySem.W.Frag} {mg : Str → Option Value} {base : Heap} {fLn fRn : Addr} {fdLn fdRn : FuncData}
theorem ok_ldm {f : Addr} {fd : FuncData} (F : Fun K "_law_do_model" "_law_do_model" s_law_do_model f fd) (T : TDm Pg w K mg base fLn fRn fdLn fdRn) : FnOk Pg w K mg base CX0 10 f fd ["_law_book_here", "_law_deed_here"] spDm := by
  refine F.ok scLdm (fun vs H Q E h => ?_) (fun cdv A outer s H vs Q E hr h => ?_)
  · obtain ⟨X, m, pa, aa, dv, past, now, ahead, de, rfl, _⟩ := h; rfl
  obtain ⟨X, m, pa, aa, dv, past, now, ahead, de, rfl, md, ⟨td, rfl, hd⟩, dok, wn, wp, wa, ln, nx, q⟩ := h
  have r9 : Room 9 _ := hr
  have hu := hu_of hr
  refine ⟨_, (pss_cons (ps_if (pt_cmpR op_in_seq (pe_ix ix_tup (pv 1) pe_int (fun _ _ => rfl)) (pe_tup (pa_cons pe_str (pa_cons pe_str pa_nil))) (by rfl)) (pss_cons (ps_asg (pe_ix ix_list (pe_lst (pa_cons (pe_tup (pa_cons pe_str (pa_cons pe_str pa_nil))) (pa_cons (pe_tup (pa_cons pe_str (pa_cons pe_str pa_nil))) pa_nil))) (pe_callTy call_int1 (by rfl) T.mI PyProof.Rows.boot_int (pa_cons (pe_cmpR op_eq (pe_ix ix_tup (pv 1) pe_int (fun _ _ => rfl)) pe_str (nomark _)) pa_nil)) (fun _ _ => rfl)) (pg_tup rfl (pgs_cons (pg_name (i := 2) scLdm.nd rfl (.inl rfl)) (pgs_cons (pg_name (i := 3) scLdm.nd rfl (.inl rfl)) pgs_nil))))
    (pss_cons (ps_if (pt_cmpR (op_eqD hr.units) (pe_dget hu (pv 0) (pv 2) (fun _ _ => rfl)) (pe_lst pa_nil) (nomark _)) (pss_one (ps_ret (pe_tup (pa_cons pe_str (pa_cons pe_non pa_nil))))) pss_nil)
    (pss_cons (ps_expr (pe_bm PySem.F.plainAttrs_list PySem.F.slot_list_append PySem.F.type_list_append mt_append (pe_dget hu (pv 0) (pv 3) (fun _ _ => rfl)) (pa_cons (pe_dget hu (pv 0) pe_str (fun _ _ => rfl)) pa_nil)))
    (pss_cons (ps_dput hu (pv 0) pe_str (pe_bm0 PySem.F.plainAttrs_list PySem.F.slot_list_pop PySem.F.type_list_pop mt_pop (pe_dget hu (pv 0) (pv 2) (fun _ _ => rfl))) rfl)
    (pss_one (ps_ret (pe_tup (pa_cons pe_str (pa_cons pe_non pa_nil))))))))) pss_nil)
    (C8.pss_cut (ps_if (pt_cmpR op_in_seq (pe_ix ix_tup (pv 1) pe_int (fun _ _ => rfl)) (pe_tup (pa_cons pe_str (pa_cons pe_str pa_nil))) (by rfl)) (pss_one (ps_asg (pe_call T.gLn r9 (by rfl) T.mLn T.kLn T.bLn .nil pass0 (pa_cons (pe_dget hu (pv 0) pe_str (fun _ _ => rfl)) (pa_cons (pv 1) pa_nil))) (pg_tup rfl (pgs_cons (pg_name (i := 4) scLdm.nd rfl (.inl rfl)) (pgs_cons (pg_name (i := 5) scLdm.nd rfl (.inl rfl)) (pgs_cons (pg_name (i := 6) scLdm.nd rfl (.inl rfl)) pgs_nil)))))) (pss_one (ps_asg (pe_call T.gRn r9 (by rfl) T.mRn T.kRn T.bRn .nil pass0 (pa_cons (pe_dget hu (pv 0) pe_str (fun _ _ => rfl)) (pa_cons (pv 1) pa_nil))) (pg_tup rfl (pgs_cons (pg_name (i := 4) scLdm.nd rfl (.inl rfl)) (pgs_cons (pg_name (i := 5) scLdm.nd rfl (.inl rfl)) (pgs_cons (pg_name (i := 6) scLdm.nd rfl (.inl rfl)) pgs_nil)))))))
    (C8.pss_cut (ps_if (pt_cmpR op_eq (pv 4) pe_str (nomark _)) (pss_cons (ps_expr (pe_bm PySem.F.plainAttrs_list PySem.F.slot_list_append PySem.F.type_list_append mt_append (pe_dget hu (pv 0) pe_str (fun _ _ => rfl)) (pa_cons (pe_dget hu (pv 0) pe_str (fun _ _ => rfl)) pa_nil)))
    (pss_cons (ps_dput hu (pv 0) pe_str (pe_lst pa_nil) rfl)
    (pss_one (ps_dput hu (pv 0) pe_str (pv 6) rfl)))) pss_nil)
    (pss_one (ps_ret (pe_tup (pa_cons (pv 4) (pa_cons (pv 5) pa_nil)))))))), ?_⟩
  obtain ⟨tv, ps, as, h1, h2, h3, h4, h5, h6, h7⟩ := md.ex
  have pl := h4.len
  have al := h6.len
  have nmp : m ≠ pa := fun z => by rw [z, h3] at h1; cases h1
  have nma : m ≠ aa := fun z => by rw [z, h5] at h1; cases h1
  have na : NA (Nn X pa aa) H := fun a z => by
    rcases z with rfl | rfl | z
    · exact ⟨_, h3⟩
    · exact ⟨_, h5⟩
    · exact nx.na _ z
  cases de with
  | dd d =>
    obtain ⟨W, rest, ed, e1, e2⟩ : ∃ (W : Str) (rest : List V), ddV d = .str W :: rest ∧ inV (.str W) [.str "undo", .str "redo"] = false ∧ inV (.str W) [.str "lengthen", .str "shorten"] = lenK d := by
      cases d <;> exact ⟨_, _, rfl, by decide +kernel, by first | exact (show inV _ _ = true from by decide +kernel) | exact (show inV _ _ = false from by decide +kernel)⟩
    have hd' : H td = some (.tup (.str W :: rest)) := by rw [hd]; show some (HO.tup (ddV d)) = _; rw [ed]
    refine ⟨.ref td, rfl, td, _, _, .str W, rfl, rfl, .inl (.inl hd'), atI_0 _ _, ?_⟩
    refine ⟨szN 2 rfl, fun tw n_tw => ?_⟩
    generalize e_tw : upd H tw _ = H1
    have u1 := new_same e_tw n_tw
    have z1 := new_at e_tw
    clear e_tw
    refine ⟨tw, _, rfl, .inr (.inl (.inl z1)), rfl, rfl, false, by show V.bl (inV _ _) = _; rw [e1], iteF ?_⟩
    refine ⟨fun σ' H' => ∃ r0 v1, Stp now d r0 ∧ σ' = [some (.ref m), some (.ref td), none, none, some (.str (w0 r0)), some (t0 r0), some v1] ∧ Same H H' ∧ StAt (Nn X pa aa) H' v1 (s0 now r0), ?_, ?_⟩
    · refine ⟨.ref td, rfl, td, _, _, .str W, rfl, rfl, .inl (.inl (u1 _ _ hd')), atI_0 _ _, ?_⟩
      refine ⟨szN 2 rfl, fun tx n_tx => ?_⟩
      generalize e_tx : upd H1 tx _ = H2
      have u2 := new_same e_tx n_tx
      have z2 := new_at e_tx
      clear e_tx
      have u12 := u1.trans u2
      refine ⟨tx, _, rfl, .inr (.inl (.inl z2)), rfl, rfl, lenK d, by show V.bl (inV _ _) = _; rw [e2], ?_⟩
      have dg : DGet H2 m (.str "now") (some tv) := .inl ⟨_, .inr "now", .inl (u12 _ _ h1), rfl, (md_now tv pa aa).symm⟩
      cases lk : lenK d with
      | true =>
        refine iteT ?_
        refine ⟨.ref m, rfl, m, tv, rfl, dg, .ref td, rfl, tv, .ref td, Nn X pa aa, now, d, rfl, h2.same u12, ⟨td, rfl, u12 _ _ hd⟩, dok, na.same u12, wn, lk, fun r0 hr0 => ?_⟩
        intro H3 t1 v1 u3 z3 st3
        exact ⟨t1, _, rfl, .inl (.inl z3), rfl, _, _, rfl, _, _, rfl, _, _, rfl, rfl, r0, v1, hr0, rfl, u12.trans u3, st3⟩
      | false =>
        refine iteF ?_
        refine ⟨.ref m, rfl, m, tv, rfl, dg, .ref td, rfl, tv, .ref td, Nn X pa aa, now, d, rfl, h2.same u12, ⟨td, rfl, u12 _ _ hd⟩, dok, na.same u12, wn, lk, fun r0 hr0 => ?_⟩
        intro H3 t1 v1 u3 z3 st3
        exact ⟨t1, _, rfl, .inl (.inl z3), rfl, _, _, rfl, _, _, rfl, _, _, rfl, rfl, r0, v1, hr0, rfl, u12.trans u3, st3⟩
    rintro σ' H3 ⟨r0, v1, hr0, rfl, u3, st3⟩
    refine ⟨fun σ' H' => σ' = [some (.ref m), some (.ref td), none, none, some (.str (w0 r0)), some (t0 r0), some v1] ∧ ∃ aa', FrM m pa aa H H' ∧ (∃ us, H' aa = some (.lst us)) ∧ (aa' = aa ∨ H aa' = none) ∧ MdAt X pa aa' H' m (resB past now ahead (liftR past now r0)).1 (resB past now ahead (liftR past now r0)).2.1 (resB past now ahead (liftR past now r0)).2.2, ?_, ?_⟩
    · cases r0 with
      | inl j =>
        refine ⟨.str (kinWord j), rfl, rfl, false, sF (stp_no hr0), iteF ?_⟩
        exact ⟨rfl, aa, .of u3, ⟨_, u3 _ _ h5⟩, .inl rfl, md.same u3⟩
      | inr x =>
        obtain ⟨o, s'⟩ := x
        refine ⟨.str "", rfl, rfl, true, sT _, iteT ?_⟩
        have k1 := u3 _ _ h1
        have dgp : DGet H3 m (.str "past") (some (.ref pa)) := .inl ⟨_, .inr "past", .inl k1, rfl, (md_past tv pa aa).symm⟩
        have dgn : DGet H3 m (.str "now") (some tv) := .inl ⟨_, .inr "now", .inl k1, rfl, (md_now tv pa aa).symm⟩
        refine ⟨.ref m, rfl, m, .ref pa, rfl, dgp, .inl ⟨rfl, _, .inl (.inl (u3 _ _ h3))⟩, .ref m, rfl, m, tv, rfl, dgn, pa, ps, tv, rfl, rfl, u3 _ _ h3, Nat.lt_of_le_of_lt (show ps.length ≤ 1000 by omega) (by decide), ?_⟩
        have kp4 : Kp 0 (Nn X pa aa) H3 (upd H3 pa (.lst (ps ++ [tv]))) := .lst (.inl rfl) (u3 _ _ h3)
        have f4 : FrM m pa aa H (upd H3 pa (.lst (ps ++ [tv]))) := (FrM.of u3).upd (.inr (.inl rfl))
        have z4 : upd H3 pa (.lst (ps ++ [tv])) pa = some (.lst (ps ++ [tv])) := upd_same
        have k4 : upd H3 pa (.lst (ps ++ [tv])) m = some (.dK (mdK tv pa aa)) := by rw [upd_ne nmp]; exact k1
        have fr4 : ∀ x, upd H3 pa (.lst (ps ++ [tv])) x = none → H3 x = none := fun x e => upd_none e
        have a4 : upd H3 pa (.lst (ps ++ [tv])) aa = some (.lst as) := by rw [upd_ne h7.symm]; exact u3 _ _ h5
        generalize upd H3 pa (.lst (ps ++ [tv])) = H4 at kp4 f4 z4 k4 fr4 a4 ⊢
        refine ⟨szN 0 rfl, fun l0 n_l0 => ?_⟩
        generalize e_l0 : upd H4 l0 _ = H5
        have u5 := new_same e_l0 n_l0
        have z5 := new_at e_l0
        clear e_l0
        refine ⟨.ref m, rfl, m, _, rfl, DPut.k (k := Sum.inr "ahead") (u5 _ _ k4) (by show 3 < sizeLine; decide), ?_⟩
        rw [put_ahead]
        have kp6 : Kp 0 (Nn X pa aa) H5 (upd H5 m (.dK (mdK tv pa l0))) := .dk (u5 _ _ k4)
        have f6 : FrM m pa aa H (upd H5 m (.dK (mdK tv pa l0))) := (f4.then u5).upd (.inl rfl)
        have k6 : upd H5 m (.dK (mdK tv pa l0)) m = some (.dK (mdK tv pa l0)) := upd_same
        have nm0 : m ≠ l0 := fun z => by rw [← z, k4] at n_l0; cases n_l0
        have z6 : upd H5 m (.dK (mdK tv pa l0)) pa = some (.lst (ps ++ [tv])) := by rw [upd_ne nmp.symm]; exact u5 _ _ z4
        have y6 : upd H5 m (.dK (mdK tv pa l0)) l0 = some (.lst []) := by rw [upd_ne nm0.symm]; exact z5
        have kq6 : Kp 0 (Nn X pa l0) H5 (upd H5 m (.dK (mdK tv pa l0))) := .dk (u5 _ _ k4)
        have a6 : upd H5 m (.dK (mdK tv pa l0)) aa = some (.lst as) := by rw [upd_ne nma.symm]; exact u5 _ _ a4
        generalize upd H5 m (.dK (mdK tv pa l0)) = H6 at kp6 kq6 f6 k6 z6 y6 a6 ⊢
        refine ⟨v1, rfl, .ref m, rfl, m, _, rfl, DPut.k (k := Sum.inr "now") k6 (by show 3 < sizeLine; decide), ?_⟩
        rw [put_now]
        have kp7 : Kp 0 (Nn X pa aa) H6 (upd H6 m (.dK (mdK v1 pa l0))) := .dk k6
        have f7 : FrM m pa aa H (upd H6 m (.dK (mdK v1 pa l0))) := f6.upd (.inl rfl)
        have n03 := fr4 _ n_l0
        have n0 : H l0 = none := Same.free u3 n03
        have na0 : aa ≠ l0 := fun z => by rw [z, n0] at h5; cases h5
        have a7 : upd H6 m (.dK (mdK v1 pa l0)) aa = some (.lst as) := by rw [upd_ne nma.symm]; exact a6
        have np0 : pa ≠ l0 := fun z => by rw [← z, z4] at n_l0; cases n_l0
        have mo : ∀ {v : V} {x : Sht}, StAt (Nn X pa aa) H4 v x → StAt (Nn X pa l0) H4 v x := fun h => h.more fun a us z e => by
          rcases z with z | z | z
          · exact .inl z
          · rw [z, n_l0] at e; cases e
          · exact .inr (.inr z)
        have kq5 : Kp 0 (Nn X pa l0) H4 H5 := .of u5
        have y7 : upd H6 m (.dK (mdK v1 pa l0)) l0 = some (.lst []) := by rw [upd_ne nm0.symm]; exact y6
        have z7 : upd H6 m (.dK (mdK v1 pa l0)) pa = some (.lst (ps ++ [tv])) := by rw [upd_ne nmp.symm]; exact z6
        have up : ∀ {v : V} {x : Sht}, StAt (Nn X pa aa) H3 v x → StAt (Nn X pa l0) (upd H6 m (.dK (mdK v1 pa l0))) v x := fun h => (((mo (h.kp kp4)).kp kq5).kp kq6).kp (Kp.dk (S := 0) k6)
        refine ⟨rfl, l0, f7, ⟨as, a7⟩, .inr n0, v1, ps ++ [tv], [], upd_same, up st3, z7, LL.snoc (h4.tr fun _ _ z => up (z.same u3)) (up (h2.same u3)), y7, LL.nil, np0⟩
    rintro σ' H4 ⟨rfl, aa', f4, ⟨us4, a4⟩, ha, md4⟩
    refine ⟨.str (w0 r0), rfl, t0 r0, rfl, ?_⟩
    refine ⟨szN 2 rfl, fun tr n_tr => ?_⟩
    generalize e_tr : upd H4 tr _ = H5
    have u5 := new_same e_tr n_tr
    have z5 := new_at e_tr
    clear e_tr
    refine q (liftR past now r0) ⟨r0, hr0, rfl⟩ H5 tr aa' (f4.then u5) ⟨us4, u5 _ _ a4⟩ ha (md4.same u5) ?_
    rw [z5]
    cases r0 <;> rfl
  | undo =>
    have hd : H td = some (.tup [.str "undo"]) := hd
    refine ⟨.ref td, rfl, td, _, _, .str "undo", rfl, rfl, .inl (.inl hd), rfl, ?_⟩
    refine ⟨szN 2 rfl, fun tw n_tw => ?_⟩
    generalize e_tw : upd H tw _ = H1
    have u1 := new_same e_tw n_tw
    have z1 := new_at e_tw
    clear e_tw
    refine ⟨tw, _, rfl, .inr (.inl (.inl z1)), rfl, by decide +kernel, true, by decide +kernel, iteT ?_⟩
    refine ⟨szN 2 rfl, fun ta n_ta => ?_⟩
    generalize e_ta : upd H1 ta _ = H2
    have u2 := new_same e_ta n_ta
    have z2 := new_at e_ta
    clear e_ta
    refine ⟨szN 2 rfl, fun tb n_tb => ?_⟩
    generalize e_tb : upd H2 tb _ = H3
    have u3 := new_same e_tb n_tb
    have z3 := new_at e_tb
    clear e_tb
    refine ⟨szN 2 rfl, fun tl n_tl => ?_⟩
    generalize e_tl : upd H3 tl _ = H4
    have u4 := new_same e_tl n_tl
    have z4 := new_at e_tl
    clear e_tl
    have u14 := u1.trans (u2.trans (u3.trans u4))
    refine ⟨.ref td, rfl, td, _, _, .str "undo", rfl, rfl, .inl (.inl (u14 _ _ hd)), rfl, rfl, .inr ⟨_, rfl, ?_⟩⟩
    rw [show decide (V.str "undo" = V.str "redo") = false by decide +kernel]
    refine ⟨tl, _, _, .ref ta, rfl, rfl, .inl (.inl z4), rfl, ta, _, rfl, .inl (.inl ((u3.trans u4) _ _ z2)), rfl, _, _, rfl, _, _, rfl, rfl, ?_⟩
    have k1 := u14 _ _ h1
    have dgt : DGet H4 m (.str "past") (some (.ref pa)) := .inl ⟨_, .inr "past", .inl k1, rfl, (md_past tv pa aa).symm⟩
    refine ⟨.ref m, rfl, .str "past", rfl, m, .ref pa, rfl, dgt, ?_⟩
    refine ⟨szN 0 rfl, fun l0 n_l0 => ?_⟩
    generalize e_l0 : upd H4 l0 _ = H5
    have u5 := new_same e_l0 n_l0
    have z5 := new_at e_l0
    clear e_l0
    have u := u14.trans u5
    refine ⟨_, .list [], .lst (.inl (.inl (u _ _ h3))) (dpAll_st (h4.imp fun _ _ z => z.same u)), .lst (.inl (.inl z5)) .nil, shapedSt _ wp, by decide +kernel, _, rfl, ?_⟩
    rw [eqv_nilL, List.isEmpty_map]
    by_cases c : past = []
    · rw [show past.isEmpty = true from by rw [c]; rfl]
      refine iteT ?_
      refine ⟨szN 2 rfl, fun tr n_tr => ?_⟩
      generalize e_tr : upd H5 tr _ = H6
      have u6 := new_same e_tr n_tr
      have z6 := new_at e_tr
      clear e_tr
      exact q (.inl 7) (.inl ⟨c, rfl⟩) H6 tr aa (.of (u.trans u6)) ⟨_, u6 _ _ (u _ _ h5)⟩ (.inl rfl) (md.same (u.trans u6)) z6
    rw [show past.isEmpty = false from by rw [Bool.eq_false_iff]; exact fun z => c (List.isEmpty_iff.mp z)]
    refine iteF ?_
    obtain ⟨p, x, rfl⟩ := snoc_of c
    have k5 := u _ _ h1
    have dgg : DGet H5 m (.str "ahead") (some (.ref aa)) := .inl ⟨_, .inr "ahead", .inl k5, rfl, (md_ahead tv pa aa).symm⟩
    have dgn : DGet H5 m (.str "now") (some tv) := .inl ⟨_, .inr "now", .inl k5, rfl, (md_now tv pa aa).symm⟩
    refine ⟨.ref m, rfl, .str "ahead", rfl, m, .ref aa, rfl, dgg, .inl ⟨rfl, _, .inl (.inl (u _ _ h5))⟩, .ref m, rfl, m, tv, rfl, dgn, aa, as, tv, rfl, rfl, u _ _ h5, Nat.lt_of_le_of_lt (show as.length ≤ 1000 by omega) (by decide), ?_⟩
    have kp6 : Kp 0 (Nn X pa aa) H5 (upd H5 aa (.lst (as ++ [tv]))) := .lst (.inr (.inl rfl)) (u _ _ h5)
    have f6 : FrM m pa aa H (upd H5 aa (.lst (as ++ [tv]))) := (FrM.of u).upd (.inr (.inr rfl))
    have zg6 : upd H5 aa (.lst (as ++ [tv])) aa = some (.lst (as ++ [tv])) := upd_same
    have k6 : upd H5 aa (.lst (as ++ [tv])) m = some (.dK (mdK tv pa aa)) := by rw [upd_ne nma]; exact k5
    have zt6 : upd H5 aa (.lst (as ++ [tv])) pa = some (.lst ps) := by rw [upd_ne h7]; exact u _ _ h3
    generalize upd H5 aa (.lst (as ++ [tv])) = H6 at kp6 f6 zg6 k6 zt6 ⊢
    have lnz : ps.length = p.length + 1 := by rw [h4.len, List.length_append]; rfl
    obtain ⟨ps0, y, rfl⟩ := snoc_of (show ps ≠ [] from fun z => by rw [z] at lnz; simp at lnz)
    have pl0 : ps0.length = p.length := by rw [List.length_append] at lnz; simpa using lnz
    have lli : LL (StAt (Nn X pa aa)) H5 ps0 p := by
      have := (h4.imp fun _ _ z => z.same u).init
      rw [List.dropLast_concat, List.dropLast_concat] at this
      exact this
    have llx : StAt (Nn X pa aa) H5 y x := (h4.at_ p.length y x (by rw [← pl0, List.getElem?_concat_length]) (by rw [List.getElem?_concat_length])).same u
    have dgt6 : DGet H6 m (.str "past") (some (.ref pa)) := .inl ⟨_, .inr "past", .inl k6, rfl, (md_past tv pa aa).symm⟩
    refine ⟨.ref m, rfl, .str "past", rfl, m, .ref pa, rfl, dgt6, .inl ⟨rfl, _, .inl (.inl zt6)⟩, pa, _, y, rfl, rfl, zt6, by rw [List.length_append, List.length_singleton, Nat.add_sub_cancel, List.getElem?_concat_length], ?_⟩
    rw [List.dropLast_concat]
    have kp7 : Kp 0 (Nn X pa aa) H6 (upd H6 pa (.lst ps0)) := .lst (.inl rfl) zt6
    have f7 : FrM m pa aa H (upd H6 pa (.lst ps0)) := f6.upd (.inr (.inl rfl))
    have zt7 : upd H6 pa (.lst ps0) pa = some (.lst ps0) := upd_same
    have zg7 : upd H6 pa (.lst ps0) aa = some (.lst (as ++ [tv])) := by rw [upd_ne (Ne.symm h7)]; exact zg6
    have k7 : upd H6 pa (.lst ps0) m = some (.dK (mdK tv pa aa)) := by rw [upd_ne nmp]; exact k6
    generalize upd H6 pa (.lst ps0) = H7 at kp7 f7 zt7 zg7 k7 ⊢
    refine ⟨.ref m, rfl, m, _, rfl, DPut.k (k := Sum.inr "now") k7 (by show 3 < sizeLine; decide), ?_⟩
    rw [put_now]
    have kp8 : Kp 0 (Nn X pa aa) H7 (upd H7 m (.dK (mdK y pa aa))) := .dk k7
    have f8 : FrM m pa aa H (upd H7 m (.dK (mdK y pa aa))) := f7.upd (.inl rfl)
    have up : ∀ {v : V} {x : Sht}, StAt (Nn X pa aa) H5 v x → StAt (Nn X pa aa) (upd H7 m (.dK (mdK y pa aa))) v x := fun h => ((h.kp kp6).kp kp7).kp kp8
    have zt : upd H7 m (.dK (mdK y pa aa)) pa = some (.lst ps0) := by rw [upd_ne (Ne.symm nmp)]; exact zt7
    have zg : upd H7 m (.dK (mdK y pa aa)) aa = some (.lst (as ++ [tv])) := by rw [upd_ne (Ne.symm nma)]; exact zg7
    have md8 : MdAt X pa aa (upd H7 m (.dK (mdK y pa aa))) m p x (ahead ++ [now]) := ⟨y, ps0, as ++ [tv], upd_same, up (llx), zt, (lli).imp fun _ _ z => up z, zg, LL.snoc (h6.imp fun _ _ z => up (z.same u)) (up (h2.same u)), h7⟩
    generalize upd H7 m (.dK (mdK y pa aa)) = H8 at f8 md8 ⊢
    refine ⟨szN 2 rfl, fun tr n_tr => ?_⟩
    generalize e_tr : upd H8 tr _ = H9
    have u9 := new_same e_tr n_tr
    have z9 := new_at e_tr
    clear e_tr
    have a9 : ∃ us, H9 aa = some (.lst us) := by
      obtain ⟨_, _, as9, _, _, _, _, e9, _⟩ := (md8.same u9).ex
      exact ⟨as9, e9⟩
    exact q _ (.inr ⟨p, x, rfl, rfl⟩) H9 tr aa (f8.then u9) a9 (.inl rfl) (md8.same u9) z9
  | redo =>
    have hd : H td = some (.tup [.str "redo"]) := hd
    refine ⟨.ref td, rfl, td, _, _, .str "redo", rfl, rfl, .inl (.inl hd), rfl, ?_⟩
    refine ⟨szN 2 rfl, fun tw n_tw => ?_⟩
    generalize e_tw : upd H tw _ = H1
    have u1 := new_same e_tw n_tw
    have z1 := new_at e_tw
    clear e_tw
    refine ⟨tw, _, rfl, .inr (.inl (.inl z1)), rfl, by decide +kernel, true, by decide +kernel, iteT ?_⟩
    refine ⟨szN 2 rfl, fun ta n_ta => ?_⟩
    generalize e_ta : upd H1 ta _ = H2
    have u2 := new_same e_ta n_ta
    have z2 := new_at e_ta
    clear e_ta
    refine ⟨szN 2 rfl, fun tb n_tb => ?_⟩
    generalize e_tb : upd H2 tb _ = H3
    have u3 := new_same e_tb n_tb
    have z3 := new_at e_tb
    clear e_tb
    refine ⟨szN 2 rfl, fun tl n_tl => ?_⟩
    generalize e_tl : upd H3 tl _ = H4
    have u4 := new_same e_tl n_tl
    have z4 := new_at e_tl
    clear e_tl
    have u14 := u1.trans (u2.trans (u3.trans u4))
    refine ⟨.ref td, rfl, td, _, _, .str "redo", rfl, rfl, .inl (.inl (u14 _ _ hd)), rfl, rfl, .inr ⟨_, rfl, ?_⟩⟩
    rw [show decide (V.str "redo" = V.str "redo") = true by decide +kernel]
    refine ⟨tl, _, _, .ref tb, rfl, rfl, .inl (.inl z4), rfl, tb, _, rfl, .inl (.inl (u4 _ _ z3)), rfl, _, _, rfl, _, _, rfl, rfl, ?_⟩
    have k1 := u14 _ _ h1
    have dgt : DGet H4 m (.str "ahead") (some (.ref aa)) := .inl ⟨_, .inr "ahead", .inl k1, rfl, (md_ahead tv pa aa).symm⟩
    refine ⟨.ref m, rfl, .str "ahead", rfl, m, .ref aa, rfl, dgt, ?_⟩
    refine ⟨szN 0 rfl, fun l0 n_l0 => ?_⟩
    generalize e_l0 : upd H4 l0 _ = H5
    have u5 := new_same e_l0 n_l0
    have z5 := new_at e_l0
    clear e_l0
    have u := u14.trans u5
    refine ⟨_, .list [], .lst (.inl (.inl (u _ _ h5))) (dpAll_st (h6.imp fun _ _ z => z.same u)), .lst (.inl (.inl z5)) .nil, shapedSt _ wa, by decide +kernel, _, rfl, ?_⟩
    rw [eqv_nilL, List.isEmpty_map]
    by_cases c : ahead = []
    · rw [show ahead.isEmpty = true from by rw [c]; rfl]
      refine iteT ?_
      refine ⟨szN 2 rfl, fun tr n_tr => ?_⟩
      generalize e_tr : upd H5 tr _ = H6
      have u6 := new_same e_tr n_tr
      have z6 := new_at e_tr
      clear e_tr
      exact q (.inl 7) (.inl ⟨c, rfl⟩) H6 tr aa (.of (u.trans u6)) ⟨_, u6 _ _ (u _ _ h5)⟩ (.inl rfl) (md.same (u.trans u6)) z6
    rw [show ahead.isEmpty = false from by rw [Bool.eq_false_iff]; exact fun z => c (List.isEmpty_iff.mp z)]
    refine iteF ?_
    obtain ⟨p, x, rfl⟩ := snoc_of c
    have k5 := u _ _ h1
    have dgg : DGet H5 m (.str "past") (some (.ref pa)) := .inl ⟨_, .inr "past", .inl k5, rfl, (md_past tv pa aa).symm⟩
    have dgn : DGet H5 m (.str "now") (some tv) := .inl ⟨_, .inr "now", .inl k5, rfl, (md_now tv pa aa).symm⟩
    refine ⟨.ref m, rfl, .str "past", rfl, m, .ref pa, rfl, dgg, .inl ⟨rfl, _, .inl (.inl (u _ _ h3))⟩, .ref m, rfl, m, tv, rfl, dgn, pa, ps, tv, rfl, rfl, u _ _ h3, Nat.lt_of_le_of_lt (show ps.length ≤ 1000 by omega) (by decide), ?_⟩
    have kp6 : Kp 0 (Nn X pa aa) H5 (upd H5 pa (.lst (ps ++ [tv]))) := .lst (.inl rfl) (u _ _ h3)
    have f6 : FrM m pa aa H (upd H5 pa (.lst (ps ++ [tv]))) := (FrM.of u).upd (.inr (.inl rfl))
    have zg6 : upd H5 pa (.lst (ps ++ [tv])) pa = some (.lst (ps ++ [tv])) := upd_same
    have k6 : upd H5 pa (.lst (ps ++ [tv])) m = some (.dK (mdK tv pa aa)) := by rw [upd_ne nmp]; exact k5
    have zt6 : upd H5 pa (.lst (ps ++ [tv])) aa = some (.lst as) := by rw [upd_ne h7.symm]; exact u _ _ h5
    generalize upd H5 pa (.lst (ps ++ [tv])) = H6 at kp6 f6 zg6 k6 zt6 ⊢
    have lnz : as.length = p.length + 1 := by rw [h6.len, List.length_append]; rfl
    obtain ⟨ps0, y, rfl⟩ := snoc_of (show as ≠ [] from fun z => by rw [z] at lnz; simp at lnz)
    have pl0 : ps0.length = p.length := by rw [List.length_append] at lnz; simpa using lnz
    have lli : LL (StAt (Nn X pa aa)) H5 ps0 p := by
      have := (h6.imp fun _ _ z => z.same u).init
      rw [List.dropLast_concat, List.dropLast_concat] at this
      exact this
    have llx : StAt (Nn X pa aa) H5 y x := (h6.at_ p.length y x (by rw [← pl0, List.getElem?_concat_length]) (by rw [List.getElem?_concat_length])).same u
    have dgt6 : DGet H6 m (.str "ahead") (some (.ref aa)) := .inl ⟨_, .inr "ahead", .inl k6, rfl, (md_ahead tv pa aa).symm⟩
    refine ⟨.ref m, rfl, .str "ahead", rfl, m, .ref aa, rfl, dgt6, .inl ⟨rfl, _, .inl (.inl zt6)⟩, aa, _, y, rfl, rfl, zt6, by rw [List.length_append, List.length_singleton, Nat.add_sub_cancel, List.getElem?_concat_length], ?_⟩
    rw [List.dropLast_concat]
    have kp7 : Kp 0 (Nn X pa aa) H6 (upd H6 aa (.lst ps0)) := .lst (.inr (.inl rfl)) zt6
    have f7 : FrM m pa aa H (upd H6 aa (.lst ps0)) := f6.upd (.inr (.inr rfl))
    have zt7 : upd H6 aa (.lst ps0) aa = some (.lst ps0) := upd_same
    have zg7 : upd H6 aa (.lst ps0) pa = some (.lst (ps ++ [tv])) := by rw [upd_ne (Ne.symm h7.symm)]; exact zg6
    have k7 : upd H6 aa (.lst ps0) m = some (.dK (mdK tv pa aa)) := by rw [upd_ne nma]; exact k6
    generalize upd H6 aa (.lst ps0) = H7 at kp7 f7 zt7 zg7 k7 ⊢
    refine ⟨.ref m, rfl, m, _, rfl, DPut.k (k := Sum.inr "now") k7 (by show 3 < sizeLine; decide), ?_⟩
    rw [put_now]
    have kp8 : Kp 0 (Nn X pa aa) H7 (upd H7 m (.dK (mdK y pa aa))) := .dk k7
    have f8 : FrM m pa aa H (upd H7 m (.dK (mdK y pa aa))) := f7.upd (.inl rfl)
    have up : ∀ {v : V} {x : Sht}, StAt (Nn X pa aa) H5 v x → StAt (Nn X pa aa) (upd H7 m (.dK (mdK y pa aa))) v x := fun h => ((h.kp kp6).kp kp7).kp kp8
    have zt : upd H7 m (.dK (mdK y pa aa)) aa = some (.lst ps0) := by rw [upd_ne (Ne.symm nma)]; exact zt7
    have zg : upd H7 m (.dK (mdK y pa aa)) pa = some (.lst (ps ++ [tv])) := by rw [upd_ne (Ne.symm nmp)]; exact zg7
    have md8 : MdAt X pa aa (upd H7 m (.dK (mdK y pa aa))) m (past ++ [now]) x p := ⟨y, ps ++ [tv], ps0, upd_same, up (llx), zg, LL.snoc (h4.imp fun _ _ z => up (z.same u)) (up (h2.same u)), zt, (lli).imp fun _ _ z => up z, h7⟩
    generalize upd H7 m (.dK (mdK y pa aa)) = H8 at f8 md8 ⊢
    refine ⟨szN 2 rfl, fun tr n_tr => ?_⟩
    generalize e_tr : upd H8 tr _ = H9
    have u9 := new_same e_tr n_tr
    have z9 := new_at e_tr
    clear e_tr
    have a9 : ∃ us, H9 aa = some (.lst us) := by
      obtain ⟨_, _, as9, _, _, _, _, e9, _⟩ := (md8.same u9).ex
      exact ⟨as9, e9⟩
    exact q _ (.inr ⟨p, x, rfl, rfl⟩) H9 tr aa (f8.then u9) a9 (.inl rfl) (md8.same u9) z9
end
end Rep
namespace Rep
open PySem L2 L2H RepHot
/-! deeds done in the book, and held against the model -/
theorem BkAt.more {BK S b : Addr} {N M : Addr → Prop} {H : Hp} {sts : List Sht} {here : Nat} {sv nv : V} (h : BkAt BK S N H b sts here sv nv) (k : ∀ a xs, M a → H a = some (.lst xs) → N a) : BkAt BK S M H b sts here sv nv := by
  obtain ⟨dx, l, vs, h1, h2, h3, h4, h5⟩ := h.ex
  exact ⟨dx, l, vs, h1, h2, h3.tr fun _ _ z => z.more k, fun z => h4 (k _ _ z h2), h5⟩
def KJ (j : Nat) : Prop := j = 0 ∨ j = 1 ∨ j = 3 ∨ j = 4 ∨ j = 5 ∨ j = 6 ∨ j = 7
theorem stp_j {s : Sht} {d : Dd} {j : Nat} (h : Stp s d (.inl j)) : KJ j := by
  cases d with
  | say y => rcases h with ⟨_, _, h⟩ | ⟨_, _, h⟩ | ⟨_, h⟩ <;> cases h <;> simp [KJ]
  | unsay n => rcases h with ⟨_, _, h⟩ | ⟨_, h⟩ <;> cases h <;> simp [KJ]
  | amend n y => rcases h with ⟨_, _, _, h⟩ | ⟨_, _, _, h⟩ | ⟨_, h⟩ <;> cases h <;> simp [KJ]
  | rem z x m => rcases h with ⟨_, _, _, h⟩ | ⟨_, _, _, h⟩ | ⟨_, _, h⟩ | ⟨_, h⟩ <;> cases h <;> simp [KJ]
  | forget n => rcases h with ⟨_, _, h⟩ | ⟨_, h⟩ <;> cases h <;> simp [KJ]
  | longer m => rcases h with ⟨_, _, h⟩ | ⟨_, h⟩ <;> cases h <;> simp [KJ]
  | shorter m => rcases h with ⟨_, _, _, h⟩ | ⟨_, _, _, h⟩ | ⟨_, h⟩ <;> cases h <;> simp [KJ]
theorem Fst.uniq {ns : List Int} {n : Int} {k j : Nat} (h : Fst ns n k) (g : Fst ns n j) : k = j := by
  rcases Nat.lt_trichotomy k j with l | l | l
  · exact absurd h.1 (g.2 k l)
  · exact l
  · exact absurd g.1 (h.2 j l)
theorem Stp.uniq {s : Sht} {d : Dd} {r r' : Nat ⊕ (Option Int × Sht)} (h : Stp s d r) (g : Stp s d r') : r = r' := by
  cases d with
  | say y =>
    rcases h with ⟨a1, a2, rfl⟩ | ⟨a1, a2, rfl⟩ | ⟨a1, rfl⟩ <;> rcases g with ⟨b1, b2, rfl⟩ | ⟨b1, b2, rfl⟩ | ⟨b1, rfl⟩ <;> first | rfl | contradiction
  | unsay n =>
    rcases h with ⟨k, a1, rfl⟩ | ⟨a1, rfl⟩ <;> rcases g with ⟨j, b1, rfl⟩ | ⟨b1, rfl⟩
    · rw [a1.uniq b1]
    · exact absurd a1.mem b1
    · exact absurd b1.mem a1
    · rfl
  | amend n y =>
    rcases h with ⟨k, a1, a2, rfl⟩ | ⟨k, a1, a2, rfl⟩ | ⟨a1, rfl⟩ <;> rcases g with ⟨j, b1, b2, rfl⟩ | ⟨j, b1, b2, rfl⟩ | ⟨b1, rfl⟩ <;> first | rfl | contradiction | (rw [a1.uniq b1]; done) | exact absurd a1.mem b1 | exact absurd b1.mem a1
  | rem z x m =>
    rcases h with ⟨a1, a2, a3, rfl⟩ | ⟨a1, a2, a3, rfl⟩ | ⟨a1, a2, rfl⟩ | ⟨a1, rfl⟩ <;> rcases g with ⟨b1, b2, b3, rfl⟩ | ⟨b1, b2, b3, rfl⟩ | ⟨b1, b2, rfl⟩ | ⟨b1, rfl⟩ <;> first | rfl | contradiction
  | forget n =>
    rcases h with ⟨k, a1, rfl⟩ | ⟨a1, rfl⟩ <;> rcases g with ⟨j, b1, rfl⟩ | ⟨b1, rfl⟩
    · rw [a1.uniq b1]
    · exact absurd a1.mem b1
    · exact absurd b1.mem a1
    · rfl
  | longer m =>
    rcases h with ⟨a1, a2, rfl⟩ | ⟨a1, rfl⟩ <;> rcases g with ⟨b1, b2, rfl⟩ | ⟨b1, rfl⟩ <;> first | rfl | (exact absurd ⟨a1, a2⟩ b1) | (exact absurd ⟨b1, b2⟩ a1)
  | shorter m =>
    rcases h with ⟨a1, a2, a3, rfl⟩ | ⟨a1, a2, a3, rfl⟩ | ⟨a1, rfl⟩ <;> rcases g with ⟨b1, b2, b3, rfl⟩ | ⟨b1, b2, b3, rfl⟩ | ⟨b1, rfl⟩ <;> first | rfl | contradiction | (exact absurd ⟨a1, a2⟩ b1) | (exact absurd ⟨b1, b2⟩ a1)
theorem RStp.uniq {past ahead : List Sht} {now : Sht} {de : De} {r r' : Res} (h : RStp past now ahead de r) (g : RStp past now ahead de r') : r = r' := by
  cases de with
  | dd d =>
    obtain ⟨r0, h1, rfl⟩ := h
    obtain ⟨r1, g1, rfl⟩ := g
    rw [h1.uniq g1]
  | undo =>
    rcases h with ⟨a, rfl⟩ | ⟨p, x, a, rfl⟩ <;> rcases g with ⟨b, rfl⟩ | ⟨p', x', b, rfl⟩
    · rfl
    · rw [a] at b; simp at b
    · rw [b] at a; simp at a
    · rw [a] at b
      obtain ⟨c1, c2⟩ := List.append_inj' b rfl
      have c2 : x = x' := by simpa using c2
      rw [c1, c2]
  | redo =>
    rcases h with ⟨a, rfl⟩ | ⟨p, x, a, rfl⟩ <;> rcases g with ⟨b, rfl⟩ | ⟨p', x', b, rfl⟩
    · rfl
    · rw [a] at b; simp at b
    · rw [b] at a; simp at a
    · rw [a] at b
      obtain ⟨c1, c2⟩ := List.append_inj' b rfl
      have c2 : x = x' := by simpa using c2
      rw [c1, c2]
def stsOf (x : List Sht × Sht × List Sht) : List Sht := x.1 ++ x.2.1 :: x.2.2.reverse
/-- the book behind a deed -/
def BkR (BK S : Addr) (N : Addr → Prop) (H H' : Hp) (b : Addr) (past : List Sht) (now : Sht) (ahead : List Sht) (sv nv : V) (r : Res) : Prop :=
  Sam b H H' ∧ ∃ sv' nv', BkAt BK S N H' b (stsOf (resB past now ahead r)) (resB past now ahead r).1.length sv' nv' ∧ (∀ j, r = .inl j → sv' = sv ∧ nv' = nv) ∧ (∀ o p n a, r = .inr (o, p, n, a) → nv' = .non ∧ SvK sv sv' now n)
theorem BkR.no {BK S b : Addr} {N : Addr → Prop} {H H' : Hp} {past ahead : List Sht} {now : Sht} {sv nv : V} {j : Nat} (h : BkAt BK S N H b (stsOf (past, now, ahead)) past.length sv nv) (s : Same H H') : BkR BK S N H H' b past now ahead sv nv (.inl j) :=
  ⟨fun c o e _ => s _ _ e, sv, nv, h.same s, fun _ _ => ⟨rfl, rfl⟩, fun _ _ _ _ z => nomatch z⟩
theorem BkR.yes {BK S b : Addr} {N : Addr → Prop} {H H' : Hp} {past ahead p a : List Sht} {now n : Sht} {sv nv sv' : V} {o : Option Int} (s : Sam b H H') (h : BkAt BK S N H' b (stsOf (p, n, a)) p.length sv' .non) (k : SvK sv sv' now n) : BkR BK S N H H' b past now ahead sv nv (.inr (o, p, n, a)) :=
  ⟨s, sv', .non, h, (fun _ z => nomatch z), (fun _ _ _ _ z => by cases z; exact ⟨rfl, k⟩)⟩
theorem BkR.then {BK S b : Addr} {N : Addr → Prop} {H H1 H2 : Hp} {past ahead : List Sht} {now : Sht} {sv nv : V} {r : Res} (h : BkR BK S N H H1 b past now ahead sv nv r) (s : Same H1 H2) : BkR BK S N H H2 b past now ahead sv nv r := by
  obtain ⟨h1, sv', nv', h2, h3, h4⟩ := h
  exact ⟨h1.same s, sv', nv', h2.same s, h3, h4⟩
theorem sts_at {past ahead : List Sht} {now : Sht} : (stsOf (past, now, ahead))[past.length]? = some now ∧ (stsOf (past, now, ahead)).take (past.length + 1) = past ++ [now] ∧ (stsOf (past, now, ahead)).length = past.length + 1 + ahead.length := by
  refine ⟨?_, ?_, ?_⟩
  · show (past ++ now :: ahead.reverse)[past.length]? = _
    rw [List.getElem?_append_right (Nat.le_refl _), Nat.sub_self]; rfl
  · show (past ++ now :: ahead.reverse).take _ = _
    rw [List.take_append, List.take_of_length_le (by omega), show past.length + 1 - past.length = 1 by omega]; rfl
  · show (past ++ now :: ahead.reverse).length = _
    rw [List.length_append, List.length_cons, List.length_reverse]; omega
end Rep
namespace Rep
open PySem L2 L2H RepHot
/-! book and model side by side -/
structure Duo (X : Addr → Prop) (BK S : Addr) (H : Hp) (b m pa aa : Addr) (past : List Sht) (now : Sht) (ahead : List Sht) (sv nv : V) : Prop where
  bk : BkAt BK S (Nn X pa aa) H b (stsOf (past, now, ahead)) past.length sv nv
  md : MdAt X pa aa H m past now ahead
theorem Duo.same {X : Addr → Prop} {BK S b m pa aa : Addr} {H H' : Hp} {past ahead : List Sht} {now : Sht} {sv nv : V} (h : Duo X BK S H b m pa aa past now ahead sv nv) (s : Same H H') : Duo X BK S H' b m pa aa past now ahead sv nv := ⟨h.bk.same s, h.md.same s⟩
theorem MdAt.na {X : Addr → Prop} {pa aa m : Addr} {H : Hp} {past ahead : List Sht} {now : Sht} (h : MdAt X pa aa H m past now ahead) (nx : NX X H) : NX (Nn X pa aa) H := by
  obtain ⟨tv, ps, as, h1, h2, h3, h4, h5, h6, h7⟩ := h.ex
  intro a z
  rcases z with rfl | rfl | z
  · exact ⟨_, h3⟩
  · exact ⟨_, h5⟩
  · exact nx _ z
theorem BkAt.frm {X : Addr → Prop} {BK S b m pa aa aa' : Addr} {H H' : Hp} {sts : List Sht} {here : Nat} {sv nv : V} {past ahead : List Sht} {now : Sht} (h : BkAt BK S (Nn X pa aa) H b sts here sv nv) (md : MdAt X pa aa H m past now ahead) (f : FrM m pa aa H H') (ha : aa' = aa ∨ H aa' = none) : BkAt BK S (Nn X pa aa') H' b sts here sv nv := by
  obtain ⟨tv, ps, as, h1, h2, h3, h4, h5, h6, h7⟩ := md.ex
  obtain ⟨dx, l, vs, g1, _⟩ := h.ex
  have hN : BkAt BK S (fun a => a = pa ∨ a = aa ∨ a = aa' ∨ X a) H b sts here sv nv := h.more fun a us z e => by
    rcases z with z | z | z | z
    · exact .inl z
    · exact .inr (.inl z)
    · rcases ha with y | y
      · exact .inr (.inl (z.trans y))
      · rw [z, y] at e; cases e
    · exact .inr (.inr z)
  have kp : Kp S (fun a => a = pa ∨ a = aa ∨ a = aa' ∨ X a) H H' := fun c o e w => by
    refine f c o e (fun z => ?_) (fun z => ?_) (fun z => ?_)
    · subst z; rw [h1] at e; cases e; exact absurd w id
    · subst z; rw [h3] at e; cases e; exact w (.inl rfl)
    · subst z; rw [h5] at e; cases e; exact w (.inr (.inl rfl))
  have hb : ∀ o, H b = some o → H' b = some o := fun o e => f b o e (fun z => by subst z; rw [h1] at g1; cases g1) (fun z => by subst z; rw [h3] at g1; cases g1) (fun z => by subst z; rw [h5] at g1; cases g1)
  exact (hN.kp kp hb).more fun a us z _ => by
    rcases z with z | z | z
    · exact .inl z
    · exact .inr (.inr (.inl z))
    · exact .inr (.inr (.inr z))
theorem DT.two' {H : Hp} {n : Nat} {a : Addr} {u v : V} {d e : PyData} (h : H a = some (.lst [u, v])) (hu : DT H n u d) (hv : DT H n v e) : DT H (n + 1) (.ref a) (.list [d, e]) := by
  refine .lst h rfl (by show 2 ≤ 14000000; decide) fun k x d' hx hd => ?_
  match k, hx, hd with
  | 0, hx, hd => cases hx; cases hd; exact hu
  | 1, hx, hd => cases hx; cases hd; exact hv
theorem RL.dt {H : Hp} {n : Nat} {a : Addr} {xs : List V} {rs : List Rw} (h : H a = some (.lst xs)) (rl : RL H xs rs) (hl : rs.length ≤ 1000) : DT H (n + 2) (.ref a) (.list (rs.map rwD)) := by
  refine .lst h (by rw [List.length_map]; exact rl.len) (by rw [rl.len]; omega) fun k x d hx hd => ?_
  rw [List.getElem?_map] at hd
  obtain ⟨r, hr, rfl⟩ := Option.map_eq_some_iff.mp hd
  obtain ⟨t, rfl, ht⟩ := rl.at_ k x r hx hr
  refine .tup ht rfl (by show 5 ≤ 14000000; decide) fun j y e hy he => ?_
  match j, hy, he with
  | 0, hy, he => cases hy; cases he; exact .int _
  | 1, hy, he => cases hy; cases he; exact .int _
  | 2, hy, he => cases hy; cases he; exact .int _
  | 3, hy, he => cases hy; cases he; exact .int _
  | 4, hy, he => cases hy; cases he; exact .bl _
theorem ML.dt' {H : Hp} {n : Nat} {a : Addr} {xs : List V} {ms : List Me} (h : H a = some (.lst xs)) (rl : ML H xs ms) (hl : ms.length ≤ 1000) : DT H (n + 2) (.ref a) (.list (ms.map meD')) := by
  refine .lst h (by rw [List.length_map]; exact rl.len) (by rw [rl.len]; omega) fun k x d hx hd => ?_
  rw [List.getElem?_map] at hd
  obtain ⟨r, hr, rfl⟩ := Option.map_eq_some_iff.mp hd
  obtain ⟨t, rfl, ht⟩ := rl.at_ k x r hx hr
  refine .tup ht rfl (by show 4 ≤ 14000000; decide) fun j y e hy he => ?_
  match j, hy, he with
  | 0, hy, he => cases hy; cases he; exact .int _
  | 1, hy, he => cases hy; cases he; exact .str _
  | 2, hy, he => cases hy; cases he; exact .int _
  | 3, hy, he => cases hy; cases he; exact .int _
end Rep
namespace Rep
open PySem L2 L2H RepHot
/-! whether the book stands as the model -/
def spStd (BK S : Addr) : Sp := fun vs H Q _ => ∃ (X : Addr → Prop) (b m pa aa : Addr) (past : List Sht) (now : Sht) (ahead : List Sht) (sv nv : V), vs = [.ref b, .ref m] ∧ Duo X BK S H b m pa aa past now ahead sv nv ∧ Wf now ∧ past.length + ahead.length ≤ 900 ∧ ∀ H', Same H H' → Q (.bl true) H'
theorem scLst : FnScope ["_law_book_here", "_law_model", "_law_length", "_law_coming", "_law_sayings", "_law_memories"] ["_law_book_here", "_law_model"] (defScope s_law_stands) := ⟨rfl, rfl, rfl, by decide +kernel, rfl, by decide +kernel, by decide +kernel⟩
structure TSt (Pg : Program) (w : World) (K : PySem.W.Frag) (mg : Str → Option Value) (base : Heap) (BK S : Addr) (fbl fbc fba fbm fbu fbr fE : Addr) (fdbl fdbc fdba fdbm fdbu fdbr fdE : FuncData) : Prop where
  clB : Cls K BK
  mbl : Meth K BK "length" fbl
  gbl : FnOk Pg w K mg base CX0 8 fbl fdbl ["self"] (spBlen BK S)
  bbl : Binds K fdbl ["self"] []
  mbc : Meth K BK "coming" fbc
  gbc : FnOk Pg w K mg base CX0 8 fbc fdbc ["self"] (spBcom BK S)
  bbc : Binds K fdbc ["self"] []
  mba : Meth K BK "sayings" fba
  gba : FnOk Pg w K mg base CX0 8 fba fdba ["self"] (spBsay BK S)
  bba : Binds K fdba ["self"] []
  mbm : Meth K BK "memories" fbm
  gbm : FnOk Pg w K mg base CX0 8 fbm fdbm ["self"] (spBmem BK S)
  bbm : Binds K fdbm ["self"] []
  mbu : Meth K BK "undoable" fbu
  gbu : FnOk Pg w K mg base CX0 7 fbu fdbu ["self"] (spBundb BK S)
  bbu : Binds K fdbu ["self"] []
  mbr : Meth K BK "redoable" fbr
  gbr : FnOk Pg w K mg base CX0 7 fbr fdbr ["self"] (spBredb BK S)
  bbr : Binds K fdbr ["self"] []
  gE : FnOk Pg w K mg base CX0 7 fE fdE ["_law_told", "_law_due"] (spSame 7)
  bE : Binds K fdE ["_law_told", "_law_due"] []
  kE : PySem.W.keepIn K (.ref fE) = true
  mE : mg "_law_same" = some (.ref fE)
  ml : mg "len" = none
section
variable {Pg : Program} {w : World} {K : PySem.W.Frag} {mg : Str → Option Value} {base : Heap} {BK S : Addr} {fbl fbc fba fbm fbu fbr fE : Addr} {fdbl fdbc fdba fdbm fdbu fdbr fdE : FuncData}
theorem ok_lst {f : Addr} {fd : FuncData} (F : Fun K "_law_stands" "_law_stands" s_law_stands f fd) (T : TSt Pg w K mg base BK S fbl fbc fba fbm fbu fbr fE fdbl fdbc fdba fdbm fdbu fdbr fdE) : FnOk Pg w K mg base CX0 9 f fd ["_law_book_here", "_law_model"] (spStd BK S) := by
  refine F.ok scLst (fun vs H Q E h => ?_) (fun cdv A outer s H vs Q E hr h => ?_)
  · obtain ⟨X, b, m, pa, aa, past, now, ahead, sv, nv, rfl, _⟩ := h; rfl
  obtain ⟨X, b, m, pa, aa, past, now, ahead, sv, nv, rfl, duo, wn, ln, q⟩ := h
  have r8 : Room 8 _ := hr
  have r7 : Room 7 _ := hr.mono (by decide)
  have hu := hu_of hr
  refine ⟨_, (C8.pss_cut (ps_asg (pe_dget hu (pv 1) pe_str (fun _ _ => rfl)) (pg_tup rfl (pgs_cons (pg_name (i := 2) scLst.nd rfl (.inl rfl)) (pgs_cons (pg_name (i := 3) scLst.nd rfl (.inl rfl)) (pgs_cons (pg_name (i := 4) scLst.nd rfl (.inl rfl)) (pgs_cons (pg_name (i := 5) scLst.nd rfl (.inl rfl)) pgs_nil))))))
    (C8.pss_cut (ps_if (pt_not (pt_val (pe_call T.gE r7 (by rfl) T.mE T.kE T.bE .nil pass0 (pa_cons (pe_lst (pa_cons (pe_meth0 (pv 0) T.clB T.mbl T.gbl r8 T.bbl .nil pass0) (pa_cons (pe_meth0 (pv 0) T.clB T.mbc T.gbc r8 T.bbc .nil pass0) pa_nil))) (pa_cons (pe_lst (pa_cons (pv 2) (pa_cons (pv 3) pa_nil))) pa_nil))))) (pss_one (ps_ret pe_bl)) pss_nil)
    (C8.pss_cut (ps_if (pt_not (pt_val (pe_call T.gE r7 (by rfl) T.mE T.kE T.bE .nil pass0 (pa_cons (pe_lst (pa_cons (pe_meth0 (pv 0) T.clB T.mba T.gba r8 T.bba .nil pass0) (pa_cons (pe_meth0 (pv 0) T.clB T.mbm T.gbm r8 T.bbm .nil pass0) pa_nil))) (pa_cons (pe_lst (pa_cons (pv 4) (pa_cons (pv 5) pa_nil))) pa_nil))))) (pss_one (ps_ret pe_bl)) pss_nil)
    (pss_one (ps_ret (pe_call T.gE r7 (by rfl) T.mE T.kE T.bE .nil pass0 (pa_cons (pe_lst (pa_cons (pe_meth0 (pv 0) T.clB T.mbu T.gbu r7 T.bbu .nil pass0) (pa_cons (pe_meth0 (pv 0) T.clB T.mbr T.gbr r7 T.bbr .nil pass0) pa_nil))) (pa_cons (pe_lst (pa_cons (pe_callB call_len_seq (by rfl) T.ml PySem.boot_len (pa_cons (pe_dget hu (pv 1) pe_str (fun _ _ => rfl)) pa_nil)) (pa_cons (pe_callB call_len_seq (by rfl) T.ml PySem.boot_len (pa_cons (pe_dget hu (pv 1) pe_str (fun _ _ => rfl)) pa_nil)) pa_nil))) pa_nil)))))))), ?_⟩
  obtain ⟨tv, ps, as, h1, h2, h3, h4, h5, h6, h7⟩ := duo.md.ex
  obtain ⟨t, la, lb, xs, ys, rfl, k2, k3, k4, k5, k6, k7, k8⟩ := h2.ex
  obtain ⟨e1, e2, e3⟩ := sts_at (past := past) (now := now) (ahead := ahead)
  have w1 := wn.l1
  have w2 := wn.l2
  have bk := duo.bk
  refine ⟨fun σ' H' => σ' = [some (.ref b), some (.ref m), some (.int now.size), some (.int now.coming), some (.ref la), some (.ref lb)] ∧ H' = H, ?_, ?_⟩
  · exact ⟨.ref m, rfl, m, .ref t, rfl, .inl ⟨_, .inr "now", .inl h1, rfl, (md_now _ pa aa).symm⟩, t, _, rfl, .inl (.inl k2), rfl, _, _, rfl, _, _, rfl, _, _, rfl, _, _, rfl, rfl, rfl, rfl⟩
  rintro σ' H' ⟨rfl, eH⟩
  subst eH
  -- lengths and numbers
  refine ⟨fun σ' H1 => σ' = [some (.ref b), some (.ref m), some (.int now.size), some (.int now.coming), some (.ref la), some (.ref lb)] ∧ Same H' H1, ?_, ?_⟩
  · obtain ⟨dx, fs, hi, hn⟩ := bk.ins (m := "length") (by decide +kernel)
    obtain ⟨dx2, fs2, hi2, hn2⟩ := bk.ins (m := "coming") (by decide +kernel)
    refine ⟨.ref b, rfl, b, dx, _, rfl, hi, hn, b, _, _, _, sv, nv, rfl, bk, fun s1 hs1 => ?_⟩
    obtain rfl : now = s1 := Option.some.inj (e1.symm.trans hs1)
    refine ⟨.ref b, rfl, b, dx2, _, rfl, hi2, hn2, b, _, _, _, sv, nv, rfl, bk, fun s2 hs2 => ?_⟩
    obtain rfl : now = s2 := Option.some.inj (e1.symm.trans hs2)
    refine ⟨szN 2 rfl, fun l1 n_l1 => ?_⟩
    generalize e_l1 : upd H' l1 _ = H1
    have u1 := new_same e_l1 n_l1
    have z1 := new_at e_l1
    clear e_l1
    refine ⟨.int now.size, rfl, .int now.coming, rfl, ?_⟩
    refine ⟨szN 2 rfl, fun l2 n_l2 => ?_⟩
    generalize e_l2 : upd H1 l2 _ = H2
    have u2 := new_same e_l2 n_l2
    have z2 := new_at e_l2
    clear e_l2
    refine ⟨.ref l1, .ref l2, _, rfl, DT.two' (n := 5) (u2 _ _ z1) (.int _) (.int _), DT.two' z2 (.int _) (.int _), fun H3 u3 => ⟨true, rfl, iteF ⟨rfl, u1.trans (u2.trans u3)⟩⟩⟩
  rintro σ' H1 ⟨rfl, u1⟩
  -- sayings and memories
  refine ⟨fun σ' H2 => σ' = [some (.ref b), some (.ref m), some (.int now.size), some (.int now.coming), some (.ref la), some (.ref lb)] ∧ Same H' H2, ?_, ?_⟩
  · have bk1 := bk.same u1
    obtain ⟨dx, fs, hi, hn⟩ := bk1.ins (m := "sayings") (by decide +kernel)
    refine ⟨.ref b, rfl, b, dx, _, rfl, hi, hn, b, _, _, _, sv, nv, rfl, bk1, fun s1 H2 l us hs1 u2 nl el rl => ?_⟩
    obtain rfl : now = s1 := Option.some.inj (e1.symm.trans hs1)
    have bk2 := bk1.same u2
    obtain ⟨dx2, fs2, hi2, hn2⟩ := bk2.ins (m := "memories") (by decide +kernel)
    refine ⟨.ref b, rfl, b, dx2, _, rfl, hi2, hn2, b, _, _, _, sv, nv, rfl, bk2, fun s2 H3 l' ws hs2 u3 nl' el' ml' => ?_⟩
    obtain rfl : now = s2 := Option.some.inj (e1.symm.trans hs2)
    refine ⟨szN 2 rfl, fun l1 n_l1 => ?_⟩
    generalize e_l1 : upd H3 l1 _ = H4
    have u4 := new_same e_l1 n_l1
    have z4 := new_at e_l1
    clear e_l1
    refine ⟨.ref la, rfl, .ref lb, rfl, ?_⟩
    refine ⟨szN 2 rfl, fun l2 n_l2 => ?_⟩
    generalize e_l2 : upd H4 l2 _ = H5
    have u5 := new_same e_l2 n_l2
    have z5 := new_at e_l2
    clear e_l2
    have u15 := u1.trans (u2.trans (u3.trans (u4.trans u5)))
    have u25 := u3.trans (u4.trans u5)
    have u35 := u4.trans u5
    refine ⟨.ref l1, .ref l2, _, rfl, DT.two' (n := 5) (u5 _ _ z4) (RL.dt (n := 3) (u25 _ _ el) (RL.ts (TS.of u25) rl) (by omega)) (ML.dt' (n := 3) (u35 _ _ el') (ML.ts (TS.of u35) ml') (by omega)), DT.two' z5 (RL.dt (n := 3) (u15 _ _ k3) (RL.ts (TS.of u15) k4) (by omega)) (ML.dt' (n := 3) (u15 _ _ k5) (ML.ts (TS.of u15) k6) (by omega)), fun H6 u6 => ⟨true, rfl, iteF ⟨rfl, u15.trans u6⟩⟩⟩
  rintro σ' H2 ⟨rfl, u2⟩
  have bk2 := bk.same u2
  obtain ⟨dx, fs, hi, hn⟩ := bk2.ins (m := "undoable") (by decide +kernel)
  obtain ⟨dx2, fs2, hi2, hn2⟩ := bk2.ins (m := "redoable") (by decide +kernel)
  refine ⟨.ref b, rfl, b, dx, _, rfl, hi, hn, b, _, _, _, sv, nv, rfl, bk2, .ref b, rfl, b, dx2, _, rfl, hi2, hn2, b, _, _, _, sv, nv, rfl, bk2, ?_⟩
  refine ⟨szN 2 rfl, fun l1 n_l1 => ?_⟩
  generalize e_l1 : upd H2 l1 _ = H3
  have u3 := new_same e_l1 n_l1
  have z3 := new_at e_l1
  clear e_l1
  have u23 := u2.trans u3
  refine ⟨.ref m, rfl, m, .ref pa, rfl, .inl ⟨_, .inr "past", .inl (u23 _ _ h1), rfl, (md_past _ pa aa).symm⟩, pa, ps, rfl, .inl (.inl (.inl (u23 _ _ h3))), .ref m, rfl, m, .ref aa, rfl, .inl ⟨_, .inr "ahead", .inl (u23 _ _ h1), rfl, (md_ahead _ pa aa).symm⟩, aa, as, rfl, .inl (.inl (.inl (u23 _ _ h5))), ?_⟩
  refine ⟨szN 2 rfl, fun l2 n_l2 => ?_⟩
  generalize e_l2 : upd H3 l2 _ = H4
  have u4 := new_same e_l2 n_l2
  have z4 := new_at e_l2
  clear e_l2
  have z3' := u4 _ _ z3
  rw [e3, show ((past.length + 1 + ahead.length : Nat) : Int) - 1 - (past.length : Int) = (ahead.length : Int) by omega, ← h4.len, ← h6.len] at z3'
  exact ⟨.ref l1, .ref l2, _, rfl, DT.two' (n := 5) z3' (.int _) (.int _), DT.two' z4 (.int _) (.int _), fun H5 u5 => q H5 (u23.trans (u4.trans u5))⟩
end
end Rep
namespace Rep
open PySem L2 L2H RepHot
/-! the law's book, made -/
def spLb : Sp := fun vs H Q _ => ∃ e : Int, vs = [.int e] ∧ ∀ H' m pa aa, Same H H' → H m = none → H pa = none → H aa = none → (∀ X, NX X H → MdAt X pa aa H' m [] ⟨e, 1, [], []⟩ []) → Q (.ref m) H'
theorem scLb : FnScope ["_law_length"] ["_law_length"] (defScope s_law_book) := ⟨rfl, rfl, rfl, by decide +kernel, rfl, by decide +kernel, by decide +kernel⟩
theorem ok_lb {Pg : Program} {w : World} {K : PySem.W.Frag} {mg : Str → Option Value} {base : Heap} {f : Addr} {fd : FuncData} {k : Nat} (F : Fun K "_law_book" "_law_book" s_law_book f fd) : FnOk Pg w K mg base CX0 (k + 1) f fd ["_law_length"] spLb := by
  refine F.ok scLb (fun vs H Q E h => ?_) (fun cdv A outer s H vs Q E hr h => ?_)
  · obtain ⟨e, rfl, _⟩ := h; rfl
  obtain ⟨e, rfl, q⟩ := h
  refine ⟨_, (pss_one (ps_ret (pe_disp (pps_cons pe_str (pe_tup (pa_cons (pv 0) (pa_cons pe_int (pa_cons (pe_lst pa_nil) (pa_cons (pe_lst pa_nil) pa_nil))))) (pps_cons pe_str (pe_lst pa_nil) (pps_cons pe_str (pe_lst pa_nil) pps_nil))) rfl rfl (by simp) (by decide)))), ?_⟩
  intro m nm
  have s0 := same_upd (o := .dK []) nm
  have zm : upd H m (.dK []) m = some (.dK []) := upd_same
  generalize upd H m (.dK []) = H0 at s0 zm ⊢
  refine ⟨.int e, rfl, ?_⟩
  refine ⟨szN 0 rfl, fun la n_la => ?_⟩
  generalize e_la : upd H0 la _ = H1
  have u1 := new_same e_la n_la
  have z1 := new_at e_la
  clear e_la
  refine ⟨szN 0 rfl, fun lb n_lb => ?_⟩
  generalize e_lb : upd H1 lb _ = H2
  have u2 := new_same e_lb n_lb
  have z2 := new_at e_lb
  clear e_lb
  refine ⟨szN 4 rfl, fun t n_t => ?_⟩
  generalize e_t : upd H2 t _ = H3
  have u3 := new_same e_t n_t
  have z3 := new_at e_t
  clear e_t
  refine ⟨szN 0 rfl, fun pa n_pa => ?_⟩
  generalize e_pa : upd H3 pa _ = H4
  have u4 := new_same e_pa n_pa
  have z4 := new_at e_pa
  clear e_pa
  refine ⟨szN 0 rfl, fun aa n_aa => ?_⟩
  generalize e_aa : upd H4 aa _ = H5
  have u5 := new_same e_aa n_aa
  have z5 := new_at e_aa
  clear e_aa
  have u15 := u1.trans (u2.trans (u3.trans (u4.trans u5)))
  refine ⟨u15 _ _ zm, mdK (.ref t) pa aa, rfl, by show 3 ≤ 15; decide, ?_⟩
  have em : mergeK [] (mdK (.ref t) pa aa) = mdK (.ref t) pa aa := by
    unfold mergeK mdK
    simp only [List.foldl_cons, List.foldl_nil]
    have p1 : putK ([] : List (Key × V)) (Sum.inr "now") (V.ref t) = ([((Sum.inr ("now" : Str) : Key), V.ref t)] : List (Key × V)) := rfl
    have p2 : putK ([((Sum.inr ("now" : Str) : Key), V.ref t)] : List (Key × V)) (Sum.inr "past") (V.ref pa) = ([((Sum.inr ("now" : Str) : Key), V.ref t), ((Sum.inr ("past" : Str) : Key), V.ref pa)] : List (Key × V)) := by
      unfold putK
      rw [if_neg (by have := kk.1; simpa using this)]; rfl
    have p3 : putK ([((Sum.inr ("now" : Str) : Key), V.ref t), ((Sum.inr ("past" : Str) : Key), V.ref pa)] : List (Key × V)) (Sum.inr "ahead") (V.ref aa) = ([((Sum.inr ("now" : Str) : Key), V.ref t), ((Sum.inr ("past" : Str) : Key), V.ref pa), ((Sum.inr ("ahead" : Str) : Key), V.ref aa)] : List (Key × V)) := by
      unfold putK
      rw [if_neg (by have h1 := kk.2.1; have h2 := kk.2.2; simp at h1 h2 ⊢; exact ⟨h1, h2⟩)]; rfl
    rw [p1, p2, p3]
  rw [em]
  have s05 := s0.trans u15
  have n0la : H la = none := Same.free s0 n_la
  have n0lb : H lb = none := Same.free (s0.trans u1) n_lb
  have nla : la ≠ m := fun z => by rw [z, zm] at n_la; cases n_la
  have nlb : lb ≠ m := fun z => by rw [z, u1 _ _ zm] at n_lb; cases n_lb
  have npa : pa ≠ m := fun z => by rw [z, (u1.trans (u2.trans u3)) _ _ zm] at n_pa; cases n_pa
  have naa : aa ≠ m := fun z => by rw [z, (u1.trans (u2.trans (u3.trans u4))) _ _ zm] at n_aa; cases n_aa
  have nt : t ≠ m := fun z => by rw [z, (u1.trans u2) _ _ zm] at n_t; cases n_t
  have npq : pa ≠ aa := fun z => by rw [← z, z4] at n_aa; cases n_aa
  have nlp : la ≠ pa := fun z => by rw [← z, (u2.trans u3) _ _ z1] at n_pa; cases n_pa
  have nlq : la ≠ aa := fun z => by rw [← z, (u2.trans (u3.trans u4)) _ _ z1] at n_aa; cases n_aa
  have nbp : lb ≠ pa := fun z => by rw [← z, u3 _ _ z2] at n_pa; cases n_pa
  have nbq : lb ≠ aa := fun z => by rw [← z, (u3.trans u4) _ _ z2] at n_aa; cases n_aa
  have fin : ∀ {c : Addr} {o : HO}, H5 c = some o → c ≠ m → upd H5 m (.dK (mdK (.ref t) pa aa)) c = some o := fun e n => by rw [upd_ne n]; exact e
  refine q _ m pa aa (same_over s05 nm) nm (Same.free (s0.trans (u1.trans (u2.trans u3))) n_pa) (Same.free (s0.trans (u1.trans (u2.trans (u3.trans u4)))) n_aa) fun X nx => ⟨.ref t, [], [], upd_same, ⟨t, la, lb, [], [], rfl, fin ((u4.trans u5) _ _ z3) nt, fin ((u2.trans (u3.trans (u4.trans u5))) _ _ z1) nla, LL.nil, fin ((u3.trans (u4.trans u5)) _ _ z2) nlb, LL.nil, fun z => z.elim nlp fun z => z.elim nlq (nx.na.not n0la), fun z => z.elim nbp fun z => z.elim nbq (nx.na.not n0lb)⟩, fin (u5 _ _ z4) npa, LL.nil, fin z5 naa, LL.nil, npq⟩
end Rep
namespace Rep
open PySem L2 L2H RepHot
/-! what a sheet is stays so -/
theorem Wf.step {s s' : Sht} {d : Dd} {o : Option Int} (w : Wf s) (h : Stp s d (.inr (o, s'))) : Wf s' := by
  cases d with
  | say y =>
    rcases h with ⟨h1, h2, h⟩ | ⟨_, _, h⟩ | ⟨_, h⟩ <;> cases h
    refine ⟨?_, w.r2, fun r hr => ?_, fun m hm => ?_, ?_, w.l2, w.lt, w.e⟩
    · show ((s.said ++ [(⟨s.coming, y⟩ : Rw)]).map Rw.num).Pairwise (· < ·)
      rw [List.map_append, List.pairwise_append]
      refine ⟨w.r1, List.pairwise_singleton _ _, fun a ha b hb => ?_⟩
      obtain ⟨r, hr, rfl⟩ := List.mem_map.mp ha
      have hb : b = s.coming := by simpa using hb
      rw [hb]; exact w.c1 r hr
    · show r.num < s.coming + 1
      rcases List.mem_append.mp hr with hr | hr
      · have := w.c1 r hr; omega
      · rw [List.mem_singleton.mp hr]; show s.coming < s.coming + 1; omega
    · show m.num < s.coming + 1
      have := w.c2 m hm; omega
    · show (s.said ++ [_]).length ≤ 24
      rw [List.length_append]; show s.said.length + 1 ≤ 24; omega
  | rem z x m =>
    rcases h with ⟨h0, h1, h2, h⟩ | ⟨_, _, _, h⟩ | ⟨_, _, h⟩ | ⟨_, h⟩ <;> cases h
    refine ⟨w.r1, ?_, fun r hr => ?_, fun m hm => ?_, w.l1, ?_, fun m hm => ?_, w.e⟩
    · show ((s.noted ++ [(⟨s.coming, z, x, m⟩ : Me)]).map Me.num).Pairwise (· < ·)
      rw [List.map_append, List.pairwise_append]
      refine ⟨w.r2, List.pairwise_singleton _ _, fun a ha b hb => ?_⟩
      obtain ⟨r, hr, rfl⟩ := List.mem_map.mp ha
      have hb : b = s.coming := by simpa using hb
      rw [hb]; exact w.c2 r hr
    · show r.num < s.coming + 1
      have := w.c1 r hr; omega
    · show m.num < s.coming + 1
      rcases List.mem_append.mp hm with hm | hm
      · have := w.c2 m hm; omega
      · rw [List.mem_singleton.mp hm]; show s.coming < s.coming + 1; omega
    · show (s.noted ++ [_]).length ≤ 24
      rw [List.length_append]; show s.noted.length + 1 ≤ 24; omega
    · rcases List.mem_append.mp hm with hm | hm
      · exact w.lt m hm
      · rw [List.mem_singleton.mp hm]; exact h0
  | unsay n =>
    rcases h with ⟨k, h1, h⟩ | ⟨_, h⟩ <;> cases h
    have sb := List.eraseIdx_sublist s.said k
    refine ⟨w.r1.sublist (sb.map _), w.r2, fun r hr => w.c1 r (sb.subset hr), w.c2, Nat.le_trans sb.length_le w.l1, w.l2, w.lt, w.e⟩
  | forget n =>
    rcases h with ⟨k, h1, h⟩ | ⟨_, h⟩ <;> cases h
    have sb := List.eraseIdx_sublist s.noted k
    refine ⟨w.r1, w.r2.sublist (sb.map _), w.c1, fun r hr => w.c2 r (sb.subset hr), w.l1, Nat.le_trans sb.length_le w.l2, fun m hm => w.lt m (sb.subset hm), w.e⟩
  | amend n y =>
    rcases h with ⟨k, h1, h2, h⟩ | ⟨_, _, _, h⟩ | ⟨_, h⟩ <;> cases h
    have en : (s.said.set k ⟨n, y⟩).map Rw.num = s.said.map Rw.num := by
      rw [List.map_set]
      refine List.ext_getElem? fun i => ?_
      rw [List.getElem?_set]
      by_cases z : k = i
      · subst z
        have hl := (List.getElem?_eq_some_iff.mp h1.1).1
        rw [if_pos rfl, if_pos hl, h1.1]
      · rw [if_neg z]
    have nl : n < s.coming := by
      obtain ⟨r, hr, e⟩ := List.mem_map.mp h1.mem
      rw [← e]; exact w.c1 r hr
    refine ⟨by rw [show ({ s with said := s.said.set k ⟨n, y⟩ } : Sht).said.map Rw.num = s.said.map Rw.num from en]; exact w.r1, w.r2, fun r hr => ?_, w.c2, by show (s.said.set k _).length ≤ 24; rw [List.length_set]; exact w.l1, w.l2, w.lt, w.e⟩
    rcases List.mem_or_eq_of_mem_set hr with hr | hr
    · exact w.c1 r hr
    · rw [hr]; exact nl
  | longer m =>
    rcases h with ⟨h1, h2, h⟩ | ⟨_, h⟩ <;> cases h
    exact ⟨w.r1, w.r2, w.c1, w.c2, w.l1, w.l2, w.lt, h2⟩
  | shorter m =>
    rcases h with ⟨h1, h2, h3, h⟩ | ⟨_, _, _, h⟩ | ⟨_, h⟩ <;> cases h
    exact ⟨w.r1, w.r2, w.c1, w.c2, w.l1, w.l2, w.lt, h2⟩
theorem RStp.wf {past ahead : List Sht} {now : Sht} {de : De} {r : Res} (h : RStp past now ahead de r) (wn : Wf now) (wp : ∀ s ∈ past, Wf s) (wa : ∀ s ∈ ahead, Wf s) :
    Wf (resB past now ahead r).2.1 ∧ (∀ s ∈ (resB past now ahead r).1, Wf s) ∧ (∀ s ∈ (resB past now ahead r).2.2, Wf s) ∧ (resB past now ahead r).1.length + (resB past now ahead r).2.2.length ≤ past.length + ahead.length + 1 := by
  have w1 : ∀ s ∈ past ++ [now], Wf s := fun s hs => (List.mem_append.mp hs).elim (wp s) fun z => by rw [List.mem_singleton.mp z]; exact wn
  have w2 : ∀ s ∈ ahead ++ [now], Wf s := fun s hs => (List.mem_append.mp hs).elim (wa s) fun z => by rw [List.mem_singleton.mp z]; exact wn
  cases de with
  | dd d =>
    obtain ⟨r0, h1, rfl⟩ := h
    cases r0 with
    | inl j => exact ⟨wn, wp, wa, Nat.le_succ _⟩
    | inr x =>
      obtain ⟨o, s'⟩ := x
      exact ⟨wn.step h1, w1, fun s hs => (nomatch hs), by show (past ++ [now]).length + 0 ≤ _; rw [List.length_append]; show past.length + 1 + 0 ≤ _; omega⟩
  | undo =>
    rcases h with ⟨a, rfl⟩ | ⟨p, x, rfl, rfl⟩
    · exact ⟨wn, wp, wa, Nat.le_succ _⟩
    · refine ⟨wp x (List.mem_append_right _ (List.mem_singleton.mpr rfl)), fun s hs => wp s (List.mem_append_left _ hs), w2, ?_⟩
      show p.length + (ahead ++ [now]).length ≤ (p ++ [x]).length + ahead.length + 1
      rw [List.length_append, List.length_append]
      show p.length + (ahead.length + 1) ≤ p.length + 1 + ahead.length + 1
      omega
  | redo =>
    rcases h with ⟨a, rfl⟩ | ⟨p, x, rfl, rfl⟩
    · exact ⟨wn, wp, wa, Nat.le_succ _⟩
    · refine ⟨wa x (List.mem_append_right _ (List.mem_singleton.mpr rfl)), w1, fun s hs => wa s (List.mem_append_left _ hs), ?_⟩
      show (past ++ [now]).length + p.length ≤ past.length + (p ++ [x]).length + 1
      rw [List.length_append, List.length_append]
      show past.length + 1 + p.length ≤ past.length + (p.length + 1) + 1
      omega
theorem make_bk {BK S BL b dx : Addr} {H : Hp} {e : Int} {Q : Hp → Prop} {E : XK} (he : In40 e) (np : H b = none) (ndx : H dx = none) (ne : dx ≠ b) (q : ∀ H', Same H H' → BkAt BK S (fun _ => False) H' b [⟨e, 1, [], []⟩] 0 .non .non → Q H') :
    spBinit BK S BL [.ref b, .int e] (upd (upd H dx (.own b)) b (.ins BK dx [])) (fun v H' => v = .non ∧ Q H') E := by
  have np' : upd H dx (.own b) b = none := by rw [upd_ne ne.symm]; exact np
  have s5 : Same H (upd (upd H dx (.own b)) b (.ins BK dx [])) := (same_upd ndx).trans (same_upd np')
  refine ⟨b, dx, fun _ => False, e, rfl, upd_same, fun a z => z.elim, fun _ H6 s6 bk => ⟨rfl, q H6 (fun c o hc => s6 c o (s5 _ _ hc) (fun z => by rw [z, np] at hc; cases hc)) bk⟩, fun z => absurd he z⟩
theorem make_bkX {X : Addr → Prop} {BK S BL b dx : Addr} {H : Hp} {e : Int} {Q : Hp → Prop} {E : XK} (nx : NX X H) (he : In40 e) (np : H b = none) (ndx : H dx = none) (ne : dx ≠ b) (q : ∀ H', Same H H' → H b = none → BkAt BK S X H' b [⟨e, 1, [], []⟩] 0 .non .non → Q H') :
    spBinit BK S BL [.ref b, .int e] (upd (upd H dx (.own b)) b (.ins BK dx [])) (fun v H' => v = .non ∧ Q H') E := by
  have np' : upd H dx (.own b) b = none := by rw [upd_ne ne.symm]; exact np
  have s5 : Same H (upd (upd H dx (.own b)) b (.ins BK dx [])) := (same_upd ndx).trans (same_upd np')
  refine ⟨b, dx, X, e, rfl, upd_same, fun a z => (nx.same s5).na a z, fun _ H6 s6 bk => ⟨rfl, q H6 (fun c o hc => s6 c o (s5 _ _ hc) (fun z => by rw [z, np] at hc; cases hc)) np bk⟩, fun z => absurd he z⟩
def spLawB (K : PySem.W.Frag) : Sp := fun vs H Q _ => ∃ (a : Addr) (ns : List Int), vs = [.ref a] ∧ SqL K H a (ns.map V.int) ∧ ns.length ≤ 63 ∧ ∀ H', Q (.bl true) H'
end Rep
namespace Rep
open PySem L2 L2H RepHot
/-! sayings and memories fit a sheet's song -/
structure Fit (s : Sht) : Prop where
  a : ∀ r ∈ s.said, Gd2 s.size r.sy
  b : ∀ m ∈ s.noted, St_ m.at_ m.n s.size
theorem fit0 {L c : Int} : Fit ⟨L, c, [], []⟩ := ⟨fun r hr => (nomatch hr), fun r hr => (nomatch hr)⟩
theorem St_.mono {x n e e' : Int} (h : St_ x n e) (k : e ≤ e') : St_ x n e' := ⟨h.1, h.2.1, Int.le_trans h.2.2 k⟩
theorem Fit.step {s s' : Sht} {d : Dd} {o : Option Int} (w : Fit s) (h : Stp s d (.inr (o, s'))) : Fit s' := by
  cases d with
  | say y =>
    rcases h with ⟨h1, h2, h⟩ | ⟨_, _, h⟩ | ⟨_, h⟩ <;> cases h
    refine ⟨fun r hr => ?_, w.b⟩
    rcases List.mem_append.mp hr with hr | hr
    · exact w.a r hr
    · rw [List.mem_singleton.mp hr]; exact h1
  | unsay n =>
    rcases h with ⟨k, h1, h⟩ | ⟨_, h⟩ <;> cases h
    exact ⟨fun r hr => w.a r (List.mem_of_mem_eraseIdx hr), w.b⟩
  | amend n y =>
    rcases h with ⟨k, h1, h2, h⟩ | ⟨_, _, _, h⟩ | ⟨_, h⟩ <;> cases h
    refine ⟨fun r hr => ?_, w.b⟩
    rcases List.mem_or_eq_of_mem_set hr with hr | hr
    · exact w.a r hr
    · rw [hr]; exact h2
  | rem z x m =>
    rcases h with ⟨h0, h1, h2, h⟩ | ⟨_, _, _, h⟩ | ⟨_, _, h⟩ | ⟨_, h⟩ <;> cases h
    refine ⟨w.a, fun r hr => ?_⟩
    rcases List.mem_append.mp hr with hr | hr
    · exact w.b r hr
    · rw [List.mem_singleton.mp hr]; exact h1
  | forget n =>
    rcases h with ⟨k, h1, h⟩ | ⟨_, h⟩ <;> cases h
    exact ⟨w.a, fun r hr => w.b r (List.mem_of_mem_eraseIdx hr)⟩
  | longer m =>
    rcases h with ⟨h1, h2, h⟩ | ⟨_, h⟩ <;> cases h
    have k : s.size ≤ s.size + m := by omega
    exact ⟨fun r hr => ⟨(w.a r hr).1.mono k, (w.a r hr).2.mono k⟩, fun r hr => (w.b r hr).mono k⟩
  | shorter m =>
    rcases h with ⟨h1, h2, h3, h⟩ | ⟨_, _, _, h⟩ | ⟨_, h⟩ <;> cases h
    refine ⟨fun r hr => ?_, fun r hr => ?_⟩
    · have e := h3 ((if r.sy.lo < r.sy.hi then r.sy.hi else r.sy.lo) + r.sy.n) (List.mem_append_left _ (List.mem_map.mpr ⟨r, hr, rfl⟩))
      obtain ⟨⟨a1, a2, _⟩, ⟨_, b2, _⟩⟩ := w.a r hr
      have c1 : r.sy.lo + r.sy.n ≤ s.size - m := by split at e <;> omega
      have c2 : r.sy.hi + r.sy.n ≤ s.size - m := by split at e <;> omega
      exact ⟨⟨a1, a2, c1⟩, ⟨a1, b2, c2⟩⟩
    · have e := h3 (r.at_ + r.n) (List.mem_append_right _ (List.mem_map.mpr ⟨r, hr, rfl⟩))
      obtain ⟨a1, a2, _⟩ := w.b r hr
      exact ⟨a1, a2, e⟩
/-- a deed of the laws' own draws makes a song by nine places longer, if it does -/
def Few (s : Sht) : De → Prop
  | .dd (.longer m) => m ≤ 9 ∨ 10 ^ 40 ≤ s.size + m
  | _ => True
theorem Stp.few {s s' : Sht} {d : Dd} {o : Option Int} (h : Stp s d (.inr (o, s'))) (f : Few s (.dd d)) : s'.size ≤ s.size + 9 := by
  cases d with
  | say y => rcases h with ⟨_, _, h⟩ | ⟨_, _, h⟩ | ⟨_, h⟩ <;> cases h; show s.size ≤ s.size + 9; omega
  | unsay n => rcases h with ⟨_, _, h⟩ | ⟨_, h⟩ <;> cases h; show s.size ≤ s.size + 9; omega
  | amend n y => rcases h with ⟨_, _, _, h⟩ | ⟨_, _, _, h⟩ | ⟨_, h⟩ <;> cases h; show s.size ≤ s.size + 9; omega
  | rem z x m => rcases h with ⟨_, _, _, h⟩ | ⟨_, _, _, h⟩ | ⟨_, _, h⟩ | ⟨_, h⟩ <;> cases h; show s.size ≤ s.size + 9; omega
  | forget n => rcases h with ⟨_, _, h⟩ | ⟨_, h⟩ <;> cases h; show s.size ≤ s.size + 9; omega
  | longer m =>
    rcases h with ⟨h1, h2, h⟩ | ⟨_, h⟩ <;> cases h
    show s.size + m ≤ s.size + 9
    have f : m ≤ 9 ∨ 10 ^ 40 ≤ s.size + m := f
    have := h2.2
    rcases f with f | f
    · omega
    · omega
  | shorter m =>
    rcases h with ⟨h1, h2, h3, h⟩ | ⟨_, _, _, h⟩ | ⟨_, h⟩ <;> cases h
    show s.size - m ≤ s.size + 9
    omega
/-- what each sheet of a book keeps -/
theorem RStp.all {P : Sht → Prop} {past ahead : List Sht} {now : Sht} {de : De} {r : Res} (h : RStp past now ahead de r) (st : ∀ d o s', de = .dd d → Stp now d (.inr (o, s')) → P s') (wn : P now) (wp : ∀ s ∈ past, P s) (wa : ∀ s ∈ ahead, P s) :
    P (resB past now ahead r).2.1 ∧ (∀ s ∈ (resB past now ahead r).1, P s) ∧ (∀ s ∈ (resB past now ahead r).2.2, P s) := by
  have w1 : ∀ s ∈ past ++ [now], P s := fun s hs => (List.mem_append.mp hs).elim (wp s) fun z => by rw [List.mem_singleton.mp z]; exact wn
  have w2 : ∀ s ∈ ahead ++ [now], P s := fun s hs => (List.mem_append.mp hs).elim (wa s) fun z => by rw [List.mem_singleton.mp z]; exact wn
  cases de with
  | dd d =>
    obtain ⟨r0, h1, rfl⟩ := h
    cases r0 with
    | inl j => exact ⟨wn, wp, wa⟩
    | inr x => exact ⟨st d x.1 x.2 rfl h1, w1, fun s hs => (nomatch hs)⟩
  | undo =>
    rcases h with ⟨_, rfl⟩ | ⟨p, x, rfl, rfl⟩
    · exact ⟨wn, wp, wa⟩
    · exact ⟨wp x (List.mem_append_right _ (List.mem_singleton.mpr rfl)), fun s hs => wp s (List.mem_append_left _ hs), w2⟩
  | redo =>
    rcases h with ⟨_, rfl⟩ | ⟨p, x, rfl, rfl⟩
    · exact ⟨wn, wp, wa⟩
    · exact ⟨wa x (List.mem_append_right _ (List.mem_singleton.mpr rfl)), w1, fun s hs => wa s (List.mem_append_left _ hs)⟩
end Rep
namespace Rep
open PySem L2 L2H RepHot
/-! a deed, drawn -/
def spDeed (K : PySem.W.Frag) : Sp := fun vs H Q _ => ∃ (a : Addr) (ns : List Int) (k : Int) (stv : V) (N : Addr → Prop) (s : Sht), vs = [.ref a, .int k, stv] ∧ SqL K H a (ns.map V.int) ∧ ns.length ≤ 63 ∧ StAt N H stv s ∧ Wf s ∧ ∀ H' dv de, Same H H' → DeAt H' dv de → deOk de → Few s de → Q dv H'
theorem scDeed : FnScope ["_law_script", "_law_k", "_law_state", "_law_length", "_law_coming", "_law_sayings", "_law_memories", "_law_kind", "_law_pick", "_law_odd", "_law_raw_here", "_law_kin_here", "_law_one", "_law_other", "_law_many", "_law_turned", "_law_letter_here", "_law_rows", "_law_number"] ["_law_script", "_law_k", "_law_state"] (defScope s_law_deed) := ⟨rfl, rfl, rfl, by decide +kernel, rfl, by decide +kernel, by decide +kernel⟩
structure TDe (Pg : Program) (w : World) (K : PySem.W.Frag) (mg : Str → Option Value) (base : Heap) (fD fS fL : Addr) (fdD fdS fdL : FuncData) : Prop where
  gD : FnOk Pg w K mg base CX0 7 fD fdD ["_law_script", "_law_k", "_law_sizes"] (spDig K)
  bD : Binds K fdD ["_law_script", "_law_k", "_law_sizes"] []
  kD : PySem.W.keepIn K (.ref fD) = true
  mD : mg "_law_digits" = some (.ref fD)
  gS : FnOk Pg w K mg base CX0 7 fS fdS ["_law_script", "_law_k", "_law_length"] (spSay K)
  bS : Binds K fdS ["_law_script", "_law_k", "_law_length"] []
  kS : PySem.W.keepIn K (.ref fS) = true
  mS : mg "_law_saying" = some (.ref fS)
  gL : FnOk Pg w K mg base CX0 7 fL fdL ["_law_raw_here"] spLl
  bL : Binds K fdL ["_law_raw_here"] []
  kL : PySem.W.keepIn K (.ref fL) = true
  mL : mg "_law_letter" = some (.ref fL)
  mM : mg "max" = none
  mI : mg "int" = none
  ml : mg "len" = none
theorem shapedMe {ms : List Me} (h : ∀ m ∈ ms, Ltr m.lt) : SeqAt.shaped (.list (ms.map meD')) = true := by
  unfold SeqAt.shaped
  have e : PyData.canLay0 (.list (ms.map meD')) = true := canMe' _ h
  rw [e]
  refine decide_eq_true ?_
  show PyData.depthAll (ms.map meD') + 1 ≤ 64
  have := depMe' ms
  omega
theorem p20 : CPow 10 20 := ⟨by decide, by decide, by decide⟩
theorem dg20 : Dg ((10 : Int) ^ (20 : Int).toNat) := ⟨by decide +kernel, by decide +kernel⟩
section
variable {Pg : Program} {w : World} {K : PySem.W.Frag} {mg : Str → Option Value} {base : Heap} {fD fS fL : Addr} {fdD fdS fdL : FuncData}
theorem ok_deed {f : Addr} {fd : FuncData} (F : Fun K "_law_deed" "_law_deed" s_law_deed f fd) (T : TDe Pg w K mg base fD fS fL fdD fdS fdL) : FnOk Pg w K mg base CX0 8 f fd ["_law_script", "_law_k", "_law_state"] (spDeed K) := by
  refine F.ok scDeed (fun vs H Q E h => ?_) (fun cdv A outer s H vs Q E hr h => ?_)
  · obtain ⟨a, ns, k, stv, N, s_, rfl, _⟩ := h; rfl
  obtain ⟨a, ns, k, stv, N, s_, rfl, hS, h63, st, wf, q⟩ := h
  have r7 : Room 7 _ := hr
  have hu := hu_of hr
  refine ⟨_, (C8.pss_cut (ps_asg (pv 2) (pg_tup rfl (pgs_cons (pg_name (i := 3) scDeed.nd rfl (.inl rfl)) (pgs_cons (pg_name (i := 4) scDeed.nd rfl (.inl rfl)) (pgs_cons (pg_name (i := 5) scDeed.nd rfl (.inl rfl)) (pgs_cons (pg_name (i := 6) scDeed.nd rfl (.inl rfl)) pgs_nil))))))
    (C8.pss_cut (ps_asg (pe_call T.gD r7 (by rfl) T.mD T.kD T.bD .nil pass0 (pa_cons (pv 0) (pa_cons (pv 1) (pa_cons (pe_lst (pa_cons pe_int (pa_cons pe_int (pa_cons pe_int (pa_cons (pe_op op_pow pe_int pe_int) (pa_cons pe_int pa_nil)))))) pa_nil)))) (pg_lst rfl (pgs_cons (pg_name (i := 7) scDeed.nd rfl (.inl rfl)) (pgs_cons (pg_name (i := 8) scDeed.nd rfl (.inl rfl)) (pgs_cons (pg_name (i := 9) scDeed.nd rfl (.inl rfl)) (pgs_cons (pg_name (i := 10) scDeed.nd rfl (.inl rfl)) (pgs_cons (pg_name (i := 11) scDeed.nd rfl (.inl rfl)) pgs_nil)))))))
    (C8.pss_cut (ps_asg (pe_call T.gS r7 (by rfl) T.mS T.kS T.bS .nil pass0 (pa_cons (pv 0) (pa_cons (pv 1) (pa_cons (pe_callB (call_max2 rfl) (by rfl) T.mM (by decide +kernel) (pa_cons pe_int (pa_cons (pv 3) pa_nil))) pa_nil)))) (pg_tup rfl (pgs_cons (pg_name (i := 12) scDeed.nd rfl (.inl rfl)) (pgs_cons (pg_name (i := 13) scDeed.nd rfl (.inl rfl)) (pgs_cons (pg_name (i := 14) scDeed.nd rfl (.inl rfl)) (pgs_cons (pg_name (i := 15) scDeed.nd rfl (.inl rfl)) pgs_nil))))))
    (C8.pss_cut (ps_if (pt_cmpR op_eq (pv 9) pe_int (nomark _)) (pss_one (ps_asg (pe_ix ix_list (pe_lst (pa_cons (pe_tup (pa_cons (pe_op op_add (pv 12) (pv 3)) (pa_cons (pv 13) (pa_cons (pv 14) pa_nil)))) (pa_cons (pe_tup (pa_cons (pv 12) (pa_cons (pe_op op_sub (pe_un un_neg pe_int) (pe_op op_mod (pv 10) pe_int)) (pa_cons (pv 14) pa_nil)))) (pa_cons (pe_tup (pa_cons (pv 12) (pa_cons (pv 13) (pa_cons pe_int pa_nil)))) (pa_cons (pe_tup (pa_cons (pv 12) (pa_cons (pe_op op_add (pe_op op_sub (pv 3) (pv 14)) pe_int) (pa_cons (pv 14) pa_nil)))) (pa_cons (pe_tup (pa_cons (pv 12) (pa_cons (pv 13) (pa_cons (pe_op op_add (pe_op op_add (pv 3) pe_int) (pv 10)) pa_nil)))) pa_nil)))))) (pe_op op_mod (pv 8) pe_int) (fun _ _ => rfl)) (pg_tup rfl (pgs_cons (pg_name (i := 12) scDeed.nd rfl (.inl rfl)) (pgs_cons (pg_name (i := 13) scDeed.nd rfl (.inl rfl)) (pgs_cons (pg_name (i := 14) scDeed.nd rfl (.inl rfl)) pgs_nil)))))) pss_nil)
    (C8.pss_cut (ps_set (i := 16) scDeed.nd rfl (.inl rfl) (pe_call T.gL r7 (by rfl) T.mL T.kL T.bL .nil pass0 (pa_cons (pe_op op_add (pe_op op_mul (pe_op op_mod (pv 10) pe_int) pe_int) (pe_op op_mod (pv 11) pe_int)) pa_nil)))
    (C8.pss_cut (ps_if (pt_cmpR op_gt (pv 11) pe_int (nomark _)) (pss_one (ps_set (i := 16) scDeed.nd rfl (.inl rfl) (pe_ix ix_list (pe_lst (pa_cons pe_str (pa_cons pe_str (pa_cons pe_str (pa_cons pe_str (pa_cons pe_str pa_nil)))))) (pe_op op_sub (pv 11) pe_int) (fun _ _ => rfl)))) pss_nil)
    (C8.pss_cut (ps_set (i := 17) scDeed.nd rfl (.inl rfl) (pe_ix ix_list (pe_lst (pa_cons (pv 5) (pa_cons (pv 6) pa_nil))) (pe_callTy call_int1 (by rfl) T.mI PyProof.Rows.boot_int (pa_cons (pe_cmpR op_ne (pe_cmpR op_eq (pv 7) pe_int (nomark _)) (pe_cmpR op_eq (pv 9) pe_int (nomark _)) (nomark _)) pa_nil)) (fun _ _ => rfl)))
    (C8.pss_cut (ps_set (i := 18) scDeed.nd rfl (.inl rfl) (pe_ix ix_list (pe_lst (pa_cons pe_int (pa_cons (pv 4) (pa_cons (pe_op op_add (pv 4) pe_int) (pa_cons (pe_un un_neg pe_int) pa_nil))))) (pe_op op_mod (pv 8) pe_int) (fun _ _ => rfl)))
    (C8.pss_cut (ps_if (PW.pt (pw_and (pt_cmpR (op_neD hr.units) (pv 17) (pe_lst pa_nil) (nomark _)) (pw_and1 (pt_cmpR op_gt (pe_op op_mod (pe_op op_fdivW (pv 8) pe_int) pe_int) pe_int (nomark _))))) (pss_one (ps_set (i := 18) scDeed.nd rfl (.inl rfl) (pe_ix ix_tup (pe_ix ix_list (pv 17) (pe_op op_mod (pv 8) (pe_callB call_len_seq (by rfl) T.ml PySem.boot_len (pa_cons (pv 17) pa_nil))) (fun _ _ => rfl)) pe_int (fun _ _ => rfl)))) pss_nil)
    (pss_cons (ps_if (pt_cmpR op_lt (pv 7) pe_int (nomark _)) (pss_one (ps_ret (pe_tup (pa_cons pe_str (pa_cons (pv 12) (pa_cons (pv 13) (pa_cons (pv 14) (pa_cons (pv 15) pa_nil)))))))) pss_nil)
    (pss_cons (ps_if (pt_cmpR op_eq (pv 7) pe_int (nomark _)) (pss_one (ps_ret (pe_tup (pa_cons pe_str (pa_cons (pv 18) pa_nil))))) pss_nil)
    (pss_cons (ps_if (pt_cmpR op_eq (pv 7) pe_int (nomark _)) (pss_one (ps_ret (pe_tup (pa_cons pe_str (pa_cons (pv 18) (pa_cons (pv 12) (pa_cons (pv 13) (pa_cons (pv 14) (pa_cons (pv 15) pa_nil))))))))) pss_nil)
    (pss_cons (ps_if (pt_cmpR op_lt (pv 7) pe_int (nomark _)) (pss_one (ps_ret (pe_tup (pa_cons pe_str (pa_cons (pv 16) (pa_cons (pv 13) (pa_cons (pv 14) pa_nil))))))) pss_nil)
    (pss_cons (ps_if (pt_cmpR op_eq (pv 7) pe_int (nomark _)) (pss_one (ps_ret (pe_tup (pa_cons pe_str (pa_cons (pv 18) pa_nil))))) pss_nil)
    (pss_cons (ps_if (pt_cmpR op_eq (pv 7) pe_int (nomark _)) (pss_one (ps_ret (pe_tup (pa_cons pe_str (pa_cons (pe_ix ix_list (pe_lst (pa_cons (pe_op op_add pe_int (pe_op op_mod (pv 10) pe_int)) (pa_cons (pe_op op_add pe_int (pe_op op_mod (pv 10) pe_int)) (pa_cons (pe_op op_add pe_int (pe_op op_mod (pv 10) pe_int)) (pa_cons pe_int (pa_cons (pe_op op_sub (pe_un un_neg pe_int) (pv 10)) (pa_cons (pe_op op_sub (pe_op op_pow pe_int pe_int) (pv 3)) pa_nil))))))) (pe_op op_mod (pv 8) pe_int) (fun _ _ => rfl)) pa_nil))))) pss_nil)
    (pss_cons (ps_if (pt_cmpR op_eq (pv 7) pe_int (nomark _)) (pss_one (ps_ret (pe_tup (pa_cons pe_str (pa_cons (pe_ix ix_list (pe_lst (pa_cons (pe_op op_add pe_int (pe_op op_mod (pv 10) pe_int)) (pa_cons (pe_op op_add pe_int (pe_op op_mod (pv 10) pe_int)) (pa_cons (pv 3) (pa_cons (pe_op op_add (pe_op op_add (pv 3) pe_int) (pv 10)) (pa_cons pe_int (pa_cons (pe_op op_sub pe_int (pv 10)) pa_nil))))))) (pe_op op_mod (pv 8) pe_int) (fun _ _ => rfl)) pa_nil))))) pss_nil)
    (pss_one (ps_ret (pe_tup (pa_cons (pe_ix ix_list (pe_lst (pa_cons pe_str (pa_cons pe_str (pa_cons pe_str pa_nil)))) (pe_op op_sub (pv 7) pe_int) (fun _ _ => rfl)) pa_nil)))))))))))))))))))), ?_⟩
  obtain ⟨t, la, lb, xs, ys, rfl, h2, h3, h4, h5, h6, h7, h8⟩ := st.ex
  have l1 := wf.l1
  have l2 := wf.l2
  have x1 := h4.len
  have y1 := h6.len
  have we := wf.e
  refine ⟨fun σ' H' => σ' = [some (.ref a), some (.int k), some (.ref t), some (.int s_.size), some (.int s_.coming), some (.ref la), some (.ref lb), none, none, none, none, none, none, none, none, none, none, none, none] ∧ H' = H, ?_, ?_⟩
  · exact ⟨.ref t, rfl, t, _, rfl, .inl (.inl h2), rfl, _, _, rfl, _, _, rfl, _, _, rfl, _, _, rfl, rfl, rfl, rfl⟩
  rintro σ' H' ⟨rfl, eH⟩
  subst eH
  -- draws
  refine ⟨fun σ' H1 => ∃ kd pk od rw_ kn : Int, σ' = [some (.ref a), some (.int k), some (.ref t), some (.int s_.size), some (.int s_.coming), some (.ref la), some (.ref lb), some (.int kd), some (.int pk), some (.int od), some (.int rw_), some (.int kn), none, none, none, none, none, none, none] ∧ Same H' H1 ∧ 0 ≤ kd ∧ kd < 14 ∧ 0 ≤ pk ∧ 0 ≤ kn ∧ kn < 40 ∧ 0 ≤ rw_, ?_, ?_⟩
  · refine ⟨.ref a, rfl, .int k, rfl, 10, 20, rfl, rfl, p20, ?_⟩
    refine ⟨szN 5 rfl, fun l1_ n_l1_ => ?_⟩
    generalize e_l1_ : upd H' l1_ _ = H1
    have u1 := new_same e_l1_ n_l1_
    have z1 := new_at e_l1_
    clear e_l1_
    refine ⟨a, l1_, ns, [14, 60, 9, (10 : Int) ^ (20 : Int).toNat, 40], k, rfl, u1.seq hS, h63, .inl (.inl z1), by show 5 ≤ 1000; decide, dgc ⟨by decide, by decide⟩ (dgc ⟨by decide, by decide⟩ (dgc ⟨by decide, by decide⟩ (dgc dg20 (dgc ⟨by decide, by decide⟩ dg0)))), fun H2 pd u2 np ep => ?_⟩
    generalize rawF ns k = ra at ep
    have hT0 : (10 : Int) ^ (20 : Int).toNat ≠ 0 := by decide +kernel
    generalize (10 : Int) ^ (20 : Int).toNat = TT at ep hT0
    have ep : H2 pd = some (.lst [.int (ra % 14), .int (ra / 14 % 60), .int (ra / 14 / 60 % 9), .int (ra / 14 / 60 / 9 % TT), .int (ra / 14 / 60 / 9 / TT % 40)]) := ep
    exact ⟨pd, _, rfl, .inl (.inl ep), rfl, _, _, rfl, _, _, rfl, _, _, rfl, _, _, rfl, _, _, rfl, rfl, _, _, _, _, _, rfl, u1.trans u2, Int.emod_nonneg _ (by omega), Int.emod_lt_of_pos _ (by omega), Int.emod_nonneg _ (by omega), Int.emod_nonneg _ (by omega), Int.emod_lt_of_pos _ (by omega), Int.emod_nonneg _ hT0⟩
  rintro σ' H1 ⟨kd, pk, od, rw_, kn, rfl, u1, kd0, kd1, pk0, kn0, kn1, rw0⟩
  -- a saying
  refine ⟨fun σ' H2 => ∃ (p1 p2 p3 : Int) (tb : Bool), σ' = [some (.ref a), some (.int k), some (.ref t), some (.int s_.size), some (.int s_.coming), some (.ref la), some (.ref lb), some (.int kd), some (.int pk), some (.int od), some (.int rw_), some (.int kn), some (.int p1), some (.int p2), some (.int p3), some (.bl tb), none, none, none] ∧ Same H' H2, ?_, ?_⟩
  · refine ⟨.ref a, rfl, .int k, rfl, .int s_.size, rfl, 1, s_.size, rfl, a, ns, k, _, rfl, u1.seq hS, h63, ?_, ?_, fun H2 v y u2 iy gy => ?_⟩
    · split <;> omega
    · have := we.2
      split <;> omega
    · obtain ⟨ty, rfl, hy⟩ := iy
      exact ⟨ty, _, rfl, .inl (.inl hy), rfl, _, _, rfl, _, _, rfl, _, _, rfl, _, _, rfl, rfl, _, _, _, _, rfl, u1.trans u2⟩
  rintro σ' H2 ⟨p1, p2, p3, tb, rfl, u2⟩
  clear u1
  -- spoilt
  refine ⟨fun σ' H3 => ∃ (p1 p2 p3 : Int), σ' = [some (.ref a), some (.int k), some (.ref t), some (.int s_.size), some (.int s_.coming), some (.ref la), some (.ref lb), some (.int kd), some (.int pk), some (.int od), some (.int rw_), some (.int kn), some (.int p1), some (.int p2), some (.int p3), some (.bl tb), none, none, none] ∧ Same H' H3, ?_, ?_⟩
  · refine ⟨.int od, rfl, rfl, _, rfl, ite2 (fun c => ?_) (fun c => ⟨p1, p2, p3, rfl, u2⟩)⟩
    clear c
    refine ⟨.int p1, rfl, .int s_.size, rfl, _, _, rfl, rfl, .int p2, rfl, .int p3, rfl, ?_⟩
    refine ⟨szN 3 rfl, fun t1 n_t1 => ?_⟩
    generalize e_t1 : upd H2 t1 _ = G1
    have v1 := new_same e_t1 n_t1
    have w1 := new_at e_t1
    clear e_t1
    refine ⟨.int p1, rfl, 1, rfl, .int rw_, rfl, _, 9, rfl, rfl, (by show (0 : Int) < 9; decide), _, _, rfl, rfl, .int p3, rfl, ?_⟩
    refine ⟨szN 3 rfl, fun t2 n_t2 => ?_⟩
    generalize e_t2 : upd G1 t2 _ = G2
    have v2 := new_same e_t2 n_t2
    have w2 := new_at e_t2
    clear e_t2
    refine ⟨.int p1, rfl, .int p2, rfl, ?_⟩
    refine ⟨szN 3 rfl, fun t3 n_t3 => ?_⟩
    generalize e_t3 : upd G2 t3 _ = G3
    have v3 := new_same e_t3 n_t3
    have w3 := new_at e_t3
    clear e_t3
    refine ⟨.int p1, rfl, .int s_.size, rfl, .int p3, rfl, _, _, rfl, rfl, _, _, rfl, rfl, .int p3, rfl, ?_⟩
    refine ⟨szN 3 rfl, fun t4 n_t4 => ?_⟩
    generalize e_t4 : upd G3 t4 _ = G4
    have v4 := new_same e_t4 n_t4
    have w4 := new_at e_t4
    clear e_t4
    refine ⟨.int p1, rfl, .int p2, rfl, .int s_.size, rfl, _, _, rfl, rfl, .int rw_, rfl, _, _, rfl, rfl, ?_⟩
    refine ⟨szN 3 rfl, fun t5 n_t5 => ?_⟩
    generalize e_t5 : upd G4 t5 _ = G5
    have v5 := new_same e_t5 n_t5
    have w5 := new_at e_t5
    clear e_t5
    refine ⟨szN 5 rfl, fun l5 n_l5 => ?_⟩
    generalize e_l5 : upd G5 l5 _ = G6
    have v6 := new_same e_l5 n_l5
    have w6 := new_at e_l5
    clear e_l5
    have x4 := (v5.trans v6) _ _ w4
    have x3 := (v4.trans (v5.trans v6)) _ _ w3
    have x2 := (v3.trans (v4.trans (v5.trans v6))) _ _ w2
    have x1 := (v2.trans (v3.trans (v4.trans (v5.trans v6)))) _ _ w1
    have x5 := v6 _ _ w5
    obtain ⟨v, hv, hat⟩ := at_any (xs := [V.ref t1, .ref t2, .ref t3, .ref t4, .ref t5]) (n := 5) (j := pk % 5) rfl (Int.emod_nonneg _ (by omega)) (Int.emod_lt_of_pos _ (by omega))
    obtain ⟨tx, y1, y2, y3, rfl, hx⟩ : ∃ (tx : Addr) (y1 y2 y3 : Int), v = .ref tx ∧ G6 tx = some (.tup [.int y1, .int y2, .int y3]) := by
      simp only [List.mem_cons, List.not_mem_nil, or_false] at hv
      rcases hv with rfl | rfl | rfl | rfl | rfl
      · exact ⟨_, _, _, _, rfl, x1⟩
      · exact ⟨_, _, _, _, rfl, x2⟩
      · exact ⟨_, _, _, _, rfl, x3⟩
      · exact ⟨_, _, _, _, rfl, x4⟩
      · exact ⟨_, _, _, _, rfl, x5⟩
    exact ⟨.int pk, rfl, _, 5, rfl, rfl, (by show (0 : Int) < 5; decide), l5, _, _, .ref tx, rfl, rfl, .inl (.inl w6), hat, tx, _, rfl, .inl (.inl hx), rfl, _, _, rfl, _, _, rfl, _, _, rfl, rfl, y1, y2, y3, rfl, u2.trans (v1.trans (v2.trans (v3.trans (v4.trans (v5.trans v6)))))⟩
  clear p1 p2 p3
  rintro σ' H3 ⟨p1, p2, p3, rfl, u3⟩
  clear u2
  -- a letter
  refine ⟨fun σ' H4 => ∃ (z : Str), σ' = [some (.ref a), some (.int k), some (.ref t), some (.int s_.size), some (.int s_.coming), some (.ref la), some (.ref lb), some (.int kd), some (.int pk), some (.int od), some (.int rw_), some (.int kn), some (.int p1), some (.int p2), some (.int p3), some (.bl tb), some (.str z), none, none] ∧ H4 = H3 ∧ z.length ≤ 1000, ?_, ?_⟩
  · refine ⟨.int rw_, rfl, _, 3, rfl, rfl, (by show (0 : Int) < 3; decide), _, _, rfl, rfl, .inr ⟨by decide, by decide⟩, .int kn, rfl, _, 2, rfl, rfl, (by show (0 : Int) < 2; decide), _, _, rfl, rfl, _, rfl, fun z hz => ⟨z, rfl, rfl, by rw [hz.len]; decide⟩⟩
  rintro σ' H4 ⟨z0, rfl, eH, hz0⟩
  subst eH
  refine ⟨fun σ' H5 => ∃ (z : Str), σ' = [some (.ref a), some (.int k), some (.ref t), some (.int s_.size), some (.int s_.coming), some (.ref la), some (.ref lb), some (.int kd), some (.int pk), some (.int od), some (.int rw_), some (.int kn), some (.int p1), some (.int p2), some (.int p3), some (.bl tb), some (.str z), none, none] ∧ Same H' H5 ∧ z.length ≤ 1000, ?_, ?_⟩
  · refine ⟨.int kn, rfl, _, _, rfl, rfl, _, rfl, ite2 (fun c => ?_) (fun c => ⟨z0, rfl, u3, hz0⟩)⟩
    have c : (34 : Int) < kn := of_decide_eq_true c
    refine ⟨szN 5 rfl, fun l5 n_l5 => ?_⟩
    generalize e_l5 : upd H4 l5 _ = G6
    have v6 := new_same e_l5 n_l5
    have w6 := new_at e_l5
    clear e_l5
    obtain ⟨v, hv, hat⟩ := at_any (xs := [V.str "", .str "ab", .str "A", .str "-", .str "z"]) (n := 5) (j := kn - 35) rfl (by omega) (by omega)
    obtain ⟨z, rfl, hz⟩ : ∃ z : Str, v = .str z ∧ z.length ≤ 1000 := by
      simp only [List.mem_cons, List.not_mem_nil, or_false] at hv
      rcases hv with rfl | rfl | rfl | rfl | rfl <;> exact ⟨_, rfl, by decide +kernel⟩
    exact ⟨.int kn, rfl, _, _, rfl, rfl, l5, _, _, .str z, rfl, rfl, .inl (.inl w6), hat, z, rfl, u3.trans v6, hz⟩
  clear hz0 z0
  rintro σ' H5 ⟨z, rfl, u5, hz⟩
  clear u3
  -- rows
  refine ⟨fun σ' H6 => ∃ (ro : Addr), σ' = [some (.ref a), some (.int k), some (.ref t), some (.int s_.size), some (.int s_.coming), some (.ref la), some (.ref lb), some (.int kd), some (.int pk), some (.int od), some (.int rw_), some (.int kn), some (.int p1), some (.int p2), some (.int p3), some (.bl tb), some (.str z), some (.ref ro), none] ∧ Same H' H6 ∧ (ro = la ∨ ro = lb), ?_, ?_⟩
  · refine ⟨.ref la, rfl, .ref lb, rfl, ?_⟩
    refine ⟨szN 2 rfl, fun l5 n_l5 => ?_⟩
    generalize e_l5 : upd H5 l5 _ = G6
    have v6 := new_same e_l5 n_l5
    have w6 := new_at e_l5
    clear e_l5
    refine ⟨.int kd, rfl, rfl, .int od, rfl, rfl, rfl, .inr ⟨_, rfl, ?_⟩⟩
    generalize (!decide (V.bl (decide (V.int kd = V.int 8)) = V.bl (decide (V.int od = V.int 1)))) = bb
    cases bb with
    | false => exact ⟨l5, _, _, .ref la, rfl, rfl, .inl (.inl w6), rfl, la, rfl, u5.trans v6, .inl rfl⟩
    | true => exact ⟨l5, _, _, .ref lb, rfl, rfl, .inl (.inl w6), rfl, lb, rfl, u5.trans v6, .inr rfl⟩
  rintro σ' H6 ⟨ro, rfl, u6, hro⟩
  clear u5
  -- a number
  refine ⟨fun σ' H7 => ∃ (nb : Int), σ' = [some (.ref a), some (.int k), some (.ref t), some (.int s_.size), some (.int s_.coming), some (.ref la), some (.ref lb), some (.int kd), some (.int pk), some (.int od), some (.int rw_), some (.int kn), some (.int p1), some (.int p2), some (.int p3), some (.bl tb), some (.str z), some (.ref ro), some (.int nb)] ∧ Same H' H7, ?_, ?_⟩
  · refine ⟨.int s_.coming, rfl, .int s_.coming, rfl, _, _, rfl, rfl, 1, rfl, ?_⟩
    refine ⟨szN 4 rfl, fun l5 n_l5 => ?_⟩
    generalize e_l5 : upd H6 l5 _ = G6
    have v6 := new_same e_l5 n_l5
    have w6 := new_at e_l5
    clear e_l5
    obtain ⟨v, hv, hat⟩ := at_any (xs := [V.int 0, .int s_.coming, .int (s_.coming + 7), .int (-1)]) (n := 4) (j := pk % 4) rfl (Int.emod_nonneg _ (by omega)) (Int.emod_lt_of_pos _ (by omega))
    obtain ⟨nb, rfl⟩ : ∃ nb : Int, v = .int nb := by
      simp only [List.mem_cons, List.not_mem_nil, or_false] at hv
      rcases hv with rfl | rfl | rfl | rfl <;> exact ⟨_, rfl⟩
    exact ⟨.int pk, rfl, _, 4, rfl, rfl, (by show (0 : Int) < 4; decide), l5, _, _, .int nb, rfl, rfl, .inl (.inl w6), hat, nb, rfl, u6.trans v6⟩
  rintro σ' H7 ⟨nb0, rfl, u7⟩
  clear u6
  refine ⟨fun σ' H8 => ∃ (nb : Int), σ' = [some (.ref a), some (.int k), some (.ref t), some (.int s_.size), some (.int s_.coming), some (.ref la), some (.ref lb), some (.int kd), some (.int pk), some (.int od), some (.int rw_), some (.int kn), some (.int p1), some (.int p2), some (.int p3), some (.bl tb), some (.str z), some (.ref ro), some (.int nb)] ∧ Same H' H8, ?_, ?_⟩
  · rcases hro with rfl | rfl
    · refine ⟨.ref ro, rfl, ?_⟩
      refine ⟨szN 0 rfl, fun l0 n_l0 => ?_⟩
      generalize e_l0 : upd H7 l0 _ = G1
      have v1 := new_same e_l0 n_l0
      have w1 := new_at e_l0
      clear e_l0
      have u71 := u7.trans v1
      have rl := RL.ts (TS.of u71) h4
      have er := u71 _ _ h3
      refine ⟨_, .list [], .lst (.inl (.inl er)) (dpAll_rw rl), .lst (.inl (.inl w1)) .nil, shapedRw _, by decide +kernel, _, rfl, ?_⟩
      rw [eqv_nilL, List.isEmpty_map]
      by_cases c : s_.said = []
      · rw [show (s_.said).isEmpty = true from by rw [c]; rfl]
        exact iteF (iteF ⟨nb0, rfl, u71⟩)
      rw [show (s_.said).isEmpty = false from by rw [Bool.eq_false_iff]; exact fun z => c (List.isEmpty_iff.mp z)]
      refine iteT ?_
      have pos : 0 < (xs.length : Int) := by
        have h1 := rl.len
        have h2 := List.length_pos_iff.mpr c
        omega
      refine ⟨.int pk, rfl, _, 4, rfl, rfl, ⟨by decide, by decide⟩, _, 4, rfl, rfl, (by show (0 : Int) < 4; decide), _, _, rfl, rfl, _, rfl, ite2 (fun _ => ?_) (fun _ => ⟨nb0, rfl, u71⟩)⟩
      obtain ⟨v, hv, hat⟩ := at_any (xs := xs) (n := xs.length) (j := pk % xs.length) rfl (Int.emod_nonneg _ (by omega)) (Int.emod_lt_of_pos _ pos)
      obtain ⟨m, _, tr, rfl, htr⟩ := rl.mem hv
      exact ⟨.ref ro, rfl, .int pk, rfl, .ref ro, rfl, ro, xs, rfl, .inl (.inl (.inl er)), _, _, rfl, rfl, pos, ro, xs, _, .ref tr, rfl, rfl, .inl (.inl er), hat, tr, _, _, .int m.num, rfl, rfl, .inl (.inl htr), rfl, m.num, rfl, u71⟩
    · refine ⟨.ref ro, rfl, ?_⟩
      refine ⟨szN 0 rfl, fun l0 n_l0 => ?_⟩
      generalize e_l0 : upd H7 l0 _ = G1
      have v1 := new_same e_l0 n_l0
      have w1 := new_at e_l0
      clear e_l0
      have u71 := u7.trans v1
      have rl := ML.ts (TS.of u71) h6
      have er := u71 _ _ h5
      refine ⟨_, .list [], .lst (.inl (.inl er)) (dpAll_me' rl), .lst (.inl (.inl w1)) .nil, shapedMe wf.lt, by decide +kernel, _, rfl, ?_⟩
      rw [eqv_nilL, List.isEmpty_map]
      by_cases c : s_.noted = []
      · rw [show (s_.noted).isEmpty = true from by rw [c]; rfl]
        exact iteF (iteF ⟨nb0, rfl, u71⟩)
      rw [show (s_.noted).isEmpty = false from by rw [Bool.eq_false_iff]; exact fun z => c (List.isEmpty_iff.mp z)]
      refine iteT ?_
      have pos : 0 < (ys.length : Int) := by
        have h1 := rl.len
        have h2 := List.length_pos_iff.mpr c
        omega
      refine ⟨.int pk, rfl, _, 4, rfl, rfl, ⟨by decide, by decide⟩, _, 4, rfl, rfl, (by show (0 : Int) < 4; decide), _, _, rfl, rfl, _, rfl, ite2 (fun _ => ?_) (fun _ => ⟨nb0, rfl, u71⟩)⟩
      obtain ⟨v, hv, hat⟩ := at_any (xs := ys) (n := ys.length) (j := pk % ys.length) rfl (Int.emod_nonneg _ (by omega)) (Int.emod_lt_of_pos _ pos)
      obtain ⟨m, _, tr, rfl, htr⟩ := rl.mem hv
      exact ⟨.ref ro, rfl, .int pk, rfl, .ref ro, rfl, ro, ys, rfl, .inl (.inl (.inl er)), _, _, rfl, rfl, pos, ro, ys, _, .ref tr, rfl, rfl, .inl (.inl er), hat, tr, _, _, .int m.num, rfl, rfl, .inl (.inl htr), rfl, m.num, rfl, u71⟩
  clear nb0
  rintro σ' H8 ⟨nb, rfl, u8⟩
  clear u7
  refine ⟨.int kd, rfl, _, _, rfl, rfl, _, rfl, ite2 (fun _ => ?_) (fun c1 => ?_)⟩
  · refine ⟨.int p1, rfl, .int p2, rfl, .int p3, rfl, .bl tb, rfl, ?_⟩
    refine ⟨szN 5 rfl, fun tr n_tr => ?_⟩
    generalize e_tr : upd H8 tr _ = H9
    have u9 := new_same e_tr n_tr
    have z9 := new_at e_tr
    clear e_tr
    exact q H9 (.ref tr) (.dd (.say ⟨p1, p2, p3, tb⟩)) (u8.trans u9) ⟨tr, rfl, z9⟩ trivial trivial
  have c1 : ¬ kd < 4 := fun z => c1 (decide_eq_true z)
  refine ⟨.int kd, rfl, rfl, _, rfl, ite2 (fun _ => ?_) (fun c2 => ?_)⟩
  · refine ⟨.int nb, rfl, ?_⟩
    refine ⟨szN 2 rfl, fun tr n_tr => ?_⟩
    generalize e_tr : upd H8 tr _ = H9
    have u9 := new_same e_tr n_tr
    have z9 := new_at e_tr
    clear e_tr
    exact q H9 (.ref tr) (.dd (.unsay nb)) (u8.trans u9) ⟨tr, rfl, z9⟩ trivial trivial
  have c2 : ¬ kd = 4 := fun z => c2 (decide_eq_true (by rw [z]))
  refine ⟨.int kd, rfl, rfl, _, rfl, ite2 (fun _ => ?_) (fun c3 => ?_)⟩
  · refine ⟨.int nb, rfl, .int p1, rfl, .int p2, rfl, .int p3, rfl, .bl tb, rfl, ?_⟩
    refine ⟨szN 6 rfl, fun tr n_tr => ?_⟩
    generalize e_tr : upd H8 tr _ = H9
    have u9 := new_same e_tr n_tr
    have z9 := new_at e_tr
    clear e_tr
    exact q H9 (.ref tr) (.dd (.amend nb ⟨p1, p2, p3, tb⟩)) (u8.trans u9) ⟨tr, rfl, z9⟩ trivial trivial
  have c3 : ¬ kd = 5 := fun z => c3 (decide_eq_true (by rw [z]))
  refine ⟨.int kd, rfl, _, _, rfl, rfl, _, rfl, ite2 (fun _ => ?_) (fun c4 => ?_)⟩
  · refine ⟨.str z, rfl, .int p2, rfl, .int p3, rfl, ?_⟩
    refine ⟨szN 4 rfl, fun tr n_tr => ?_⟩
    generalize e_tr : upd H8 tr _ = H9
    have u9 := new_same e_tr n_tr
    have z9 := new_at e_tr
    clear e_tr
    exact q H9 (.ref tr) (.dd (.rem z p2 p3)) (u8.trans u9) ⟨tr, rfl, z9⟩ hz trivial
  have c4 : ¬ kd < 8 := fun z => c4 (decide_eq_true z)
  refine ⟨.int kd, rfl, rfl, _, rfl, ite2 (fun _ => ?_) (fun c5 => ?_)⟩
  · refine ⟨.int nb, rfl, ?_⟩
    refine ⟨szN 2 rfl, fun tr n_tr => ?_⟩
    generalize e_tr : upd H8 tr _ = H9
    have u9 := new_same e_tr n_tr
    have z9 := new_at e_tr
    clear e_tr
    exact q H9 (.ref tr) (.dd (.forget nb)) (u8.trans u9) ⟨tr, rfl, z9⟩ trivial trivial
  have c5 : ¬ kd = 8 := fun z => c5 (decide_eq_true (by rw [z]))
  refine ⟨.int kd, rfl, rfl, _, rfl, ite2 (fun _ => ?_) (fun c6 => ?_)⟩
  · refine ⟨.int rw_, rfl, _, 9, rfl, rfl, (by show (0 : Int) < 9; decide), _, _, rfl, rfl, .int rw_, rfl, _, 3, rfl, rfl, (by show (0 : Int) < 3; decide), _, _, rfl, rfl, .int rw_, rfl, _, 5, rfl, rfl, (by show (0 : Int) < 5; decide), _, _, rfl, rfl, 1, rfl, .int rw_, rfl, _, _, rfl, rfl, 10, 40, rfl, rfl, p40, .int s_.size, rfl, _, _, rfl, rfl, ?_⟩
    refine ⟨szN 6 rfl, fun l6 n_l6 => ?_⟩
    generalize e_l6 : upd H8 l6 _ = G9
    have v9 := new_same e_l6 n_l6
    have w9 := new_at e_l6
    clear e_l6
    have eT : (10 : Int) ^ (40 : Int).toNat = 10 ^ 40 := rfl
    generalize (10 : Int) ^ (40 : Int).toNat = TT at w9 eT
    obtain ⟨v, hv, hat⟩ := at_any (xs := [V.int (1 + rw_ % 9), .int (1 + rw_ % 3), .int (1 + rw_ % 5), .int 0, .int (-1 - rw_), .int (TT - s_.size)]) (n := 6) (j := pk % 6) rfl (Int.emod_nonneg _ (by omega)) (Int.emod_lt_of_pos _ (by omega))
    obtain ⟨m, rfl, fw⟩ : ∃ m : Int, v = .int m ∧ (m ≤ 9 ∨ 10 ^ 40 ≤ s_.size + m) := by
      simp only [List.mem_cons, List.not_mem_nil, or_false] at hv
      rcases hv with rfl | rfl | rfl | rfl | rfl | rfl
      · exact ⟨_, rfl, .inl (by omega)⟩
      · exact ⟨_, rfl, .inl (by omega)⟩
      · exact ⟨_, rfl, .inl (by omega)⟩
      · exact ⟨_, rfl, .inl (by omega)⟩
      · exact ⟨_, rfl, .inl (by omega)⟩
      · exact ⟨_, rfl, .inr (by rw [← eT]; omega)⟩
    refine ⟨.int pk, rfl, _, 6, rfl, rfl, (by show (0 : Int) < 6; decide), l6, _, _, .int m, rfl, rfl, .inl (.inl w9), hat, ?_⟩
    refine ⟨szN 2 rfl, fun tr n_tr => ?_⟩
    generalize e_tr : upd G9 tr _ = H9
    have u9 := new_same e_tr n_tr
    have z9 := new_at e_tr
    clear e_tr
    exact q H9 (.ref tr) (.dd (.longer m)) (u8.trans (v9.trans u9)) ⟨tr, rfl, z9⟩ trivial fw
  have c6 : ¬ kd = 9 := fun z => c6 (decide_eq_true (by rw [z]))
  refine ⟨.int kd, rfl, rfl, _, rfl, ite2 (fun _ => ?_) (fun c7 => ?_)⟩
  · refine ⟨.int rw_, rfl, _, 5, rfl, rfl, (by show (0 : Int) < 5; decide), _, _, rfl, rfl, .int rw_, rfl, _, 3, rfl, rfl, (by show (0 : Int) < 3; decide), _, _, rfl, rfl, .int s_.size, rfl, .int s_.size, rfl, _, _, rfl, rfl, .int rw_, rfl, _, _, rfl, rfl, .int rw_, rfl, _, _, rfl, rfl, ?_⟩
    refine ⟨szN 6 rfl, fun l6 n_l6 => ?_⟩
    generalize e_l6 : upd H8 l6 _ = G9
    have v9 := new_same e_l6 n_l6
    have w9 := new_at e_l6
    clear e_l6
    obtain ⟨v, hv, hat⟩ := at_any (xs := [V.int (1 + rw_ % 5), .int (1 + rw_ % 3), .int s_.size, .int (s_.size + 1 + rw_), .int 0, .int (0 - rw_)]) (n := 6) (j := pk % 6) rfl (Int.emod_nonneg _ (by omega)) (Int.emod_lt_of_pos _ (by omega))
    obtain ⟨m, rfl⟩ : ∃ m : Int, v = .int m := by
      simp only [List.mem_cons, List.not_mem_nil, or_false] at hv
      rcases hv with rfl | rfl | rfl | rfl | rfl | rfl <;> exact ⟨_, rfl⟩
    refine ⟨.int pk, rfl, _, 6, rfl, rfl, (by show (0 : Int) < 6; decide), l6, _, _, .int m, rfl, rfl, .inl (.inl w9), hat, ?_⟩
    refine ⟨szN 2 rfl, fun tr n_tr => ?_⟩
    generalize e_tr : upd G9 tr _ = H9
    have u9 := new_same e_tr n_tr
    have z9 := new_at e_tr
    clear e_tr
    exact q H9 (.ref tr) (.dd (.shorter m)) (u8.trans (v9.trans u9)) ⟨tr, rfl, z9⟩ trivial trivial
  have c7 : ¬ kd = 10 := fun z => c7 (decide_eq_true (by rw [z]))
  refine ⟨szN 3 rfl, fun l6 n_l6 => ?_⟩
  generalize e_l6 : upd H8 l6 _ = G9
  have v9 := new_same e_l6 n_l6
  have w9 := new_at e_l6
  clear e_l6
  obtain ⟨v, hv, hat⟩ := at_any (xs := [V.str "undo", .str "undo", .str "redo"]) (n := 3) (j := kd - 11) rfl (by omega) (by omega)
  obtain ⟨de, ed, ok, fw⟩ : ∃ de : De, deV de = [v] ∧ deOk de ∧ Few s_ de := by
    simp only [List.mem_cons, List.not_mem_nil, or_false] at hv
    rcases hv with rfl | rfl | rfl
    · exact ⟨.undo, rfl, trivial, trivial⟩
    · exact ⟨.undo, rfl, trivial, trivial⟩
    · exact ⟨.redo, rfl, trivial, trivial⟩
  refine ⟨.int kd, rfl, _, _, rfl, rfl, l6, _, _, v, rfl, rfl, .inl (.inl w9), hat, ?_⟩
  refine ⟨szN 1 rfl, fun tr n_tr => ?_⟩
  generalize e_tr : upd G9 tr _ = H9
  have u9 := new_same e_tr n_tr
  have z9 := new_at e_tr
  clear e_tr
  exact q H9 (.ref tr) de (u8.trans (v9.trans u9)) ⟨tr, rfl, by rw [ed]; exact z9⟩ ok fw
end
end Rep
namespace Rep
open PySem L2 L2H RepHot
theorem p38 : CPow 10 38 := ⟨by decide, by decide, by decide⟩
theorem dgE : Dg ((10 : Int) ^ (38 : Int).toNat) := ⟨by decide +kernel, by decide +kernel⟩
theorem iteF' {c : Bool} {A B : Prop} (h : c = false) (q : B) : (if c = true then A else B) := by rw [h, if_neg (by decide)]; exact q
theorem de_len (de : De) : (∃ m, de = .dd (.longer m)) ∨ ∃ (wd : Str) (rest : List V), deV de = .str wd :: rest ∧ wd ≠ "lengthen" := by
  cases de with
  | undo => exact .inr ⟨_, _, rfl, by decide +kernel⟩
  | redo => exact .inr ⟨_, _, rfl, by decide +kernel⟩
  | dd d =>
    cases d with
    | say y => exact .inr ⟨_, _, rfl, by decide +kernel⟩
    | amend n y => exact .inr ⟨_, _, rfl, by decide +kernel⟩
    | unsay n => exact .inr ⟨_, _, rfl, by decide +kernel⟩
    | rem z x m => exact .inr ⟨_, _, rfl, by decide +kernel⟩
    | forget n => exact .inr ⟨_, _, rfl, by decide +kernel⟩
    | longer n => exact .inl ⟨n, rfl⟩
    | shorter n => exact .inr ⟨_, _, rfl, by decide +kernel⟩
def spGd (K : PySem.W.Frag) : Sp := fun vs H Q _ => ∃ (a : Addr) (ns : List Int) (k : Int) (stv : V) (N : Addr → Prop) (s : Sht), vs = [.ref a, .int k, stv] ∧ SqL K H a (ns.map V.int) ∧ ns.length ≤ 63 ∧ StAt N H stv s ∧ Wf s ∧ ∀ H' dv de, Same H H' → DeAt H' dv de → deOk de → Q dv H'
abbrev nGd : List Str := ["_law_script", "_law_k", "_law_state", "_law_deed_here"]
theorem scGd : FnScope nGd ["_law_script", "_law_k", "_law_state"] (defScope s_law_great_deed) := ⟨rfl, rfl, rfl, by decide +kernel, rfl, by decide +kernel, by decide +kernel⟩
structure TGd40 (Pg : Program) (w : World) (K : PySem.W.Frag) (mg : Str → Option Value) (base : Heap) (fDe fD : Addr) (fdDe fdD : FuncData) : Prop where
  gDe : FnOk Pg w K mg base CX0 8 fDe fdDe ["_law_script", "_law_k", "_law_state"] (spDeed K)
  bDe : Binds K fdDe ["_law_script", "_law_k", "_law_state"] []
  kDe : PySem.W.keepIn K (.ref fDe) = true
  mDe : mg "_law_deed" = some (.ref fDe)
  gD : FnOk Pg w K mg base CX0 7 fD fdD ["_law_script", "_law_k", "_law_sizes"] (spDig K)
  bD : Binds K fdD ["_law_script", "_law_k", "_law_sizes"] []
  kD : PySem.W.keepIn K (.ref fD) = true
  mD : mg "_law_digits" = some (.ref fD)
section
variable {Pg : Program} {w : World} {K : PySem.W.Frag} {mg : Str → Option Value} {base : Heap}
theorem ok_lgd {f fDe fD : Addr} {fd fdDe fdD : FuncData} (F : Fun K "_law_great_deed" "_law_great_deed" s_law_great_deed f fd) (T : TGd40 Pg w K mg base fDe fD fdDe fdD) : FnOk Pg w K mg base CX0 9 f fd ["_law_script", "_law_k", "_law_state"] (spGd K) := by
  refine F.ok scGd (fun vs H Q E h => ?_) (fun cdv A outer s H vs Q E hr h => ?_)
  · obtain ⟨a, ns, k, stv, N, s_, rfl, _⟩ := h; rfl
  obtain ⟨a, ns, k, stv, N, s_, rfl, hS, h63, st, wf, wq⟩ := h
  have r8 := hr
  have r7 : Room 7 _ := hr.mono (by decide)
  refine ⟨_, (C8.pss_cut (ps_set (i := 3) scGd.nd rfl (.inl rfl) (pe_call T.gDe r8 (by rfl) T.mDe T.kDe T.bDe .nil pass0 (pa_cons (pv 0) (pa_cons (pv 1) (pa_cons (pv 2) pa_nil)))))
    (pss_cons (ps_if (PW.pt (pw_and (pt_cmpR op_eq (pe_ix ix_tup (pv 3) pe_int (fun _ _ => rfl)) pe_str (nomark _)) (pw_and (pt_chain op_lt op_lt pe_int (pe_ix ix_tup (pv 3) pe_int (fun _ _ => rfl)) pe_int) (pw_and1 (pt_cmpR op_eq (pe_op op_mod (pv 1) pe_int) pe_int (nomark _)))))) (pss_one (ps_ret (pe_tup (pa_cons pe_str (pa_cons (pe_op op_add pe_int (pe_ix ix_list (pe_call T.gD r7 (by rfl) T.mD T.kD T.bD .nil pass0 (pa_cons (pv 0) (pa_cons (pv 1) (pa_cons (pe_lst (pa_cons pe_int (pa_cons (pe_op op_pow pe_int pe_int) pa_nil))) pa_nil)))) pe_int (fun _ _ => rfl))) pa_nil))))) pss_nil)
    (pss_one (ps_ret (pv 3))))), ?_⟩
  refine ⟨fun σ' H' => ∃ dv de, σ' = [some (.ref a), some (.int k), some stv, some dv] ∧ Same H H' ∧ DeAt H' dv de ∧ deOk de, ?_, ?_⟩
  · exact ⟨.ref a, rfl, .int k, rfl, stv, rfl, a, ns, k, stv, N, s_, rfl, hS, h63, st, wf, fun H1 dv de s1 da ok _ => ⟨dv, de, rfl, s1, da, ok⟩⟩
  rintro σ' H1 ⟨dv, de, rfl, s1, da, ok⟩
  obtain ⟨t, rfl, ht⟩ := id da
  rcases de_len de with ⟨m, rfl⟩ | ⟨wd, rest, hd, hw⟩
  · have ht : H1 t = some (.tup [.str "lengthen", .int m]) := ht
    refine ⟨.ref t, rfl, t, _, 0, .str "lengthen", rfl, rfl, .inl (.inl ht), rfl, rfl, _, rfl, ?_⟩
    refine ite2 (fun _ => ?_) (fun _ => ⟨.ref t, rfl, wq H1 _ _ s1 da ok⟩)
    refine ⟨.ref t, rfl, t, _, 1, .int m, rfl, rfl, .inl (.inl ht), rfl, 0, m, rfl, rfl, _, rfl, ?_⟩
    refine ite2 (fun _ => ?_) (fun _ => ⟨false, rfl, iteF ⟨.ref t, rfl, wq H1 _ _ s1 da ok⟩⟩)
    refine ⟨m, 10, rfl, rfl, _, rfl, ?_⟩
    refine ite2 (fun _ => ?_) (fun _ => ⟨.ref t, rfl, wq H1 _ _ s1 da ok⟩)
    refine ⟨.int k, rfl, _, 3, rfl, rfl, by show (0 : Int) < 3; decide, rfl, _, rfl, ?_⟩
    refine ite2 (fun _ => ?_) (fun _ => ⟨.ref t, rfl, wq H1 _ _ s1 da ok⟩)
    refine ⟨.ref a, rfl, .int k, rfl, 10, 38, rfl, rfl, p38, ?_⟩
    refine ⟨szN 2 rfl, fun l1 n_l1 => ?_⟩
    generalize e_l1 : upd H1 l1 _ = H2
    have s2 := new_same e_l1 n_l1
    have z2 := new_at e_l1
    clear e_l1
    refine ⟨a, l1, ns, [14, (10 : Int) ^ (38 : Int).toNat], k, rfl, (s1.trans s2).seq hS, h63, .inl (.inl z2), by show 2 ≤ 1000; decide, dgc ⟨by decide, by decide⟩ (dgc dgE dg0), fun H3 pd s3 np ep => ?_⟩
    generalize rawF ns k = ra at ep
    generalize (10 : Int) ^ (38 : Int).toNat = TT at ep
    have ep : H3 pd = some (.lst [.int (ra % 14), .int (ra / 14 % TT)]) := ep
    refine ⟨pd, _, 1, .int (ra / 14 % TT), rfl, rfl, .inl (.inl ep), rfl, 1, _, rfl, rfl, ?_⟩
    refine ⟨szN 2 rfl, fun t4 n_t4 => ?_⟩
    generalize e_t4 : upd H3 t4 _ = H4
    have s4 := new_same e_t4 n_t4
    have z4 := new_at e_t4
    clear e_t4
    exact wq H4 (.ref t4) (.dd (.longer (1 + ra / 14 % TT))) (s1.trans (s2.trans (s3.trans s4))) ⟨t4, rfl, z4⟩ trivial
  · rw [hd] at ht
    refine ⟨.ref t, rfl, t, _, 0, .str wd, rfl, rfl, .inl (.inl ht), atI_nat (j := 0) rfl, rfl, _, rfl, ?_⟩
    exact iteF' (decide_eq_false fun z => hw (V.str.inj z)) ⟨.ref t, rfl, wq H1 _ _ s1 da ok⟩

end
end Rep
namespace Rep
open PySem L2
/-! words, where they fit -/
/-- a number as a word -/
def nS (n : Nat) : Str := Str.ofString (toString (n : Int))
def wayS (t : Bool) : Str := if t then "turned" else "straight"
theorem nS_S (n : Nat) : nS n = SX.S (TL.numL n) := SX.num_S n
theorem nS_len {n : Nat} (h : n < 10 ^ 40) : (nS n).length ≤ 40 := by
  rw [nS_S, SX.S_len]
  exact TL.numL_len (by decide) h
theorem nS_int {n : Nat} (h : n < 10 ^ 40) : intText? (nS n) = some (n : Int) := TL.int_num (by
  have := TL.numL_len (k := 40) (by decide) h
  omega)
theorem dig_uni : ∀ d : Nat, d < 10 → Unicode.isDigit (48 + d) = true := by decide +kernel
theorem nS_ascii (n : Nat) : Txt.isascii (nS n) = true := by
  rw [nS_S]
  unfold Txt.isascii
  simp only [SX.S, List.all_toArray, List.all_eq_true, decide_eq_true_eq]
  intro c hc
  have := TL.numL_digits n c hc
  omega
theorem nS_digit (n : Nat) : Txt.isdigit (nS n) = true := by
  rw [nS_S]
  unfold Txt.isdigit
  rw [SX.S_len]
  have h0 : (TL.numL n).length > 0 := List.length_pos_iff.mpr (TL.numL_ne n)
  simp only [SX.S, List.all_toArray, Bool.and_eq_true, decide_eq_true_eq, List.all_eq_true]
  refine ⟨h0, fun c hc => ?_⟩
  have h := TL.numL_digits n c hc
  have := dig_uni (c - 48) (by omega)
  rw [show 48 + (c - 48) = c by omega] at this
  exact this
theorem num_head : ∀ n : Nat, 1 ≤ n → ∃ c r, TL.numL n = c :: r ∧ c ≠ 48 := by
  intro n
  induction n using Nat.strongRecOn with
  | _ n ih =>
    intro h1
    by_cases h : n < 10
    · rw [TL.numL_lt h]
      exact ⟨_, _, rfl, by omega⟩
    · rw [TL.numL_step (by omega)]
      obtain ⟨c, r, e, hc⟩ := ih (n / 10) (by omega) (by omega)
      rw [e]
      exact ⟨c, _, rfl, hc⟩
theorem starts_S {c d : Nat} {r : List Nat} (h : c ≠ d) : Txt.startswith (SX.S (c :: r)) (SX.S [d]) = false := by
  unfold Txt.startswith
  have e : Builtin.Str.subAt (SX.S (c :: r)) (SX.S [d]) 0 = false := by
    unfold Builtin.Str.subAt
    rw [SX.S_len]
    have x : ((SX.S (c :: r)).cps.extract 0 (0 + [d].length)) = #[c] := by simp [SX.S]
    rw [x]
    show (#[c] == #[d]) = false
    simp [h]
  rw [e, Bool.and_false]
end Rep
namespace Rep
open PySem L2
theorem iteFx {c : Bool} {A B : Prop} (h : c = false) (q : B) : (if c = true then A else B) := by rw [h, if_neg (by decide)]; exact q
def spNumW : Sp := fun vs H Q _ => ∃ n : Nat, vs = [.str (nS n)] ∧ n < 10 ^ 40 ∧ Q (.int (n : Int)) H
def spTurW : Sp := fun vs H Q _ => ∃ t : Bool, vs = [.str (wayS t)] ∧ ∀ H', Same H H' → Q (.bl t) H'
def spSayW : Sp := fun vs H Q _ => ∃ (a b c : Nat) (t : Bool), vs = [.str (nS a), .str (nS b), .str (nS c), .str (wayS t)] ∧ a < 10 ^ 40 ∧ b < 10 ^ 40 ∧ c < 10 ^ 40 ∧ ∀ H' p, Same H H' → H' p = some (.tup [.int (a : Int), .int (b : Int), .int (c : Int), .bl t]) → Q (.ref p) H'
def spWds : Sp := fun vs H Q _ => ∃ (a : Str) (ws : List Str), vs = [.str a] ∧ Txt.split a " " = ws ∧ ("" : Str) ∉ ws ∧ a.length + 2 ≤ sizeLine ∧ ∀ H' l, Same H H' → H l = none → H' l = some (.lst (ws.map V.str)) → Q (.ref l) H'
structure TWd (mg : Str → Option Value) : Prop where
  ml : mg "len" = none
  mI : mg "int" = none
  mf : ∃ u, mg "MOST_FIGURES" = some u ∧ RelV (.int 40) u
theorem scNumW : FnScope ["word"] ["word"] (defScope sNumber_of) := ⟨rfl, rfl, rfl, by decide +kernel, rfl, by decide +kernel, by decide +kernel⟩
theorem scTurW : FnScope ["word"] ["word"] (defScope sTurned_of) := ⟨rfl, rfl, rfl, by decide +kernel, rfl, by decide +kernel, by decide +kernel⟩
theorem scSayW : FnScope ["one", "other", "many", "way"] ["one", "other", "many", "way"] (defScope sSaying_of) := ⟨rfl, rfl, rfl, by decide +kernel, rfl, by decide +kernel, by decide +kernel⟩
theorem scWds : FnScope ["row", "words"] ["row"] (defScope sWords_of) := ⟨rfl, rfl, rfl, by decide +kernel, rfl, by decide +kernel, by decide +kernel⟩
section
variable {P : Program} {w : World} {K : PySem.W.Frag} {mg : Str → Option Value} {base : Heap}
theorem ok_numw {f : Addr} {fd : FuncData} {k : Nat} (F : Fun K "number_of" "number_of" sNumber_of f fd) (T : TWd mg) : FnOk P w K mg base CX0 (k + 1) f fd ["word"] spNumW := by
  refine F.ok scNumW (fun vs H Q E h => ?_) (fun cdv A outer s H vs Q E hr h => ?_)
  · obtain ⟨n, rfl, _⟩ := h; rfl
  obtain ⟨n, rfl, hn, q⟩ := h
  refine ⟨_, (pss_cons (ps_if (PW.pt (pw_or (pt_cmpR op_gt (pe_callB call_len_str (by rfl) T.ml PySem.boot_len (pa_cons (pv 0) pa_nil)) (C8.pe_gc (by rfl) T.mf) (nomark _)) (pw_or (pt_not (pt_val (pe_m0 PySem.F.slot_str_isascii PySem.F.type_str_isascii mt_isascii (pv 0)))) (pw_or1 (pt_not (pt_val (pe_m0 PySem.F.slot_str_isdigit PySem.F.type_str_isdigit mt_isdigit (pv 0)))))))) (pss_one ps_never) pss_nil)
    (pss_cons (ps_if (PW.pt (pw_and (pt_cmpR op_gt (pe_callB call_len_str (by rfl) T.ml PySem.boot_len (pa_cons (pv 0) pa_nil)) pe_int (nomark _)) (pw_and1 (pt_val (pe_m1 PySem.F.slot_str_startswith PySem.F.type_str_startswith mt_startswith (pv 0) pe_str))))) (pss_one ps_never) pss_nil)
    (pss_one (ps_ret (pe_callTy call_int_str (by rfl) T.mI PyProof.Rows.boot_int (pa_cons (pv 0) pa_nil)))))), ?_⟩
  have ln := nS_len hn
  have lz : (nS n).length ≤ sizeLine := Nat.le_trans ln (by decide)
  refine ⟨.str (nS n), rfl, nS n, rfl, lz, _, _, rfl, rfl, _, rfl, ite2 (fun c => absurd (of_decide_eq_true c) (by omega)) (fun _ => ?_)⟩
  refine ⟨.str (nS n), rfl, ⟨_, rfl⟩, nS n, rfl, rfl, trivial, ?_⟩
  rw [nS_ascii]
  refine ⟨true, rfl, iteF ?_⟩
  refine ⟨.str (nS n), rfl, ⟨_, rfl⟩, nS n, rfl, rfl, trivial, ?_⟩
  rw [nS_digit]
  refine ⟨true, rfl, iteF ?_⟩
  have fin : Q (.int (n : Int)) H := q
  refine ⟨.str (nS n), rfl, nS n, rfl, lz, _, 1, rfl, rfl, _, rfl, ite2 (fun c => ?_) (fun _ => ?_)⟩
  · have c : (1 : Int) < ((nS n).length : Int) := of_decide_eq_true c
    have n1 : 1 ≤ n := by
      rcases Nat.eq_zero_or_pos n with z | z
      · rw [z] at c; exact absurd c (by decide +kernel)
      · exact z
    refine ⟨.str (nS n), rfl, ⟨_, rfl⟩, nS n, "0", rfl, rfl, ?_⟩
    obtain ⟨d, r, e, hd⟩ := num_head n n1
    have st : Txt.startswith (nS n) "0" = false := by
      rw [nS_S, e]
      exact starts_S hd
    rw [st]
    exact ⟨false, rfl, iteF ⟨.str (nS n), rfl, nS n, n, rfl, nS_int hn, by omega, fin⟩⟩
  · exact ⟨.str (nS n), rfl, nS n, n, rfl, nS_int hn, by omega, fin⟩
theorem ok_turw {f : Addr} {fd : FuncData} {k : Nat} (F : Fun K "turned_of" "turned_of" sTurned_of f fd) : FnOk P w K mg base CX0 (k + 1) f fd ["word"] spTurW := by
  refine F.ok scTurW (fun vs H Q E h => ?_) (fun cdv A outer s H vs Q E hr h => ?_)
  · obtain ⟨t, rfl, _⟩ := h; rfl
  obtain ⟨t, rfl, q⟩ := h
  refine ⟨_, (pss_cons (ps_if (pt_cmpR op_notIn_seq (pv 0) (pe_tup (pa_cons pe_str (pa_cons pe_str pa_nil))) (by rfl)) (pss_one ps_never) pss_nil) (pss_one (ps_ret (pe_cmpR op_eq (pv 0) pe_str (nomark _))))), ?_⟩
  refine ⟨.str (wayS t), rfl, (by show 2 ≤ sizeLine; decide), fun p np => ?_⟩
  refine ⟨p, _, rfl, .inr (.inl (.inl upd_same)), rfl, rfl, _, rfl, ?_⟩
  refine iteFx (by show (!inV (V.str (wayS t)) [V.str "straight", V.str "turned"]) = false; cases t <;> decide +kernel) ?_
  have e : decide (V.str (wayS t) = V.str "turned") = t := by cases t <;> decide +kernel
  refine ⟨.str (wayS t), rfl, rfl, ?_⟩
  rw [e]
  exact q _ (same_upd np)
structure TSw (Pg : Program) (w : World) (K : PySem.W.Frag) (mg : Str → Option Value) (base : Heap) (k : Nat) (fN fT : Addr) (fdN fdT : FuncData) : Prop where
  gN : FnOk Pg w K mg base CX0 k fN fdN ["word"] spNumW
  bN : Binds K fdN ["word"] []
  kN : PySem.W.keepIn K (.ref fN) = true
  mN : mg "number_of" = some (.ref fN)
  gT : FnOk Pg w K mg base CX0 k fT fdT ["word"] spTurW
  bT : Binds K fdT ["word"] []
  kT : PySem.W.keepIn K (.ref fT) = true
  mT : mg "turned_of" = some (.ref fT)
theorem ok_sayw {f fN fT : Addr} {fd fdN fdT : FuncData} {k : Nat} (F : Fun K "saying_of" "saying_of" sSaying_of f fd) (T : TSw P w K mg base k fN fT fdN fdT) : FnOk P w K mg base CX0 (k + 1) f fd ["one", "other", "many", "way"] spSayW := by
  refine F.ok scSayW (fun vs H Q E h => ?_) (fun cdv A outer s H vs Q E hr h => ?_)
  · obtain ⟨a, b, c, t, rfl, _⟩ := h; rfl
  obtain ⟨a, b, c, t, rfl, ha, hb, hc, q⟩ := h
  refine ⟨_, (pss_one (ps_ret (pe_tup (pa_cons (pe_call T.gN hr (by rfl) T.mN T.kN T.bN .nil pass0 (pa_cons (pv 0) pa_nil)) (pa_cons (pe_call T.gN hr (by rfl) T.mN T.kN T.bN .nil pass0 (pa_cons (pv 1) pa_nil)) (pa_cons (pe_call T.gN hr (by rfl) T.mN T.kN T.bN .nil pass0 (pa_cons (pv 2) pa_nil)) (pa_cons (pe_call T.gT hr (by rfl) T.mT T.kT T.bT .nil pass0 (pa_cons (pv 3) pa_nil)) pa_nil))))))), ?_⟩
  refine ⟨.str (nS a), rfl, a, rfl, ha, .str (nS b), rfl, b, rfl, hb, .str (nS c), rfl, c, rfl, hc, .str (wayS t), rfl, t, rfl, fun H1 s1 => ⟨(by show 4 ≤ sizeLine; decide), fun p np => ?_⟩⟩
  exact q _ p (s1.trans (same_upd np)) upd_same
theorem ok_wds {f : Addr} {fd : FuncData} {k : Nat} (F : Fun K "words_of" "words_of" sWords_of f fd) : FnOk P w K mg base CX0 (k + 1) f fd ["row"] spWds := by
  refine F.ok scWds (fun vs H Q E h => ?_) (fun cdv A outer s H vs Q E hr h => ?_)
  · obtain ⟨a, ws, rfl, _⟩ := h; rfl
  obtain ⟨a, ws, rfl, hs, he, hl, q⟩ := h
  refine ⟨_, (pss_cons (ps_set (i := 1) scWds.nd rfl (.inl rfl) (pe_split (pv 0) pe_str)) (pss_cons (ps_if (pt_cmpR op_in_seq pe_str (pv 1) (by rfl)) (pss_one ps_never) pss_nil) (pss_one (ps_ret (pv 1))))), ?_⟩
  refine ⟨.str a, rfl, ⟨_, rfl⟩, a, " ", rfl, rfl, by decide +kernel, hl, fun p np => ?_⟩
  rw [hs]
  have fl : (ws.map V.str).all flatV = true := by
    rw [List.all_eq_true]
    intro v hv
    obtain ⟨z, _, rfl⟩ := List.mem_map.mp hv
    rfl
  refine ⟨.ref p, rfl, p, _, rfl, .inl (.inl (.inl upd_same)), rfl, fl, _, rfl, ?_⟩
  have ne : inV (V.str "") (ws.map V.str) = false := by
    show (ws.map V.str).any _ = false
    rw [List.any_eq_false]
    intro v hv
    obtain ⟨z, hz, rfl⟩ := List.mem_map.mp hv
    intro h
    have h : (z == ("" : Str)) = true := h
    exact he (by rw [← eq_of_beq h]; exact hz)
  refine iteFx ne ?_
  exact ⟨.ref p, rfl, q _ p (same_upd np) np upd_same⟩
end
end Rep
namespace Rep
open PySem L2 L2H RepHot
/-! words, where they fit and where they do not -/
structure ExU (K : PySem.W.Frag) (mg : Str → Option Value) (x : Str) (C : Addr) : Prop where
  g : mg x = some (.ref C)
  x : PySem.W.excIn K C [.type "Exception", .type "BaseException", .type "object"] "Exception.__new__" = true
  k : PySem.W.keepIn K (.ref C) = true
  b : PySem.W.subIn K (.ref C) (.type "BaseException") = some true
  t : PySem.W.typeIn K (.ref C) = some (.type "type")
def Num (z : Str) : Prop := ∃ n : Nat, n < 10 ^ 40 ∧ z = nS n
def Way (z : Str) : Prop := ∃ t : Bool, z = wayS t
theorem uni_dig : ∀ c : Nat, c < 128 → Unicode.isDigit c = true → 48 ≤ c ∧ c ≤ 57 := by decide +kernel
theorem num_back : ∀ (k : Nat) (l : List Nat), l.length = k + 1 → (∀ c ∈ l, 48 ≤ c ∧ c ≤ 57) → (k = 0 ∨ l.head? ≠ some 48) → ∃ n, TL.numL n = l ∧ n < 10 ^ (k + 1) ∧ (l.head? ≠ some 48 → 1 ≤ n) := by
  intro k
  induction k with
  | zero =>
    intro l hl hd _
    match l, hl, hd with
    | [c], _, hd =>
      have h := hd c (List.mem_singleton.mpr rfl)
      refine ⟨c - 48, ?_, by omega, fun z => ?_⟩
      · rw [TL.numL_lt (by omega)]
        congr 1
        omega
      · have z : c ≠ 48 := fun y => z (by rw [y]; rfl)
        omega
  | succ k ih =>
    intro l hl hd hh
    have hh : l.head? ≠ some 48 := hh.resolve_left (by omega)
    have ne : l ≠ [] := fun z => by rw [z] at hl; simp at hl
    obtain ⟨l1, c, rfl⟩ : ∃ l1 c, l = l1 ++ [c] := ⟨l.dropLast, l.getLast ne, (List.dropLast_concat_getLast ne).symm⟩
    have l1l : l1.length = k + 1 := by simpa using hl
    have h1 : (l1 ++ [c]).head? = l1.head? := by
      cases l1 with
      | nil => simp at l1l
      | cons a r => rfl
    rw [h1] at hh ⊢
    obtain ⟨n, e, b, p⟩ := ih l1 l1l (fun x hx => hd x (List.mem_append_left _ hx)) (.inr hh)
    have n1 := p hh
    have hc := hd c (by simp)
    have pw : 10 ^ (k + 1 + 1) = 10 ^ (k + 1) * 10 := Nat.pow_succ ..
    refine ⟨10 * n + (c - 48), ?_, by omega, fun _ => by omega⟩
    rw [TL.numL_step (by omega), show (10 * n + (c - 48)) / 10 = n by omega, show (10 * n + (c - 48)) % 10 = c - 48 by omega, e, show 48 + (c - 48) = c by omega]
theorem starts0 {r : List Nat} : Txt.startswith (SX.S (48 :: r)) "0" = true := by
  rw [show ("0" : Str) = SX.S [48] by decide +kernel]
  unfold Txt.startswith
  have e : Builtin.Str.subAt (SX.S (48 :: r)) (SX.S [48]) 0 = true := by
    unfold Builtin.Str.subAt
    rw [SX.S_len]
    have x : ((SX.S (48 :: r)).cps.extract 0 (0 + [48].length)) = #[48] := by simp [SX.S]
    rw [x]
    rfl
  rw [e, Bool.and_true, SX.S_len, SX.S_len]
  simp
theorem num_of {z : Str} (h1 : ¬ z.length > 40) (h2 : Txt.isascii z = true) (h3 : Txt.isdigit z = true) (h4 : z.length ≤ 1 ∨ Txt.startswith z "0" = false) : Num z := by
  obtain ⟨l, rfl⟩ : ∃ l, z = SX.S l := ⟨z.cps.toList, (SX.S_tl z).symm⟩
  rw [SX.S_len] at h1 h4
  unfold Txt.isascii at h2
  simp only [SX.S, List.all_toArray, List.all_eq_true, decide_eq_true_eq] at h2
  unfold Txt.isdigit at h3
  rw [SX.S_len] at h3
  simp only [SX.S, List.all_toArray, Bool.and_eq_true, decide_eq_true_eq, List.all_eq_true] at h3
  have hd : ∀ c ∈ l, 48 ≤ c ∧ c ≤ 57 := fun c hc => uni_dig c (by have := h2 c hc; omega) (h3.2 c hc)
  obtain ⟨k, hk⟩ : ∃ k, l.length = k + 1 := ⟨l.length - 1, by omega⟩
  have hh : k = 0 ∨ l.head? ≠ some 48 := by
    rcases h4 with h4 | h4
    · exact .inl (by omega)
    · refine .inr fun z => ?_
      match l, z with
      | 48 :: r, _ => rw [starts0] at h4; cases h4
  obtain ⟨n, e, b, _⟩ := num_back k l hk hd hh
  have le : (10 : Nat) ^ (k + 1) ≤ 10 ^ 40 := Nat.pow_le_pow_right (by decide) (by omega)
  exact ⟨n, by omega, by rw [nS_S, e]⟩
theorem num_pass {z : Str} (h : Num z) : ¬ z.length > 40 ∧ Txt.isascii z = true ∧ Txt.isdigit z = true ∧ (z.length ≤ 1 ∨ Txt.startswith z "0" = false) := by
  obtain ⟨n, hn, rfl⟩ := h
  refine ⟨by have := nS_len hn; omega, nS_ascii n, nS_digit n, ?_⟩
  rcases Nat.eq_zero_or_pos n with c | c
  · rw [c]; exact .inl (by decide +kernel)
  · obtain ⟨d, r, e, hd⟩ := num_head n c
    refine .inr ?_
    rw [nS_S, e]
    exact starts_S hd
theorem nS_inj {m n : Nat} (h : nS m = nS n) : m = n := by
  rw [nS_S, nS_S] at h
  exact TL.numL_inj (congrArg (fun x : Str => x.cps.toList) h)
theorem way_inj {s t : Bool} (h : wayS s = wayS t) : s = t := by
  cases s <;> cases t <;> first | rfl | exact absurd h (by decide +kernel)
theorem way_in (z : Str) : inV (V.str z) [V.str "straight", V.str "turned"] = true ↔ Way z := by
  have e : inV (V.str z) [V.str "straight", V.str "turned"] = (("straight" : Str) == z || (("turned" : Str) == z || false)) := by
    first | rfl | (show _ = _; simp [inV])
  constructor
  · intro h
    rw [e] at h
    simp only [Bool.or_false, Bool.or_eq_true, beq_iff_eq] at h
    rcases h with h | h
    · exact ⟨false, h.symm⟩
    · exact ⟨true, h.symm⟩
  · rintro ⟨t, rfl⟩
    cases t <;> decide +kernel
def spNumR (UF : Addr) : Sp := fun vs H Q E => ∃ z : Str, vs = [.str z] ∧ z.length ≤ sizeLine ∧ (∀ n : Nat, z = nS n → n < 10 ^ 40 → Q (.int (n : Int)) H) ∧ (¬ Num z → E (.ref UF) none H)
def spTurR (UF : Addr) : Sp := fun vs H Q E => ∃ z : Str, vs = [.str z] ∧ (∀ t H', z = wayS t → Same H H' → Q (.bl t) H') ∧ (¬ Way z → ∀ H', Same H H' → E (.ref UF) none H')
def SayW (z1 z2 z3 z4 : Str) : Prop := Num z1 ∧ Num z2 ∧ Num z3 ∧ Way z4
def spSayR (UF : Addr) : Sp := fun vs H Q E => ∃ z1 z2 z3 z4 : Str, vs = [.str z1, .str z2, .str z3, .str z4] ∧ z1.length ≤ sizeLine ∧ z2.length ≤ sizeLine ∧ z3.length ≤ sizeLine ∧
  (∀ (a b c : Nat) (t : Bool), z1 = nS a → z2 = nS b → z3 = nS c → z4 = wayS t → a < 10 ^ 40 → b < 10 ^ 40 → c < 10 ^ 40 → ∀ H' p, Same H H' → H' p = some (.tup [.int (a : Int), .int (b : Int), .int (c : Int), .bl t]) → Q (.ref p) H') ∧ (¬ SayW z1 z2 z3 z4 → ∀ H', Same H H' → E (.ref UF) none H')
def spWdsR (UF : Addr) : Sp := fun vs H Q E => ∃ a : Str, vs = [.str a] ∧ a.length + 2 ≤ sizeLine ∧ (("" : Str) ∉ Txt.split a " " → ∀ H' l, Same H H' → H l = none → H' l = some (.lst ((Txt.split a " ").map V.str)) → Q (.ref l) H') ∧ (("" : Str) ∈ Txt.split a " " → ∀ H', Same H H' → E (.ref UF) none H')
structure TWdR (K : PySem.W.Frag) (mg : Str → Option Value) (UF : Addr) : Prop where
  ml : mg "len" = none
  mI : mg "int" = none
  mf : ∃ u, mg "MOST_FIGURES" = some u ∧ RelV (.int 40) u
  xU : ExU K mg "Unfit" UF
section
variable {P : Program} {w : World} {K : PySem.W.Frag} {mg : Str → Option Value} {base : Heap} {UF : Addr}
theorem ok_numR {f : Addr} {fd : FuncData} {k : Nat} (F : Fun K "number_of" "number_of" sNumber_of f fd) (T : TWdR K mg UF) : FnOk P w K mg base (L2N.CX P w) (k + 1) f fd ["word"] (spNumR UF) := by
  refine okN F scNumW (fun vs H Q E h => ?_) (fun cdv A outer s H vs Q E hr h => ?_)
  · obtain ⟨z, rfl, _⟩ := h; rfl
  obtain ⟨z, rfl, lz, q, qe⟩ := h
  refine ⟨_, (pss_cons (ps_if (PW.pt (pw_or (pt_cmpR op_gt (pe_callB call_len_str (by rfl) T.ml PySem.boot_len (pa_cons (pv 0) pa_nil)) (C8.pe_gc (by rfl) T.mf) (nomark _)) (pw_or (pt_not (pt_val (pe_m0 PySem.F.slot_str_isascii PySem.F.type_str_isascii mt_isascii (pv 0)))) (pw_or1 (pt_not (pt_val (pe_m0 PySem.F.slot_str_isdigit PySem.F.type_str_isdigit mt_isdigit (pv 0)))))))) (pss_one (L2N.ps_raise rfl (L2N.takes_of rfl rfl rfl rfl) (L2N.pmk_own PySem.F.excBase_Exception T.xU.x T.xU.g T.xU.k (raises_own T.xU.b T.xU.t) rfl))) pss_nil)
    (pss_cons (ps_if (PW.pt (pw_and (pt_cmpR op_gt (pe_callB call_len_str (by rfl) T.ml PySem.boot_len (pa_cons (pv 0) pa_nil)) pe_int (nomark _)) (pw_and1 (pt_val (pe_m1 PySem.F.slot_str_startswith PySem.F.type_str_startswith mt_startswith (pv 0) pe_str))))) (pss_one (L2N.ps_raise rfl (L2N.takes_of rfl rfl rfl rfl) (L2N.pmk_own PySem.F.excBase_Exception T.xU.x T.xU.g T.xU.k (raises_own T.xU.b T.xU.t) rfl))) pss_nil)
    (pss_one (ps_ret (pe_callTy call_int_str (by rfl) T.mI PyProof.Rows.boot_int (pa_cons (pv 0) pa_nil)))))), ?_⟩
  refine ⟨.str z, rfl, z, rfl, lz, _, _, rfl, rfl, _, rfl, ite2 (fun c => ?_) (fun c => ?_)⟩
  · have c := of_decide_eq_true c
    refine iteT ?_
    exact qe fun y => (num_pass y).1 (by omega)
  have c1 : ¬ z.length > 40 := fun y => c (decide_eq_true (by show (40 : Int) < _; omega))
  refine ⟨.str z, rfl, ⟨_, rfl⟩, z, rfl, rfl, trivial, ?_⟩
  cases h2 : Txt.isascii z with
  | false =>
    refine ⟨false, rfl, iteT (iteT ?_)⟩
    exact qe fun y => by rw [(num_pass y).2.1] at h2; cases h2
  | true =>
    refine ⟨true, rfl, iteF ?_⟩
    refine ⟨.str z, rfl, ⟨_, rfl⟩, z, rfl, rfl, trivial, ?_⟩
    cases h3 : Txt.isdigit z with
    | false =>
      refine ⟨false, rfl, iteT ?_⟩
      exact qe fun y => by rw [(num_pass y).2.2.1] at h3; cases h3
    | true =>
      refine ⟨true, rfl, iteF ?_⟩
      refine ⟨.str z, rfl, z, rfl, lz, _, 1, rfl, rfl, _, rfl, ite2 (fun c => ?_) (fun c => ?_)⟩
      · have c : (1 : Int) < (z.length : Int) := of_decide_eq_true c
        refine ⟨.str z, rfl, ⟨_, rfl⟩, z, "0", rfl, rfl, ?_⟩
        cases h4 : Txt.startswith z "0" with
        | true =>
          refine ⟨true, rfl, iteT ?_⟩
          refine qe fun y => ?_
          rcases (num_pass y).2.2.2 with y | y
          · omega
          · rw [y] at h4; cases h4
        | false =>
          obtain ⟨n, hn, e⟩ := num_of c1 h2 h3 (.inr h4)
          exact ⟨false, rfl, iteF ⟨.str z, rfl, z, n, rfl, by rw [e]; exact nS_int hn, by omega, q n e hn⟩⟩
      · have c : ¬ (1 : Int) < (z.length : Int) := fun y => c (decide_eq_true y)
        obtain ⟨n, hn, e⟩ := num_of c1 h2 h3 (.inl (by omega))
        exact ⟨.str z, rfl, z, n, rfl, by rw [e]; exact nS_int hn, by omega, q n e hn⟩
theorem ok_turR {f : Addr} {fd : FuncData} {k : Nat} (F : Fun K "turned_of" "turned_of" sTurned_of f fd) (xU : ExU K mg "Unfit" UF) : FnOk P w K mg base (L2N.CX P w) (k + 1) f fd ["word"] (spTurR UF) := by
  refine okN F scTurW (fun vs H Q E h => ?_) (fun cdv A outer s H vs Q E hr h => ?_)
  · obtain ⟨z, rfl, _⟩ := h; rfl
  obtain ⟨z, rfl, q, qe⟩ := h
  refine ⟨_, (pss_cons (ps_if (pt_cmpR op_notIn_seq (pv 0) (pe_tup (pa_cons pe_str (pa_cons pe_str pa_nil))) (by rfl)) (pss_one (L2N.ps_raise rfl (L2N.takes_of rfl rfl rfl rfl) (L2N.pmk_own PySem.F.excBase_Exception xU.x xU.g xU.k (raises_own xU.b xU.t) rfl))) pss_nil) (pss_one (ps_ret (pe_cmpR op_eq (pv 0) pe_str (nomark _))))), ?_⟩
  refine ⟨.str z, rfl, (by show 2 ≤ sizeLine; decide), fun p np => ?_⟩
  refine ⟨p, _, rfl, .inr (.inl (.inl upd_same)), rfl, rfl, _, rfl, ?_⟩
  have sp := same_upd (o := HO.tup [V.str "straight", V.str "turned"]) np
  cases hw : inV (V.str z) [V.str "straight", V.str "turned"] with
  | false =>
    refine iteT ?_
    exact qe (fun y => by rw [(way_in z).mpr y] at hw; cases hw) _ sp
  | true =>
    refine iteF ?_
    obtain ⟨t, rfl⟩ := (way_in z).mp hw
    have e : decide (V.str (wayS t) = V.str "turned") = t := by cases t <;> decide +kernel
    refine ⟨.str (wayS t), rfl, rfl, ?_⟩
    rw [e]
    exact q t _ rfl sp
structure TSwR (Pg : Program) (w : World) (K : PySem.W.Frag) (mg : Str → Option Value) (base : Heap) (UF : Addr) (k : Nat) (fN fT : Addr) (fdN fdT : FuncData) : Prop where
  gN : FnOk Pg w K mg base (L2N.CX Pg w) k fN fdN ["word"] (spNumR UF)
  bN : Binds K fdN ["word"] []
  kN : PySem.W.keepIn K (.ref fN) = true
  mN : mg "number_of" = some (.ref fN)
  gT : FnOk Pg w K mg base (L2N.CX Pg w) k fT fdT ["word"] (spTurR UF)
  bT : Binds K fdT ["word"] []
  kT : PySem.W.keepIn K (.ref fT) = true
  mT : mg "turned_of" = some (.ref fT)
theorem ok_sayR {f fN fT : Addr} {fd fdN fdT : FuncData} {k : Nat} (F : Fun K "saying_of" "saying_of" sSaying_of f fd) (T : TSwR P w K mg base UF k fN fT fdN fdT) : FnOk P w K mg base (L2N.CX P w) (k + 1) f fd ["one", "other", "many", "way"] (spSayR UF) := by
  refine okN F scSayW (fun vs H Q E h => ?_) (fun cdv A outer s H vs Q E hr h => ?_)
  · obtain ⟨z1, z2, z3, z4, rfl, _⟩ := h; rfl
  obtain ⟨z1, z2, z3, z4, rfl, l1, l2, l3, q, qe⟩ := h
  refine ⟨_, (pss_one (ps_ret (pe_tup (pa_cons (pe_call T.gN hr (by rfl) T.mN T.kN T.bN .nil (by exact L2N.passes_call (L2N.takes_of rfl rfl rfl rfl) (fun _ _ _ _ h => h)) (pa_cons (pv 0) pa_nil)) (pa_cons (pe_call T.gN hr (by rfl) T.mN T.kN T.bN .nil (by exact L2N.passes_call (L2N.takes_of rfl rfl rfl rfl) (fun _ _ _ _ h => h)) (pa_cons (pv 1) pa_nil)) (pa_cons (pe_call T.gN hr (by rfl) T.mN T.kN T.bN .nil (by exact L2N.passes_call (L2N.takes_of rfl rfl rfl rfl) (fun _ _ _ _ h => h)) (pa_cons (pv 2) pa_nil)) (pa_cons (pe_call T.gT hr (by rfl) T.mT T.kT T.bT .nil (by exact L2N.passes_call (L2N.takes_of rfl rfl rfl rfl) (fun _ _ _ _ h => h)) (pa_cons (pv 3) pa_nil)) pa_nil))))))), ?_⟩
  refine ⟨.str z1, rfl, z1, rfl, l1, fun a ea ha => ?_, fun y => qe (fun x => y x.1) _ (Same.refl _)⟩
  refine ⟨.str z2, rfl, z2, rfl, l2, fun b eb hb => ?_, fun y => qe (fun x => y x.2.1) _ (Same.refl _)⟩
  refine ⟨.str z3, rfl, z3, rfl, l3, fun c ec hc => ?_, fun y => qe (fun x => y x.2.2.1) _ (Same.refl _)⟩
  refine ⟨.str z4, rfl, z4, rfl, fun t H1 et s1 => ?_, fun y H1 s1 => qe (fun x => y x.2.2.2) _ s1⟩
  exact ⟨(by show 4 ≤ sizeLine; decide), fun p np => q a b c t ea eb ec et ha hb hc _ p (s1.trans (same_upd np)) upd_same⟩
theorem ok_wdsR {f : Addr} {fd : FuncData} {k : Nat} (F : Fun K "words_of" "words_of" sWords_of f fd) (xU : ExU K mg "Unfit" UF) : FnOk P w K mg base (L2N.CX P w) (k + 1) f fd ["row"] (spWdsR UF) := by
  refine okN F scWds (fun vs H Q E h => ?_) (fun cdv A outer s H vs Q E hr h => ?_)
  · obtain ⟨a, rfl, _⟩ := h; rfl
  obtain ⟨a, rfl, hl, q, qe⟩ := h
  refine ⟨_, (pss_cons (ps_set (i := 1) scWds.nd rfl (.inl rfl) (pe_split (pv 0) pe_str)) (pss_cons (ps_if (pt_cmpR op_in_seq pe_str (pv 1) (by rfl)) (pss_one (L2N.ps_raise rfl (L2N.takes_of rfl rfl rfl rfl) (L2N.pmk_own PySem.F.excBase_Exception xU.x xU.g xU.k (raises_own xU.b xU.t) rfl))) pss_nil) (pss_one (ps_ret (pv 1))))), ?_⟩
  refine ⟨.str a, rfl, ⟨_, rfl⟩, a, " ", rfl, rfl, by decide +kernel, hl, fun p np => ?_⟩
  generalize Txt.split a " " = ws at q qe ⊢
  have fl : (ws.map V.str).all flatV = true := by
    rw [List.all_eq_true]
    intro v hv
    obtain ⟨z, _, rfl⟩ := List.mem_map.mp hv
    rfl
  refine ⟨.ref p, rfl, p, _, rfl, .inl (.inl (.inl upd_same)), rfl, fl, _, rfl, ?_⟩
  have hin : inV (V.str "") (ws.map V.str) = true ↔ ("" : Str) ∈ ws := by
    show (ws.map V.str).any _ = true ↔ _
    rw [List.any_eq_true]
    constructor
    · rintro ⟨v, hv, h⟩
      obtain ⟨z, hz, rfl⟩ := List.mem_map.mp hv
      have h : (z == ("" : Str)) = true := h
      rw [← eq_of_beq h]; exact hz
    · intro h
      exact ⟨_, List.mem_map_of_mem h, by show (("" : Str) == ("" : Str)) = true; decide +kernel⟩
  have sp := same_upd (o := HO.lst (ws.map V.str)) np
  cases hw : inV (V.str "") (ws.map V.str) with
  | true =>
    refine iteT ?_
    exact qe (hin.mp hw) _ sp
  | false =>
    refine iteF ?_
    exact ⟨.ref p, rfl, q (fun y => by rw [hin.mpr y] at hw; cases hw) _ p sp np upd_same⟩
end
end Rep
namespace Rep
open PySem L2 L2H RepHot
/-! a text parted at one sign -/
theorem pre_one (c x : Nat) (r : List Nat) : TL.pre [c] (x :: r) = decide (x = c) := by
  show (([x] : List Nat) == [c]) = _
  by_cases h : x = c
  · rw [h, decide_eq_true rfl]; simp
  · rw [decide_eq_false h]; simp [h]
theorem spl_len (c : Nat) : ∀ (l acc : List Nat), (∀ p ∈ TL.spl [c] 0 acc l, p.length ≤ acc.length + l.length) ∧ (TL.spl [c] 0 acc l).length ≤ l.length + 1 ∧ TL.spl [c] 0 acc l ≠ [] := by
  intro l
  induction l with
  | nil =>
    intro acc
    rw [TL.spl_nil]
    exact ⟨fun p hp => by rw [List.mem_singleton.mp hp]; exact Nat.le_add_right _ _, Nat.le_refl _, by simp⟩
  | cons x r ih =>
    intro acc
    have lr : (x :: r).length = r.length + 1 := rfl
    by_cases h : x = c
    · rw [TL.spl_hit (by rw [pre_one, decide_eq_true h])]
      obtain ⟨h1, h2, h3⟩ := ih []
      have e0 : ([] : List Nat).length = 0 := rfl
      refine ⟨fun p hp => ?_, by show (TL.spl [c] 0 [] r).length + 1 ≤ _; omega, by simp⟩
      rcases List.mem_cons.mp hp with rfl | hp
      · exact Nat.le_add_right _ _
      · have := h1 p hp
        omega
    · rw [TL.spl_miss (by rw [pre_one, decide_eq_false h])]
      obtain ⟨h1, h2, h3⟩ := ih (acc ++ [x])
      refine ⟨fun p hp => ?_, by omega, h3⟩
      have := h1 p hp
      rw [List.length_append] at this
      have e1 : [x].length = 1 := rfl
      omega
theorem spl_back (c : Nat) : ∀ (l acc : List Nat), TL.joinL [c] (TL.spl [c] 0 acc l) = acc ++ l := by
  intro l
  induction l with
  | nil => intro acc; rw [TL.spl_nil]; show acc = _; rw [List.append_nil]
  | cons x r ih =>
    intro acc
    by_cases h : x = c
    · rw [TL.spl_hit (by rw [pre_one, decide_eq_true h])]
      have e := ih []
      obtain ⟨_, _, ne⟩ := spl_len c r []
      show TL.joinL [c] (acc :: TL.spl [c] 0 [] r) = _
      match hs : TL.spl [c] 0 [] r, ne with
      | p :: q, _ =>
        rw [hs] at e
        show acc ++ ([c] ++ TL.joinL [c] (p :: q)) = _
        rw [e, h]
        rfl
    · rw [TL.spl_miss (by rw [pre_one, decide_eq_false h]), ih, List.append_assoc]
      rfl
theorem spl_in (c : Nat) : ∀ (l acc : List Nat), c ∉ acc → ∀ p ∈ TL.spl [c] 0 acc l, c ∉ p := by
  intro l
  induction l with
  | nil => intro acc h p hp; rw [TL.spl_nil] at hp; rw [List.mem_singleton.mp hp]; exact h
  | cons x r ih =>
    intro acc ha p hp
    by_cases h : x = c
    · rw [TL.spl_hit (by rw [pre_one, decide_eq_true h])] at hp
      rcases List.mem_cons.mp hp with rfl | hp
      · exact ha
      · exact ih [] (by simp) p hp
    · rw [TL.spl_miss (by rw [pre_one, decide_eq_false h])] at hp
      refine ih (acc ++ [x]) (fun z => ?_) p hp
      rcases List.mem_append.mp z with z | z
      · exact ha z
      · exact h (List.mem_singleton.mp z).symm
theorem nl_S : ("\n" : Str) = SX.S [10] := by decide +kernel
theorem bl_S : (" " : Str) = SX.S [32] := by decide +kernel
/-- what Txt.split tells at one sign -/
structure Spt (c : Nat) (x : Str) (ws : List Str) : Prop where
  ne : ws ≠ []
  len : ws.length ≤ x.length + 1
  le : ∀ z ∈ ws, z.length ≤ x.length
  no : ∀ z ∈ ws, c ∉ z.cps.toList
  bk : x = SX.S (TL.joinL [c] (ws.map fun z => z.cps.toList))
theorem spt_of {c : Nat} {y : Str} (hy : y = SX.S [c]) (hc : c < 256) (x : Str) : Spt c x (Txt.split x y) := by
  obtain ⟨l, rfl⟩ : ∃ l, x = SX.S l := ⟨x.cps.toList, (SX.S_tl x).symm⟩
  rw [hy, SX.split_S (by simp) (by simp [hc])]
  obtain ⟨h1, h2, h3⟩ := spl_len c l []
  have e0 : ([] : List Nat).length = 0 := rfl
  refine ⟨by simpa using h3, by rw [List.length_map, SX.S_len]; exact h2, fun z hz => ?_, fun z hz => ?_, ?_⟩
  · obtain ⟨p, hp, rfl⟩ := List.mem_map.mp hz
    rw [SX.S_len, SX.S_len]
    have := h1 p hp
    omega
  · obtain ⟨p, hp, rfl⟩ := List.mem_map.mp hz
    exact spl_in c l [] (by simp) p hp
  · rw [List.map_map]
    have e : ((fun z : Str => z.cps.toList) ∘ SX.S) = id := by funext p; rfl
    rw [e, List.map_id, spl_back]
    rfl
theorem spt_w (x : Str) : Spt 32 x (Txt.split x " ") := spt_of bl_S (by decide) x
theorem spt_n (x : Str) : Spt 10 x (Txt.split x "\n") := spt_of nl_S (by decide) x
end Rep
namespace Rep
/-- a row is not longer -/
abbrev RowL : Nat := 1000000
end Rep
namespace Rep
open PySem L2 L2H RepHot
/-! the rows of a page, read -/
def lastF (s : Sht) : Int := maxI (s.said.map Rw.num ++ s.noted.map Me.num) 0
inductive RowOk (s : Sht) (row : Str) : Sht → Prop
  | say {n a b c : Nat} {t : Bool} (e : Txt.split row " " = [("say" : Str), nS n, nS a, nS b, nS c, wayS t]) (b1 : n < 10 ^ 40) (b2 : a < 10 ^ 40) (b3 : b < 10 ^ 40) (b4 : c < 10 ^ 40) (hl : lastF s < (n : Int)) (hc : (n : Int) < s.coming) (g : Gd2 s.size ⟨a, b, c, t⟩) (l : s.said.length < 24) : RowOk s row { s with said := s.said ++ [⟨n, ⟨a, b, c, t⟩⟩] }
  | note {n a c : Nat} {z : Str} (e : Txt.split row " " = [("note" : Str), nS n, z, nS a, nS c]) (b1 : n < 10 ^ 40) (b2 : a < 10 ^ 40) (b3 : c < 10 ^ 40) (hl : lastF s < (n : Int)) (hc : (n : Int) < s.coming) (k : Ltr z) (g : St_ a c s.size) (l : s.noted.length < 24) : RowOk s row { s with noted := s.noted ++ [⟨n, z, a, c⟩] }
def SongOk (row : Str) (s : Sht) : Prop := ∃ a b : Nat, Txt.split row " " = [("song" : Str), nS a, nS b] ∧ a < 10 ^ 40 ∧ 1 ≤ b ∧ b ≤ 999999 ∧ s = ⟨a, b, [], []⟩
def StpR (row : Str) (s' : Sht) : Option Sht → Prop
  | none => SongOk row s'
  | some s => RowOk s row s'
inductive Reach (rows : List Str) : Nat → Option Sht → Prop
  | zero : Reach rows 0 none
  | next {i : Nat} {o : Option Sht} {row : Str} {s' : Sht} (h : Reach rows i o) (hr : rows[i]? = some row) (st : StpR row s' o) : Reach rows (i + 1) (some s')
theorem RowOk.uniq {s s1 s2 : Sht} {row : Str} (h : RowOk s row s1) (k : RowOk s row s2) : s1 = s2 := by
  cases h with
  | @say n a b c t e =>
    cases k with
    | @say m x y z u e' =>
      rw [e] at e'
      simp only [List.cons.injEq, and_true, true_and] at e'
      obtain ⟨h1, h2, h3, h4, h5⟩ := e'
      rw [nS_inj h1, nS_inj h2, nS_inj h3, nS_inj h4, way_inj h5]
    | @note m x z y e' =>
      rw [e] at e'
      exact absurd (congrArg List.length e') (by simp)
  | @note n a c z e =>
    cases k with
    | @say m x y z u e' =>
      rw [e] at e'
      exact absurd (congrArg List.length e') (by simp)
    | @note m x y u e' =>
      rw [e] at e'
      simp only [List.cons.injEq, and_true, true_and] at e'
      obtain ⟨h1, rfl, h3, h4⟩ := e'
      rw [nS_inj h1, nS_inj h3, nS_inj h4]
theorem StpR.uniq {o : Option Sht} {s1 s2 : Sht} {row : Str} (h : StpR row s1 o) (k : StpR row s2 o) : s1 = s2 := by
  cases o with
  | some s => exact RowOk.uniq h k
  | none =>
    obtain ⟨a, b, e, _, _, _, rfl⟩ := h
    obtain ⟨c, d, e', _, _, _, rfl⟩ := k
    rw [e] at e'
    simp only [List.cons.injEq, and_true, true_and] at e'
    rw [nS_inj e'.1, nS_inj e'.2]
theorem Reach.uniq {rows : List Str} {i : Nat} {o p : Option Sht} (h : Reach rows i o) : Reach rows i p → o = p := by
  induction h generalizing p with
  | zero => intro k; cases k; rfl
  | next _ hr st ih =>
    intro k
    cases k with
    | next k hr' st' =>
      rw [hr] at hr'
      cases hr'
      have e := ih k
      rw [← e] at st'
      rw [st.uniq st']
theorem Reach.less {rows : List Str} {i : Nat} {o : Option Sht} (h : Reach rows i o) : ∀ j, j ≤ i → ∃ p, Reach rows j p := by
  induction h with
  | zero => intro j hj; exact ⟨_, by rw [show j = 0 by omega]; exact .zero⟩
  | @next i o row s' h hr st ih =>
    intro j hj
    by_cases c : j = i + 1
    · exact ⟨_, by rw [c]; exact .next h hr st⟩
    · exact ih j (by omega)
/-- where all rows are right none is wrong -/
theorem Reach.go {rows : List Str} {i k : Nat} {o p : Option Sht} (h : Reach rows i o) (k_ : Reach rows k p) (lt : k < i) {row : Str} (hr : rows[k]? = some row) : ∃ s', StpR row s' p := by
  obtain ⟨q, hq⟩ := h.less (k + 1) lt
  cases hq with
  | next h2 hr2 st2 =>
    rw [hr] at hr2
    cases hr2
    rw [k_.uniq h2]
    exact ⟨_, st2⟩
structure RdOk (s : Sht) : Prop where
  e : In40 s.size
  c : 1 ≤ s.coming ∧ s.coming ≤ 999999
  l1 : s.said.length ≤ 24
  l2 : s.noted.length ≤ 24
  a : ∀ r ∈ s.said, 1 ≤ r.num ∧ r.num < s.coming ∧ Gd2 s.size r.sy
  b : ∀ m ∈ s.noted, 1 ≤ m.num ∧ m.num < s.coming ∧ Ltr m.lt ∧ St_ m.at_ m.n s.size
  s1 : s.said.Pairwise fun x y => x.num < y.num
  s2 : s.noted.Pairwise fun x y => x.num < y.num
theorem lastF_ge {s : Sht} : 0 ≤ lastF s ∨ ∃ z ∈ s.said.map Rw.num ++ s.noted.map Me.num, z < 0 := by
  unfold lastF
  match e : s.said.map Rw.num ++ s.noted.map Me.num with
  | [] => exact .inl (Int.le_refl _)
  | a :: r =>
    by_cases h : a < 0
    · exact .inr ⟨a, .head _, h⟩
    · refine .inl ?_
      have := le_maxI (l := a :: r) (d := 0) (.head r)
      omega
theorem lastF_le {s : Sht} {z : Int} (h : z ∈ s.said.map Rw.num ++ s.noted.map Me.num) : z ≤ lastF s := le_maxI h
theorem RdOk.last {s : Sht} (h : RdOk s) : 0 ≤ lastF s := by
  rcases lastF_ge (s := s) with k | ⟨z, hz, k⟩
  · exact k
  · rcases List.mem_append.mp hz with hz | hz
    · obtain ⟨r, hr, rfl⟩ := List.mem_map.mp hz
      have := (h.a r hr).1
      omega
    · obtain ⟨m, hm, rfl⟩ := List.mem_map.mp hz
      have := (h.b m hm).1
      omega
theorem RdOk.row {s s' : Sht} {row : Str} (h : RdOk s) (k : RowOk s row s') : RdOk s' := by
  have l0 := h.last
  cases k with
  | @say n a b c t e b1 b2 b3 b4 hl hc g l =>
    refine ⟨h.e, h.c, by show (s.said ++ [_]).length ≤ 24; rw [List.length_append]; exact l, h.l2, fun r hr => ?_, h.b, ?_, h.s2⟩
    · rcases List.mem_append.mp hr with hr | hr
      · exact h.a r hr
      · rw [List.mem_singleton.mp hr]
        exact ⟨by show (1 : Int) ≤ (n : Int); omega, hc, g⟩
    · refine List.pairwise_append.mpr ⟨h.s1, List.pairwise_singleton _ _, fun x hx y hy => ?_⟩
      rw [List.mem_singleton.mp hy]
      have := lastF_le (s := s) (z := x.num) (List.mem_append_left _ (List.mem_map_of_mem hx))
      show x.num < (n : Int)
      omega
  | @note n a c z e b1 b2 b3 hl hc k g l =>
    refine ⟨h.e, h.c, h.l1, by show (s.noted ++ [_]).length ≤ 24; rw [List.length_append]; exact l, h.a, fun m hm => ?_, h.s1, ?_⟩
    · rcases List.mem_append.mp hm with hm | hm
      · exact h.b m hm
      · rw [List.mem_singleton.mp hm]
        exact ⟨by show (1 : Int) ≤ (n : Int); omega, hc, k, g⟩
    · refine List.pairwise_append.mpr ⟨h.s2, List.pairwise_singleton _ _, fun x hx y hy => ?_⟩
      rw [List.mem_singleton.mp hy]
      have := lastF_le (s := s) (z := x.num) (List.mem_append_right _ (List.mem_map_of_mem hx))
      show x.num < (n : Int)
      omega
theorem SongOk.rd {s : Sht} {row : Str} (h : SongOk row s) : RdOk s := by
  obtain ⟨a, b, e, ha, hb, hc, rfl⟩ := h
  have : (a : Int) < 10 ^ 40 := by exact_mod_cast ha
  exact ⟨⟨by show (0 : Int) ≤ (a : Int); omega, this⟩, ⟨by show (1 : Int) ≤ (b : Int); omega, by show (b : Int) ≤ 999999; omega⟩, Nat.zero_le _, Nat.zero_le _, fun r hr => (nomatch hr), fun r hr => (nomatch hr), List.Pairwise.nil, List.Pairwise.nil⟩
theorem Reach.rd {rows : List Str} {i : Nat} {s : Sht} (h : Reach rows i (some s)) : RdOk s := by
  generalize eo : some s = o at h
  induction h generalizing s with
  | zero => cases eo
  | @next i o row s' h hr st ih =>
    cases eo
    cases o with
    | none => exact SongOk.rd st
    | some s0 => exact (ih rfl).row st
theorem RdOk.lens {s : Sht} (h : RdOk s) : Lens s := ⟨by have := h.l1; omega, by have := h.l2; omega⟩
def spLast (S : Addr) : Sp := fun vs H Q _ => ∃ (p : Addr) (N : Addr → Prop) (s : Sht), vs = [.ref p] ∧ ShAt S N H (.ref p) s ∧ Lens s ∧ ∀ H', Same H H' → Q (.int (lastF s)) H'
def spRis (S UF : Addr) : Sp := fun vs H Q E => ∃ (p : Addr) (z : Str) (N : Addr → Prop) (s : Sht), vs = [.ref p, .str z] ∧ ShAt S N H (.ref p) s ∧ Lens s ∧ z.length ≤ sizeLine ∧
  (∀ n : Nat, z = nS n → n < 10 ^ 40 → lastF s < (n : Int) → (n : Int) < s.coming → ∀ H', Same H H' → Q (.int (n : Int)) H') ∧ ((¬ ∃ n : Nat, z = nS n ∧ n < 10 ^ 40 ∧ lastF s < (n : Int) ∧ (n : Int) < s.coming) → NoS H UF E)
def spSong (S : Addr) (R : Addr → Prop) : Sp := fun vs H Q E => ∃ (row : Str) (N : Addr → Prop), vs = [.str row] ∧ NA N H ∧ row.length ≤ RowL ∧ (∀ s, SongOk row s → OkS S N H s Q) ∧ ((¬ ∃ s, SongOk row s) → ∀ c, R c → NoS H c E)
def spRow (S : Addr) (R : Addr → Prop) : Sp := fun vs H Q E => ∃ (p : Addr) (row : Str) (N : Addr → Prop) (s : Sht), vs = [.ref p, .str row] ∧ ShAt S N H (.ref p) s ∧ NA N H ∧ Lens s ∧ row.length ≤ RowL ∧ (∀ s', RowOk s row s' → OkS S N H s' Q) ∧ ((¬ ∃ s', RowOk s row s') → ∀ c, R c → NoS H c E)
def spBof (BK S : Addr) : Sp := fun vs H Q _ => ∃ (p : Addr) (N : Addr → Prop) (s : Sht), vs = [.ref p] ∧ ShAt S N H (.ref p) s ∧ NA N H ∧ In40 s.size ∧ ∀ H' b, Same H H' → H b = none → BkAt BK S N H' b [s] 0 .non .non → Q (.ref b) H'
abbrev nLast : List Str := ["self", "row"]
theorem scLast : FnScope nLast ["self"] (defScope sSheetLast_number) := ⟨rfl, rfl, rfl, by decide +kernel, rfl, by decide +kernel, by decide +kernel⟩
theorem scRis : FnScope ["sheet", "word", "number"] ["sheet", "word"] (defScope sRising) := ⟨rfl, rfl, rfl, by decide +kernel, rfl, by decide +kernel, by decide +kernel⟩
theorem scSng : FnScope ["row", "length", "coming", "size", "upcoming"] ["row"] (defScope sFirst_sheet) := ⟨rfl, rfl, rfl, by decide +kernel, rfl, by decide +kernel, by decide +kernel⟩
theorem scRow : FnScope ["sheet", "row", "number", "one", "other", "many", "way", "letter", "at"] ["sheet", "row"] (defScope sWith_row) := ⟨rfl, rfl, rfl, by decide +kernel, rfl, by decide +kernel, by decide +kernel⟩
theorem scBof : FnScope ["sheet", "book"] ["sheet"] (defScope sBook_of) := ⟨rfl, rfl, rfl, by decide +kernel, rfl, by decide +kernel, by decide +kernel⟩
structure TRi (Pg : Program) (w : World) (K : PySem.W.Frag) (mg : Str → Option Value) (base : Heap) (S UF : Addr) (fN fln : Addr) (fdN fdln : FuncData) : Prop extends TxS K S where
  gN : FnOk Pg w K mg base (L2N.CX Pg w) 8 fN fdN ["word"] (spNumR UF)
  bN : Binds K fdN ["word"] []
  kN : PySem.W.keepIn K (.ref fN) = true
  mN : mg "number_of" = some (.ref fN)
  mln : Meth K S "last_number" fln
  gln : FnOk Pg w K mg base CX0 8 fln fdln ["self"] (spLast S)
  bln : Binds K fdln ["self"] []
  xU : ExU K mg "Unfit" UF
structure TRd (Pg : Program) (w : World) (K : PySem.W.Frag) (mg : Str → Option Value) (base : Heap) (S BS BT FU BL UF : Addr) (fN fSy fW fln fRi fws fwm fCl fSh : Addr) (fdN fdSy fdW fdln fdRi fdws fdwm fdCl fdSh : FuncData) : Prop extends TRi Pg w K mg base S UF fN fln fdN fdln where
  gSy : FnOk Pg w K mg base (L2N.CX Pg w) 9 fSy fdSy ["one", "other", "many", "way"] (spSayR UF)
  bSy : Binds K fdSy ["one", "other", "many", "way"] []
  kSy : PySem.W.keepIn K (.ref fSy) = true
  mSy : mg "saying_of" = some (.ref fSy)
  gW : FnOk Pg w K mg base (L2N.CX Pg w) 8 fW fdW ["row"] (spWdsR UF)
  bW : Binds K fdW ["row"] []
  kW : PySem.W.keepIn K (.ref fW) = true
  mW : mg "words_of" = some (.ref fW)
  gRi : FnOk Pg w K mg base (L2N.CX Pg w) 9 fRi fdRi ["sheet", "word"] (spRis S UF)
  bRi : Binds K fdRi ["sheet", "word"] []
  kRi : PySem.W.keepIn K (.ref fRi) = true
  mRi : mg "rising" = some (.ref fRi)
  mws : Meth K S "with_saying" fws
  gws : FnOk Pg w K mg base (L2N.CX Pg w) 9 fws fdws ["self", "row"] (spShws S BS FU)
  bws : Binds K fdws ["self", "row"] []
  mwm : Meth K S "with_memory" fwm
  gwm : FnOk Pg w K mg base (L2N.CX Pg w) 9 fwm fdwm ["self", "row"] (spShwm S BT BS FU)
  bwm : Binds K fdwm ["self", "row"] []
  gCl : FnOk Pg w K mg base (L2N.CX Pg w) 8 fCl fdCl ["length"] (spChklX BL)
  bCl : Binds K fdCl ["length"] []
  kCl : PySem.W.keepIn K (.ref fCl) = true
  mCl : mg "check_length" = some (.ref fCl)
  MSh : Mk K S fSh
  gSh : FnOk Pg w K mg base CX0 7 fSh fdSh nSinit (spSinit S)
  bSh : Binds K fdSh nSinit []
  mSh : mg "Sheet" = some (.ref S)
  mGN : ∃ u, mg "GREATEST_NEXT" = some u ∧ RelV (.int 999999) u
section
variable {Pg : Program} {w : World} {K : PySem.W.Frag} {mg : Str → Option Value} {base : Heap} {S BS BT FU BL UF : Addr} {R : Addr → Prop} {fN fSy fW fln fRi fws fwm fCl fSh : Addr} {fdN fdSy fdW fdln fdRi fdws fdwm fdCl fdSh : FuncData}
theorem ok_last {f : Addr} {fd : FuncData} {k : Nat} (F : Fun K "last_number" "Sheet.last_number" sSheetLast_number f fd) (X : TxS K S) (T : TMax mg) : FnOk Pg w K mg base CX0 (k + 1) f fd ["self"] (spLast S) := by
  refine F.ok scLast (fun vs H Q E h => ?_) (fun cdv A outer s H vs Q E hr h => ?_)
  · obtain ⟨p, N, s_, rfl, _⟩ := h; rfl
  obtain ⟨p, N, s_, rfl, sh, ln, q⟩ := h
  obtain ⟨_, dx, sa, na, xs, ys, e0, h2, h3, h4, h5, h6, h7, h8⟩ := sh.ex
  cases e0
  have ls := ln.sd
  have lt := ln.nt
  refine ⟨_, (pss_one (ps_ret (pe_callBK (cr_maxD rfl hr.units) (by rfl) T.mM (by decide +kernel) (pa_cons (pe_lc (own := [("row", 1)]) (g := gName 1) (tt := tYes) rfl scLast.nd (pi_list (pe_op op_cat (pe_fld (pv 0) rfl) (pe_fld (pv 0) rfl))) (blkOk_by (N := nLast) (sc := defScope sSheetLast_number) (by decide +kernel)) (fun _ _ _ _ _ => pg_name (i := 1) scLast.nd rfl (.inl rfl)) (fun _ _ _ _ _ => pts_nil) (fun _ _ _ _ _ => pe_ix (r := rIxT K) ix_tup (pv 1) pe_int (fun _ _ => rfl))) pa_nil) (pk_cons pe_int pk_nil)))), ?_⟩
  refine ⟨.ref p, rfl, p, S, dx, _, .ref sa, rfl, h2, X.clS, X.ns, fldS_said _ _ _ _, .ref p, rfl, p, S, dx, _, .ref na, rfl, h2, X.clS, X.nn, fldS_noted _ _ _ _, ?_⟩
  have lx : xs.length = s_.said.length := h4.len
  have ly : ys.length = s_.noted.length := h6.len
  refine ⟨sa, na, xs, ys, rfl, rfl, h3, h5, Nat.le_trans (show _ ≤ 1000 by omega) (by decide), ?_⟩
  intro c n_c
  generalize e_c : upd H c _ = H1
  have s1 := new_same e_c n_c
  have z1 := new_at e_c
  clear e_c
  refine ⟨c, rfl, ⟨_, .inl (.inl z1)⟩, fun D nD => ?_⟩
  refine lc_list (xs := xs ++ ys) (fun i H5 => Same H1 H5 ∧ H5 D = some (.lst (((s_.said.map Rw.num ++ s_.noted.map Me.num).take i).map V.int))) ⟨same_upd nD, upd_same⟩ (fun i H5 _ hP => .inl (.inl (hP.1 _ _ z1))) (fun i v H5 hv hP => ?_) (fun H5 hP => ?_)
  · obtain ⟨sm, eD⟩ := hP
    obtain ⟨t, n, r, rfl, ht, hn⟩ : ∃ t n r, v = .ref t ∧ H1 t = some (.tup (.int n :: r)) ∧ (s_.said.map Rw.num ++ s_.noted.map Me.num)[i]? = some n := by
      by_cases hi : i < xs.length
      · rw [List.getElem?_append_left hi] at hv
        obtain ⟨r, hr_, t, rfl, ht⟩ := h4.get hv
        exact ⟨t, r.num, _, rfl, s1 _ _ ht, by rw [List.getElem?_append_left (by rw [List.length_map]; omega), List.getElem?_map, hr_]; rfl⟩
      · rw [List.getElem?_append_right (by omega)] at hv
        obtain ⟨m, hm, t, rfl, ht⟩ := h6.get hv
        exact ⟨t, m.num, _, rfl, s1 _ _ ht, by rw [List.getElem?_append_right (by rw [List.length_map]; omega), List.getElem?_map, List.length_map, ← lx, hm]; rfl⟩
    have hi : i < (s_.said.map Rw.num ++ s_.noted.map Me.num).length := (List.getElem?_eq_some_iff.mp hn).1
    rw [List.length_append, List.length_map, List.length_map] at hi
    refine ⟨rfl, ?_⟩
    refine tYes_ok ?_
    refine iteT ?_
    refine ⟨.ref t, rfl, t, _, 0, .int n, rfl, rfl, .inl (.inl (sm _ _ ht)), atI_nat (j := 0) rfl, _, eD, ?_, same_over sm nD, ?_⟩
    · rw [List.length_map, List.length_take, List.length_append, List.length_map, List.length_map]
      exact Nat.lt_of_le_of_lt (show _ ≤ 100000 by omega) (by decide)
    · rw [upd_same, List.take_add_one, hn, List.map_append]
      rfl
  · obtain ⟨sm, eD⟩ := hP
    rw [List.take_of_length_le (by rw [List.length_append, List.length_append, List.length_map, List.length_map]; omega)] at eD
    exact ⟨D, _, 0, rfl, rfl, .inl (.inl eD), q H5 (s1.trans sm)⟩
theorem ws3 {ws : List Str} {c : Str} (h : ws.length = 2 + 1 ∧ ws.head? = some c) : ∃ x y, ws = [c, x, y] := by
  match ws, h with
  | [a, x, y], h => exact ⟨x, y, by rw [Option.some.inj h.2]⟩
theorem ws5 {ws : List Str} {c : Str} (h : ws.length = 4 + 1 ∧ ws.head? = some c) : ∃ x y z u, ws = [c, x, y, z, u] := by
  match ws, h with
  | [a, x, y, z, u], h => exact ⟨x, y, z, u, by rw [Option.some.inj h.2]⟩
theorem ws6 {ws : List Str} {c : Str} (h : ws.length = 5 + 1 ∧ ws.head? = some c) : ∃ x y z u v, ws = [c, x, y, z, u, v] := by
  match ws, h with
  | [a, x, y, z, u, v], h => exact ⟨x, y, z, u, v, by rw [Option.some.inj h.2]⟩
theorem RowOk.ne {s s' : Sht} {row : Str} (h : RowOk s row s') : ("" : Str) ∉ Txt.split row " " := by
  have ns : ∀ n : Nat, ("" : Str) ≠ nS n := fun n z => by
    rw [nS_S] at z
    exact TL.numL_ne n (congrArg (fun x : Str => x.cps.toList) z).symm
  have wn : ∀ t : Bool, ("" : Str) ≠ wayS t := fun t => by cases t <;> decide +kernel
  cases h with
  | @say n a b c t e =>
    rw [e]
    simp only [List.mem_cons, not_or]
    exact ⟨by decide +kernel, ns _, ns _, ns _, ns _, wn _, by simp⟩
  | @note n a c z e b1 b2 b3 hl hc k =>
    rw [e]
    simp only [List.mem_cons, not_or]
    refine ⟨by decide +kernel, ns _, fun y => ?_, ns _, ns _, by simp⟩
    have := k.len
    rw [← y] at this
    exact absurd this (by decide +kernel)
theorem SongOk.ne {s : Sht} {row : Str} (h : SongOk row s) : ("" : Str) ∉ Txt.split row " " := by
  have ns : ∀ n : Nat, ("" : Str) ≠ nS n := fun n z => by
    rw [nS_S] at z
    exact TL.numL_ne n (congrArg (fun x : Str => x.cps.toList) z).symm
  obtain ⟨a, b, e, _⟩ := h
  rw [e]
  simp only [List.mem_cons, not_or]
  exact ⟨by decide +kernel, ns _, ns _, by simp⟩
theorem ok_ris {f : Addr} {fd : FuncData} (F : Fun K "rising" "rising" sRising f fd) (T : TRi Pg w K mg base S UF fN fln fdN fdln) : FnOk Pg w K mg base (L2N.CX Pg w) 9 f fd ["sheet", "word"] (spRis S UF) := by
  refine okN F scRis (fun vs H Q E h => ?_) (fun cdv A outer s H vs Q E hr h => ?_)
  · obtain ⟨p, z, N, s_, rfl, _⟩ := h; rfl
  obtain ⟨p, z, N, s_, rfl, sh, ln, lz, q, qe⟩ := h
  obtain ⟨_, dx, sa, na, xs, ys, e0, h2, _⟩ := sh.ex
  cases e0
  have r8 : Room 8 _ := hr
  refine ⟨_, (pss_cons (ps_set (i := 2) scRis.nd rfl (.inl rfl) (pe_call T.gN r8 (by rfl) T.mN T.kN T.bN .nil (by exact L2N.passes_call (L2N.takes_of rfl rfl rfl rfl) (fun _ _ _ _ h => h)) (pa_cons (pv 1) pa_nil))) (pss_cons (ps_if (PW.pt (pw_or (pt_cmpR op_le (pv 2) (pe_meth0 (pv 0) T.clS T.mln T.gln r8 T.bln .nil pass0) (nomark _)) (pw_or1 (pt_cmpR op_ge (pv 2) (pe_fld (pv 0) rfl) (nomark _))))) (pss_one (L2N.ps_raise rfl (L2N.takes_of rfl rfl rfl rfl) (L2N.pmk_own PySem.F.excBase_Exception T.xU.x T.xU.g T.xU.k (raises_own T.xU.b T.xU.t) rfl))) pss_nil) (pss_one (ps_ret (pv 2))))), ?_⟩
  refine ⟨.str z, rfl, z, rfl, lz, fun n en hn => ?_, fun nn => qe (fun ⟨n, e, h, _⟩ => nn ⟨n, h, e⟩) _ (Same.refl _)⟩
  refine ⟨.int n, rfl, .ref p, rfl, p, dx, _, rfl, h2, fldS_no _ _ _ _ (by decide +kernel), p, N, s_, rfl, sh, ln, fun H1 s1 => ?_⟩
  have bad : ¬ (lastF s_ < (n : Int) ∧ (n : Int) < s_.coming) → ¬ ∃ m : Nat, z = nS m ∧ m < 10 ^ 40 ∧ lastF s_ < (m : Int) ∧ (m : Int) < s_.coming := fun y ⟨m, e, _, x⟩ => y (by rw [en] at e; rw [nS_inj e]; exact x)
  refine ⟨_, _, rfl, rfl, _, rfl, ite2 (fun c => ?_) (fun c => ?_)⟩
  · have c := of_decide_eq_true c
    refine iteT ?_
    exact qe (bad fun y => by omega) _ s1
  have c : ¬ (n : Int) ≤ lastF s_ := fun y => c (decide_eq_true y)
  refine ⟨.int n, rfl, .ref p, rfl, p, S, dx, _, .int s_.coming, rfl, s1 _ _ h2, T.clS, T.nu, fldS_up _ _ _ _, _, _, rfl, rfl, _, rfl, ite2 (fun d => ?_) (fun d => ?_)⟩
  · have d := of_decide_eq_true d
    exact qe (bad fun y => by omega) _ s1
  have d : ¬ (n : Int) ≥ s_.coming := fun y => d (decide_eq_true y)
  exact ⟨.int n, rfl, q n en hn (by omega) (by omega) _ s1⟩
theorem ok_sng {f : Addr} {fd : FuncData} (F : Fun K "first_sheet" "first_sheet" sFirst_sheet f fd) (T : TRd Pg w K mg base S BS BT FU BL UF fN fSy fW fln fRi fws fwm fCl fSh fdN fdSy fdW fdln fdRi fdws fdwm fdCl fdSh) (rU : R UF) : FnOk Pg w K mg base (L2N.CX Pg w) 9 f fd ["row"] (spSong S R) := by
  refine okN F scSng (fun vs H Q E h => ?_) (fun cdv A outer s H vs Q E hr h => ?_)
  · obtain ⟨row, N, rfl, _⟩ := h; rfl
  obtain ⟨row, N, rfl, na_, lr, q, qe⟩ := h
  have r8 : Room 8 _ := hr
  refine ⟨_, (pss_one (ps_match (pe_call T.gW r8 (by rfl) T.mW T.kW T.bW .nil (by exact L2N.passes_call (L2N.takes_of rfl rfl rfl rfl) (fun _ _ _ _ h => h)) (pa_cons (pv 0) pa_nil)) (pm_words rfl scSng.nd pe_str (.cons (i := 1) rfl (.inl rfl) (.cons (i := 2) rfl (.inl rfl) .nil)) (pss_cons (ps_set (i := 3) scSng.nd rfl (.inl rfl) (pe_call T.gN r8 (by rfl) T.mN T.kN T.bN .nil (by exact L2N.passes_call (L2N.takes_of rfl rfl rfl rfl) (fun _ _ _ _ h => h)) (pa_cons (pv 1) pa_nil))) (pss_cons (ps_set (i := 4) scSng.nd rfl (.inl rfl) (pe_call T.gN r8 (by rfl) T.mN T.kN T.bN .nil (by exact L2N.passes_call (L2N.takes_of rfl rfl rfl rfl) (fun _ _ _ _ h => h)) (pa_cons (pv 2) pa_nil))) (pss_cons (ps_expr (pe_call T.gCl r8 (by rfl) T.mCl T.kCl T.bCl .nil (by exact L2N.passes_call (L2N.takes_of rfl rfl rfl rfl) (fun _ _ _ _ h => h)) (pa_cons (pv 3) pa_nil))) (pss_cons (ps_if (PW.pt (pw_or (pt_cmpR op_lt (pv 4) pe_int (nomark _)) (pw_or1 (pt_cmpR op_gt (pv 4) (C8.pe_gc (by rfl) T.mGN) (nomark _))))) (pss_one (L2N.ps_raise rfl (L2N.takes_of rfl rfl rfl rfl) (L2N.pmk_own PySem.F.excBase_Exception T.xU.x T.xU.g T.xU.k (raises_own T.xU.b T.xU.t) rfl))) pss_nil) (pss_one (ps_ret (pe_make T.MSh T.gSh r8 (by rfl) T.mSh T.bSh .nil pass0 (pa_cons (pv 3) (pa_cons (pv 4) (pa_cons (pe_lst pa_nil) (pa_cons (pe_lst pa_nil) pa_nil))))))))))) (pm_any (pss_one (L2N.ps_raise rfl (L2N.takes_of rfl rfl rfl rfl) (L2N.pmk_own PySem.F.excBase_Exception T.xU.x T.xU.g T.xU.k (raises_own T.xU.b T.xU.t) rfl))))))), ?_⟩
  have sp := spt_w row
  have LL_ : RowL + 2 ≤ sizeLine := by decide
  refine ⟨.str row, rfl, row, rfl, by omega, fun ne H1 l s1 _ el => ?_, fun y H1 s1 => qe (fun ⟨s, h⟩ => h.ne y) _ rU _ s1⟩
  refine ⟨l, _, rfl, el, Nat.lt_of_le_of_lt sp.len (Nat.lt_of_le_of_lt (show row.length + 1 ≤ RowL + 2 by omega) (by decide)), fun hit => ?_, fun miss => ?_⟩
  · obtain ⟨x, y, ew⟩ := ws3 hit
    have bad : ¬ (∃ a b : Nat, x = nS a ∧ y = nS b ∧ a < 10 ^ 40 ∧ 1 ≤ b ∧ b ≤ 999999) → ¬ ∃ s, SongOk row s := fun n ⟨s, a, b, e, h1, h2, h3, _⟩ => by
      rw [ew] at e
      simp only [List.cons.injEq, and_true, true_and] at e
      exact n ⟨a, b, e.1, e.2, h1, h2, h3⟩
    have lx : x.length ≤ row.length := sp.le x (by rw [ew]; simp)
    have ly : y.length ≤ row.length := sp.le y (by rw [ew]; simp)
    rw [ew]
    refine ⟨.str x, rfl, x, rfl, by omega, fun a ea ha => ?_, fun n => qe (bad fun ⟨a, b, h1, h2, h3, _⟩ => n ⟨a, h3, h1⟩) _ rU _ s1⟩
    refine ⟨.str y, rfl, y, rfl, by omega, fun b eb hb => ?_, fun n => qe (bad fun ⟨a, b, h1, h2, h3, h4, h5⟩ => n ⟨b, Nat.lt_of_le_of_lt h5 (by decide), h2⟩) _ rU _ s1⟩
    have ha' : (a : Int) < 10 ^ 40 := by exact_mod_cast ha
    refine ⟨.int a, rfl, a, rfl, fun _ => ?_, fun n => absurd ⟨by omega, ha'⟩ n⟩
    have bad2 : ¬ (1 ≤ b ∧ b ≤ 999999) → ¬ ∃ s, SongOk row s := fun n => bad fun ⟨c, d, h1, h2, _, h4⟩ => n (by rw [eb] at h2; rw [nS_inj h2]; exact h4)
    refine ⟨.int b, rfl, _, _, rfl, rfl, _, rfl, ite2 (fun c => ?_) (fun c => ?_)⟩
    · have c := of_decide_eq_true c
      refine iteT ?_
      exact qe (bad2 fun y => by omega) _ rU _ s1
    have c : ¬ (b : Int) < 1 := fun y => c (decide_eq_true y)
    refine ⟨.int b, rfl, _, _, rfl, rfl, _, rfl, ite2 (fun d => ?_) (fun d => ?_)⟩
    · have d := of_decide_eq_true d
      exact qe (bad2 fun y => by omega) _ rU _ s1
    have d : ¬ (b : Int) > 999999 := fun y => d (decide_eq_true y)
    have ok : SongOk row ⟨a, b, [], []⟩ := ⟨a, b, by rw [ew, ea, eb], ha, by omega, by omega, rfl⟩
    refine ⟨.int a, rfl, .int b, rfl, ?_⟩
    refine ⟨szN 0 rfl, fun l1 n_l1 => ?_⟩
    generalize e_l1 : upd H1 l1 _ = H2
    have s2 := new_same e_l1 n_l1
    have z2 := new_at e_l1
    clear e_l1
    refine ⟨szN 0 rfl, fun l2 n_l2 => ?_⟩
    generalize e_l2 : upd H2 l2 _ = H3
    have s3 := new_same e_l2 n_l2
    have z3 := new_at e_l2
    clear e_l2
    intro p dxp np ndx ne
    have na1 := na_.same s1
    refine make_sh (N := N) (rs := []) (ms := []) (s3 _ _ z2) LL.nil z3 LL.nil (na1.not n_l1) ((na1.same s2).not n_l2) np ndx ne (fun H4 s4 sh4 => ?_)
    exact q _ ok _ p (s1.trans (s2.trans (s3.trans s4))) sh4
  · exact qe (fun ⟨s, a, b, e, _⟩ => miss (by rw [e]; exact ⟨rfl, rfl⟩)) _ rU _ s1
theorem ok_row {f : Addr} {fd : FuncData} (F : Fun K "with_row" "with_row" sWith_row f fd) (T : TRd Pg w K mg base S BS BT FU BL UF fN fSy fW fln fRi fws fwm fCl fSh fdN fdSy fdW fdln fdRi fdws fdwm fdCl fdSh) (rU : R UF) (rB : R BS) (rT : R BT) (rF : R FU) : FnOk Pg w K mg base (L2N.CX Pg w) 10 f fd ["sheet", "row"] (spRow S R) := by
  refine okN F scRow (fun vs H Q E h => ?_) (fun cdv A outer s H vs Q E hr h => ?_)
  · obtain ⟨p, row, N, s_, rfl, _⟩ := h; rfl
  obtain ⟨p, row, N, s_, rfl, sh, na_, ln, lr, q, qe⟩ := h
  have r9 : Room 9 _ := hr
  have r8 : Room 8 _ := hr.mono (by decide)
  refine ⟨_, (pss_one (ps_match (pe_call T.gW r8 (by rfl) T.mW T.kW T.bW .nil (by exact L2N.passes_call (L2N.takes_of rfl rfl rfl rfl) (fun _ _ _ _ h => h)) (pa_cons (pv 1) pa_nil)) (pm_words rfl scRow.nd pe_str (.cons (i := 2) rfl (.inl rfl) (.cons (i := 3) rfl (.inl rfl) (.cons (i := 4) rfl (.inl rfl) (.cons (i := 5) rfl (.inl rfl) (.cons (i := 6) rfl (.inl rfl) .nil))))) (pss_one (ps_ret (pe_meth (pv 0) T.clS T.mws T.gws r9 T.bws .nil (by exact L2N.passes_call (L2N.takes_of rfl rfl rfl rfl) (fun _ _ _ _ h => h)) (pa_cons (pe_tup (pa_cons (pe_call T.gRi r9 (by rfl) T.mRi T.kRi T.bRi .nil (by exact L2N.passes_call (L2N.takes_of rfl rfl rfl rfl) (fun _ _ _ _ h => h)) (pa_cons (pv 0) (pa_cons (pv 2) pa_nil))) (StX.pa_star (pe_call T.gSy r9 (by rfl) T.mSy T.kSy T.bSy .nil (by exact L2N.passes_call (L2N.takes_of rfl rfl rfl rfl) (fun _ _ _ _ h => h)) (pa_cons (pv 3) (pa_cons (pv 4) (pa_cons (pv 5) (pa_cons (pv 6) pa_nil))))) pa_nil))) pa_nil)))) (pm_words rfl scRow.nd pe_str (.cons (i := 2) rfl (.inl rfl) (.cons (i := 7) rfl (.inl rfl) (.cons (i := 8) rfl (.inl rfl) (.cons (i := 5) rfl (.inl rfl) .nil)))) (pss_one (ps_ret (pe_meth (pv 0) T.clS T.mwm T.gwm r9 T.bwm .nil (by exact L2N.passes_call (L2N.takes_of rfl rfl rfl rfl) (fun _ _ _ _ h => h)) (pa_cons (pe_tup (pa_cons (pe_call T.gRi r9 (by rfl) T.mRi T.kRi T.bRi .nil (by exact L2N.passes_call (L2N.takes_of rfl rfl rfl rfl) (fun _ _ _ _ h => h)) (pa_cons (pv 0) (pa_cons (pv 2) pa_nil))) (pa_cons (pv 7) (pa_cons (pe_call T.gN r8 (by rfl) T.mN T.kN T.bN .nil (by exact L2N.passes_call (L2N.takes_of rfl rfl rfl rfl) (fun _ _ _ _ h => h)) (pa_cons (pv 8) pa_nil)) (pa_cons (pe_call T.gN r8 (by rfl) T.mN T.kN T.bN .nil (by exact L2N.passes_call (L2N.takes_of rfl rfl rfl rfl) (fun _ _ _ _ h => h)) (pa_cons (pv 5) pa_nil)) pa_nil))))) pa_nil)))) (pm_any (pss_one (L2N.ps_raise rfl (L2N.takes_of rfl rfl rfl rfl) (L2N.pmk_own PySem.F.excBase_Exception T.xU.x T.xU.g T.xU.k (raises_own T.xU.b T.xU.t) rfl)))))))), ?_⟩
  have sp := spt_w row
  have LL_ : RowL + 2 ≤ sizeLine := by decide
  refine ⟨.str row, rfl, row, rfl, by omega, fun ne H1 l s1 _ el => ?_, fun y H1 s1 => qe (fun ⟨s, h⟩ => h.ne y) _ rU _ s1⟩
  have l62 : (Txt.split row " ").length < 2 ^ 62 := Nat.lt_of_le_of_lt sp.len (Nat.lt_of_le_of_lt (show row.length + 1 ≤ RowL + 2 by omega) (by decide))
  have sh1 := sh.same s1
  have na1 := na_.same s1
  refine ⟨l, _, rfl, el, l62, fun hit => ?_, fun miss => ⟨l, _, rfl, el, l62, fun hit => ?_, fun miss2 => ?_⟩⟩
  · obtain ⟨x, y, z, u, v, ew⟩ := ws6 hit
    have bad : ∀ P : Prop, (∀ (n a b c : Nat) (t : Bool), x = nS n → y = nS a → z = nS b → u = nS c → v = wayS t → n < 10 ^ 40 → a < 10 ^ 40 → b < 10 ^ 40 → c < 10 ^ 40 → lastF s_ < (n : Int) → (n : Int) < s_.coming → Gd2 s_.size ⟨a, b, c, t⟩ → s_.said.length < 24 → P) → ¬ P → ¬ ∃ s', RowOk s_ row s' := fun P hP nP ⟨s', h⟩ => nP (by
      cases h with
      | @say n a b c t e b1 b2 b3 b4 hl hc g l =>
        rw [ew] at e
        simp only [List.cons.injEq, and_true, true_and] at e
        obtain ⟨e1, e2, e3, e4, e5⟩ := e
        exact hP n a b c t e1 e2 e3 e4 e5 b1 b2 b3 b4 hl hc g l
      | @note n a c z e =>
        rw [ew] at e
        exact absurd (congrArg List.length e) (by simp))
    have lx := sp.le x (by rw [ew]; simp)
    have ly := sp.le y (by rw [ew]; simp)
    have lz := sp.le z (by rw [ew]; simp)
    have lu := sp.le u (by rw [ew]; simp)
    rw [ew]
    obtain ⟨_, dx, sa, na, xs, ys, e0, h2, _⟩ := sh1.ex
    cases e0
    refine ⟨.ref p, rfl, p, dx, _, rfl, h2, fldS_no _ _ _ _ (by decide +kernel), ?_⟩
    refine ⟨.ref p, rfl, .str x, rfl, p, x, N, s_, rfl, sh1, ln, by omega, fun n en hn n1 n2 H2 s2 => ?_, fun nn H2 s2 => qe (bad _ (fun n a b c t e1 e2 e3 e4 e5 b1 b2 b3 b4 hl hc g l => ⟨n, e1, b1, hl, hc⟩) nn) _ rU _ (s1.trans s2)⟩
    refine ⟨.str y, rfl, .str z, rfl, .str u, rfl, .str v, rfl, y, z, u, v, rfl, by omega, by omega, by omega, fun a b c t ea eb ec et ha hb hc H3 pt s3 ept => ?_, fun nn H3 s3 => qe (bad _ (fun n a b c t e1 e2 e3 e4 e5 b1 b2 b3 b4 hl hc g l => ⟨⟨a, b2, e2⟩, ⟨b, b3, e3⟩, ⟨c, b4, e4⟩, ⟨t, e5⟩⟩) nn) _ rU _ (s1.trans (s2.trans s3))⟩
    refine ⟨pt, _, rfl, .inl (.inl (.inl ept)), ?_⟩
    refine ⟨(by show 5 ≤ sizeLine; decide), fun t5 n5 => ?_⟩
    have s4 := same_upd (o := .tup [.int (n : Int), .int (a : Int), .int (b : Int), .int (c : Int), .bl t]) n5
    have s14 := s1.trans (s2.trans (s3.trans s4))
    have same_ : ∀ {P : Prop}, (Gd2 s_.size ⟨a, b, c, t⟩ → s_.said.length < 24 → P) → ¬ P → ¬ ∃ s', RowOk s_ row s' := fun {P} hP => bad P fun n' a' b' c' t' e1 e2 e3 e4 e5 _ _ _ _ _ _ g l => by
      rw [ea] at e2; rw [eb] at e3; rw [ec] at e4; rw [et] at e5
      rw [nS_inj e2, nS_inj e3, nS_inj e4, way_inj e5] at hP
      exact hP g l
    refine ⟨p, t5, N, s_, ⟨n, ⟨a, b, c, t⟩⟩, rfl, sh1.same (s2.trans (s3.trans s4)), ⟨t5, rfl, upd_same⟩, na1.same (s2.trans (s3.trans s4)), ln, fun g l H5 p5 s5 sh5 => ?_, fun g l H5 s5 => ?_, fun g H5 s5 => ?_⟩
    · exact q _ (.say (by rw [ew, en, ea, eb, ec, et]) hn ha hb hc n1 n2 g l) _ p5 (s14.trans s5) sh5
    · exact qe (same_ (fun _ l => l) l) _ rF _ (s14.trans s5)
    · exact qe (same_ (fun g _ => g) g) _ rB _ (s14.trans s5)
  · obtain ⟨x, z, y, u, ew⟩ := ws5 hit
    have bad : ∀ P : Prop, (∀ (n a c : Nat), x = nS n → y = nS a → u = nS c → n < 10 ^ 40 → a < 10 ^ 40 → c < 10 ^ 40 → lastF s_ < (n : Int) → (n : Int) < s_.coming → Ltr z → St_ a c s_.size → s_.noted.length < 24 → P) → ¬ P → ¬ ∃ s', RowOk s_ row s' := fun P hP nP ⟨s', h⟩ => nP (by
      cases h with
      | @say n a b c t e =>
        rw [ew] at e
        exact absurd (congrArg List.length e) (by simp)
      | @note n a c z e b1 b2 b3 hl hc k g l =>
        rw [ew] at e
        simp only [List.cons.injEq, and_true, true_and] at e
        obtain ⟨e1, rfl, e3, e4⟩ := e
        exact hP n a c e1 e3 e4 b1 b2 b3 hl hc k g l)
    have lx := sp.le x (by rw [ew]; simp)
    have ly := sp.le y (by rw [ew]; simp)
    have lz := sp.le z (by rw [ew]; simp)
    have lu := sp.le u (by rw [ew]; simp)
    rw [ew]
    obtain ⟨_, dx, sa, na, xs, ys, e0, h2, _⟩ := sh1.ex
    cases e0
    refine ⟨.ref p, rfl, p, dx, _, rfl, h2, fldS_no _ _ _ _ (by decide +kernel), ?_⟩
    refine ⟨.ref p, rfl, .str x, rfl, p, x, N, s_, rfl, sh1, ln, by omega, fun n en hn n1 n2 H2 s2 => ?_, fun nn H2 s2 => qe (bad _ (fun n a c e1 e3 e4 b1 b2 b3 hl hc k g l => ⟨n, e1, b1, hl, hc⟩) nn) _ rU _ (s1.trans s2)⟩
    refine ⟨.str z, rfl, ?_⟩
    refine ⟨.str y, rfl, y, rfl, by omega, fun a ea ha => ?_, fun nn => qe (bad _ (fun n a c e1 e3 e4 b1 b2 b3 hl hc k g l => ⟨a, b2, e3⟩) nn) _ rU _ (s1.trans s2)⟩
    refine ⟨.str u, rfl, u, rfl, by omega, fun c ec hc => ?_, fun nn => qe (bad _ (fun n a c e1 e3 e4 b1 b2 b3 hl hc k g l => ⟨c, b3, e4⟩) nn) _ rU _ (s1.trans s2)⟩
    refine ⟨(by show 4 ≤ sizeLine; decide), fun t5 n5 => ?_⟩
    have s4 := same_upd (o := .tup [.int (n : Int), .str z, .int (a : Int), .int (c : Int)]) n5
    have s14 := s1.trans (s2.trans s4)
    have same_ : ∀ {P : Prop}, (Ltr z → St_ a c s_.size → s_.noted.length < 24 → P) → ¬ P → ¬ ∃ s', RowOk s_ row s' := fun {P} hP => bad P fun n' a' c' e1 e3 e4 _ _ _ _ _ k g l => by
      rw [ea] at e3; rw [ec] at e4
      rw [nS_inj e3, nS_inj e4] at hP
      exact hP k g l
    refine ⟨p, t5, N, s_, ⟨n, z, a, c⟩, rfl, sh1.same (s2.trans s4), ⟨t5, rfl, upd_same⟩, by show z.length ≤ RowL; omega, na1.same (s2.trans s4), ln, fun k g l H5 p5 s5 sh5 => ?_, fun k g l H5 s5 => ?_, fun k g H5 s5 => ?_, fun k H5 s5 => ?_⟩
    · exact q _ (.note (by rw [ew, en, ea, ec]) hn ha hc n1 n2 k g l) _ p5 (s14.trans s5) sh5
    · exact qe (same_ (fun _ _ l => l) l) _ rF _ (s14.trans s5)
    · exact qe (same_ (fun _ g _ => g) g) _ rB _ (s14.trans s5)
    · exact qe (same_ (fun k _ _ => k) k) _ rT _ (s14.trans s5)
  · refine qe (fun ⟨s', h⟩ => ?_) _ rU _ s1
    cases h with
    | say e => exact miss (by rw [e]; exact ⟨rfl, rfl⟩)
    | note e => exact miss2 (by rw [e]; exact ⟨rfl, rfl⟩)
structure TBof (Pg : Program) (w : World) (K : PySem.W.Frag) (mg : Str → Option Value) (base : Heap) (BK S BL fB : Addr) (fdB : FuncData) : Prop extends TxB K mg BK S where
  MB : Mk K BK fB
  gB : FnOk Pg w K mg base CX0 9 fB fdB ["self", "length"] (fun vs H Q _ => spBinit BK S BL vs H Q (fun _ _ _ => False))
  bB : Binds K fdB ["self", "length"] []
  mB : mg "Book" = some (.ref BK)
theorem ok_bof {BK fB : Addr} {fdB : FuncData} {f : Addr} {fd : FuncData} (F : Fun K "book_of" "book_of" sBook_of f fd) (T : TBof Pg w K mg base BK S BL fB fdB) : FnOk Pg w K mg base CX0 11 f fd ["sheet"] (spBof BK S) := by
  refine F.ok scBof (fun vs H Q E h => ?_) (fun cdv A outer s H vs Q E hr h => ?_)
  · obtain ⟨p, N, s_, rfl, _⟩ := h; rfl
  obtain ⟨p, N, s_, rfl, sh, na_, he, q⟩ := h
  have r10 : Room 10 _ := hr
  refine ⟨_, (pss_cons (ps_set (i := 1) scBof.nd rfl (.inl rfl) (pe_make T.MB T.gB r10 (by rfl) T.mB T.bB .nil pass0 (pa_cons (pe_fld (pv 0) rfl) pa_nil))) (pss_cons (ps_fld (pv 1) (pe_lst (pa_cons (pv 0) pa_nil)) rfl) (pss_one (ps_ret (pv 1))))), ?_⟩
  obtain ⟨_, dx, sa, na, xs, ys, e0, h2, h3, h4, h5, h6, h7, h8⟩ := sh.ex
  cases e0
  refine ⟨.ref p, rfl, p, S, dx, _, .int s_.size, rfl, h2, T.clS, T.nz, fldS_size _ _ _ _, fun b dxb nb ndx ne => ?_⟩
  have nb' : upd H dxb (.own b) b = none := by rw [upd_ne ne.symm]; exact nb
  have s5 : Same H (upd (upd H dxb (.own b)) b (.ins BK dxb [])) := (same_upd ndx).trans (same_upd nb')
  refine ⟨b, dxb, N, s_.size, rfl, upd_same, na_.same s5, fun _ H6 s6 bk => ⟨rfl, ?_⟩, fun z => absurd he z⟩
  have s6' : Same H H6 := fun c o hc => s6 c o (s5 _ _ hc) (fun z => by rw [z, nb] at hc; cases hc)
  refine ⟨.ref p, rfl, ?_⟩
  refine ⟨szN 1 rfl, fun l nl => ?_⟩
  generalize e_l : upd H6 l _ = H7
  have s7 := new_same e_l nl
  have z7 := new_at e_l
  clear e_l
  obtain ⟨dx6, l6, vs6, k1, k2, k3, k4, k5⟩ := bk.ex
  have kb := s7 _ _ k1
  refine ⟨.ref b, rfl, b, BK, dx6, _, rfl, kb, T.clB, T.nsh, (by show 4 < 1000; decide), ?_⟩
  rw [putB_sheets]
  have nlb : l ≠ b := fun z => by rw [z, kb] at z7; cases z7
  have sm : Sam b H7 (upd H7 b (.ins BK dx6 (fldB l 0 .non .non))) := fun c o e n => by rw [upd_ne n]; exact e
  have s8 : Same H (upd H7 b (.ins BK dx6 (fldB l 0 .non .non))) := fun c o hc => sm c o (s7 _ _ (s6' _ _ hc)) (fun z => by rw [z, nb] at hc; cases hc)
  exact ⟨.ref b, rfl, q _ b s8 nb ⟨dx6, l, _, upd_same, by rw [upd_ne nlb]; exact z7, LL.one (sh.same s8), (na_.same s6').not nl, Nat.zero_lt_one⟩⟩
end
end Rep
namespace Rep
open PySem L2 L2H RepHot
/-! numbers as words, without the desk -/
def nI (i : Int) : Str := nS i.toNat
def Tn (i : Int) : Prop := 0 ≤ i ∧ i < 10 ^ 40
theorem Tn.lt {i : Int} (h : Tn i) : i.toNat < 10 ^ 40 := by
  have h1 := h.1
  have h2 := h.2
  have e : ((i.toNat : Nat) : Int) < ((10 ^ 40 : Nat) : Int) := by
    rw [Int.toNat_of_nonneg h1]
    exact_mod_cast h2
  exact_mod_cast e
theorem Tn.to {i : Int} (h : Tn i) : ((i.toNat : Nat) : Int) = i := Int.toNat_of_nonneg h.1
theorem log40 {i : Int} (h : Tn i) : i.natAbs.log2 < 1920 := PySem.Flt.log2_lt_of (by decide) (by
  have h1 := h.1
  have h2 := h.2
  have e : (10 : Int) ^ 40 < 2 ^ 1920 := by decide +kernel
  have : ((i.natAbs : Nat) : Int) < ((2 ^ 1920 : Nat) : Int) := by
    rw [Int.natAbs_of_nonneg h1]
    exact_mod_cast (by omega : i < 2 ^ 1920)
  exact_mod_cast this)
theorem len_app {a : Str} {i : Int} (ha : a.length ≤ 100) (h : Tn i) : (a ++ Str.ofString (toString i)).length ≤ sizeLine := by
  have e : i = ((i.toNat : Nat) : Int) := h.to.symm
  have l := nS_len h.lt
  rw [e]
  have : (a ++ nS i.toNat).length = a.length + (nS i.toNat).length := by
    rw [← SX.S_tl a, ← SX.S_tl (nS i.toNat), SX.S_cat, SX.S_len, SX.S_len, SX.S_len, List.length_append]
  show (a ++ nS i.toNat).length ≤ sizeLine
  rw [this]
  exact Nat.le_trans (show _ ≤ 200 by omega) (by decide)
def sI (i : Int) : Str := Str.ofString (toString i)
def strA : V → Str
  | .int i => sI i
  | .str a => a
  | .bl b => if b then "True" else "False"
  | .non => "None"
  | _ => ""
def StrAble : V → Prop
  | .int i => i.natAbs.log2 < 1920
  | .str _ => True
  | .bl _ => True
  | .non => True
  | _ => False
def rStrA : List V → Hp → VK → Prop := fun xs H Q => ∃ x, xs = [x] ∧ StrAble x ∧ Q (.str (strA x)) H
theorem call_str_any {X : Cx} : CallR X (.type "str") rStrA := by
  intro pins s σ H xs us Q I r h
  obtain ⟨x, rfl, hx, q⟩ := h
  cases x with
  | int i => obtain ⟨u, rfl, t, rfl⟩ := vals1 r; exact PySem.P.str_of_int hx ⟨.str _, H, I.tok _, ⟨_, rfl⟩, q⟩
  | str a => obtain ⟨u, rfl, t, rfl⟩ := vals1 r; exact PySem.P.str_of_str ⟨.str a, H, I, ⟨t, rfl⟩, q⟩
  | bl b =>
    obtain ⟨u, rfl, r1⟩ := vals1 r
    cases r1
    exact PySem.P.str_of_bool ⟨.str _, H, I.tok _, ⟨_, rfl⟩, q⟩
  | non =>
    obtain ⟨u, rfl, r1⟩ := vals1 r
    cases r1
    exact PySem.P.str_of_none ⟨.str _, H, I.tok _, ⟨_, rfl⟩, q⟩
  | _ => exact hx.elim
/-- the text list of a list of plain values, item by item -/
theorem lc_strs {vs : List V} {i : Nat} {v : V} (hv : vs[i]? = some v) : ((vs.take (i + 1)).map fun x => V.str (strA x)) = ((vs.take i).map fun x => V.str (strA x)) ++ [V.str (strA v)] := by
  rw [List.take_add_one, hv, List.map_append]; rfl
theorem sI_len {i : Int} (h : Tn i) : (sI i).length ≤ 40 := by
  have e : i = ((i.toNat : Nat) : Int) := h.to.symm
  rw [e]; exact nS_len h.lt
theorem sum_few : ∀ (l : List Str) (n : Nat), (∀ z ∈ l, z.length ≤ 1000) → l.length ≤ n → (l.map (·.length)).sum ≤ 1000 * n
  | [], n, _, _ => Nat.zero_le _
  | z :: r, n, h, hl => by
    obtain ⟨k, rfl⟩ : ∃ k, n = k + 1 := ⟨n - 1, by simp at hl; omega⟩
    have h1 := sum_few r k (fun y hy => h y (List.mem_cons_of_mem _ hy)) (by simp at hl; omega)
    have h2 := h z List.mem_cons_self
    show z.length + (r.map (·.length)).sum ≤ _
    omega
theorem nI_len {i : Int} (h : Tn i) : (nI i).length ≤ 1000 := Nat.le_trans (nS_len h.lt) (by decide)
end Rep
namespace Rep
open PySem L2 L2H RepHot
/-! texts of words -/
theorem blank_S : (" " : Str) = SX.S [32] := by decide +kernel
theorem join_S' (ws : List Str) : Txt.join " " ws = SX.S (TL.joinL [32] (ws.map fun z => z.cps.toList)) := by
  rw [blank_S]
  have e : ws = (ws.map fun z => z.cps.toList).map SX.S := by
    rw [List.map_map]
    exact (List.map_id ws).symm.trans (List.map_congr_left fun z _ => (SX.S_tl z).symm)
  conv => lhs; rw [e]
  exact SX.join_S _ _
theorem split_join {ws : List Str} (hne : ws ≠ []) (h : ∀ z ∈ ws, 32 ∉ z.cps.toList) : Txt.split (Txt.join " " ws) " " = ws := by
  rw [join_S', blank_S, SX.split_S (by decide) (by decide), SX.spl_join (by simpa using hne)]
  · rw [List.map_map]
    exact (List.map_congr_left fun z _ => SX.S_tl z).trans (List.map_id ws)
  · intro p hp
    obtain ⟨z, hz, rfl⟩ := List.mem_map.mp hp
    exact h z hz
theorem joinL_len (a : List Nat) : ∀ l : List (List Nat), (TL.joinL a l).length ≤ (l.map List.length).sum + l.length * a.length
  | [] => Nat.zero_le _
  | [p] => by show p.length ≤ p.length + 0 + 1 * a.length; omega
  | p :: q :: r => by
    have ih := joinL_len a (q :: r)
    show (p ++ (a ++ TL.joinL a (q :: r))).length ≤ _
    rw [List.length_append, List.length_append]
    simp only [List.map_cons, List.sum_cons, List.length_cons] at ih ⊢
    rw [Nat.add_mul]
    omega
theorem join_len (ws : List Str) : (Txt.join " " ws).length ≤ (ws.map (·.length)).sum + ws.length := by
  rw [join_S', SX.S_len]
  have := joinL_len [32] (ws.map fun z => z.cps.toList)
  rw [List.map_map, List.length_map] at this
  have e : (ws.map (List.length ∘ fun z : Str => z.cps.toList)) = ws.map (·.length) := List.map_congr_left fun z _ => by simp [Str.length]
  rw [e] at this
  simpa using this
theorem nI_nb (i : Int) : 32 ∉ (nI i).cps.toList := by
  show 32 ∉ (nS i.toNat).cps.toList
  rw [nS_S]
  intro h
  have h : 32 ∈ TL.numL i.toNat := h
  have := TL.numL_digits _ _ h
  omega
theorem nI_ne (i : Int) : nI i ≠ "" := by
  intro h
  have h : nS i.toNat = "" := h
  rw [nS_S] at h
  exact TL.numL_ne i.toNat (congrArg (fun x : Str => x.cps.toList) h)
theorem way_nb (t : Bool) : 32 ∉ (wayS t).cps.toList := by cases t <;> decide +kernel
theorem way_ne (t : Bool) : wayS t ≠ "" := by cases t <;> decide +kernel
/-- a text that is told a desk -/
structure TxtOk (x : Str) (ws : List Str) : Prop where
  s : Txt.split x " " = ws
  n : ("" : Str) ∉ ws
  l : x.length + 2 ≤ sizeLine
theorem txt_ok {ws : List Str} (hne : ws ≠ []) (hl : ws.length ≤ 10) (h : ∀ z ∈ ws, 32 ∉ z.cps.toList ∧ z ≠ "" ∧ z.length ≤ 1000) : TxtOk (Txt.join " " ws) ws := by
  refine ⟨split_join hne fun z hz => (h z hz).1, fun z => (h _ z).2.1 rfl, ?_⟩
  have a := join_len ws
  have b := sum_few ws 10 (fun z hz => (h z hz).2.2) hl
  exact Nat.le_trans (show _ ≤ 20000 by omega) (by decide)
theorem join2 (a b : Str) : Txt.join " " [a, b] = a ++ " " ++ b := rfl
theorem join3 (a b c : Str) : Txt.join " " [a, b, c] = a ++ " " ++ (b ++ " " ++ c) := by rw [TL.join_eq]; rfl
theorem join5 (a b c d e : Str) : Txt.join " " [a, b, c, d, e] = (a ++ " ") ++ Txt.join " " [b, c, d] ++ " " ++ e := by
  rw [TL.join_eq, TL.join_eq]
  apply TL.ext_tl
  show TL.tl (a ++ " " ++ (b ++ " " ++ (c ++ " " ++ (d ++ " " ++ e)))) = TL.tl ((a ++ " ") ++ (b ++ " " ++ (c ++ " " ++ d)) ++ " " ++ e)
  simp only [TL.tl_append, List.append_assoc]
theorem ap_len (a b : Str) : (a ++ b).length = a.length + b.length := by
  rw [← SX.S_tl a, ← SX.S_tl b, SX.S_cat, SX.S_len, SX.S_len, SX.S_len, List.length_append]
theorem fitL {n : Nat} (h : n ≤ 10000) : n ≤ sizeLine := Nat.le_trans h (by decide)
end Rep
namespace Rep
open PySem L2 PyProof.Rows
/-! sorted(xs) of a list of pairs of a number and a text -/
def isD (p : Int × Str) : PyData := .tuple [.int p.1, .str p.2]
def ISat (H : Hp) (v : V) (p : Int × Str) : Prop := ∃ t, v = .ref t ∧ H t = some (.tup [.int p.1, .str p.2])
theorem ISat.ts {H H' : Hp} (h : TS H H') {v : V} {p : Int × Str} (k : ISat H v p) : ISat H' v p := by obtain ⟨t, e, ht⟩ := k; exact ⟨t, e, h _ _ ht⟩
def srtF (ps : List (Int × Str)) : List (Int × Str) := ps.mergeSort (PySem.W.dataLe false isD)
def rSortIS (K : PySem.W.Frag) : List V → Hp → VK → Prop := fun vs H Q => ∃ (a : Addr) (xs : List V) (ps : List (Int × Str)), vs = [V.ref a] ∧ SqL K H a xs ∧ LL ISat H xs ps ∧ ps.length ≤ 1000 ∧ ∀ ys p, LL ISat H ys (srtF ps) → H p = none → Q (.ref p) (upd H p (.lst ys))
theorem isat_each {H : Hp} : ∀ {xs : List V} {us : List Value} {ps : List (Int × Str)}, Vals xs us → LL ISat H xs ps → PySem.W.EachIs (fun u p => ∃ v, RelV v u ∧ ISat H v p) us ps
  | [], [], [], _, _ => .nil
  | [], [], _ :: _, _, h => by have := h.len; simp at this
  | x :: xs, u :: us, [], _, h => by have := h.len; simp at this
  | x :: xs, u :: us, p :: ps, .cons r t, h => .cons ⟨x, r, h.at_ 0 x p rfl rfl⟩ (isat_each t ⟨by have := h.len; simpa using this, fun i w a h1 h2 => h.at_ (i + 1) w a h1 h2⟩)
theorem each_isat {H : Hp} : ∀ {us : List Value} {ps : List (Int × Str)}, PySem.W.EachIs (fun u p => ∃ v, RelV v u ∧ ISat H v p) us ps → ∃ xs, Vals xs us ∧ LL ISat H xs ps
  | [], [], _ => ⟨[], .nil, .nil⟩
  | u :: us, p :: ps, .cons ⟨v, r, i⟩ t => by
    obtain ⟨xs, rv, l⟩ := each_isat t
    refine ⟨v :: xs, .cons r rv, ⟨by simp [l.len], fun j w a h1 h2 => ?_⟩⟩
    cases j with
    | zero => cases h1; cases h2; exact i
    | succ j => exact l.at_ j w a h1 h2
section
variable {X : Cx}
theorem cr_sortedIS (hU : X.A.units + 64 < cLine) : CallR X (.builtin "sorted") (rSortIS X.K) := by
  intro pins s σ H vs us Q I r h
  obtain ⟨a, xs, ps, rfl, hs, hx, hl, q⟩ := h
  obtain ⟨its, rv, hl0, hz⟩ := I.list hs
  obtain ⟨u, rfl, ru⟩ := vals1 r
  obtain rfl : u = Value.ref a := ru
  have ea := isat_each rv hx
  refine PySem.W.sorted_data (enc := isD) (bs := ps) hl0.isList ea (ea.mono fun u p h => ?_) (PySem.W.AllAlike.of fun b b' => rfl) (PySem.W.Sortable.tuples fun b => ⟨_, _, rfl⟩) (Nat.le_trans hl (by decide)) (fun b _ => ?_) fun out ho eo => ?_
  · obtain ⟨v, rr, t, ev, ht⟩ := h
    subst ev
    exact Dp.reads I (isD p) (.ref t) u (.tup (.inl (.inl ht)) (.cons (.int _) (.cons (.str _) .nil))) rr
  · show X.A.units + 2 + (isD b).depth < cLine
    have : (isD b).depth ≤ 2 := by simp [isD, PyData.depth, PyData.depthAll]
    omega
  · obtain ⟨ys, ry, ly⟩ := each_isat eo
    obtain ⟨n, hn⟩ := sortedAll_at s.heap its out.toArray
    refine ⟨.ref (s.heap.objs.size + 1), upd H (s.heap.objs.size + 1) (.lst ys), I.laid (t' := s.toks) (fun b o e => sortedAll_old e) (Nat.le_succ _) ⟨?_, out, n, ry, hn⟩, rfl, q ys _ ly (I.hok.fresh (Nat.le_succ _))⟩
    rw [ry.length, ho]
    exact Nat.le_trans hl (by decide)
end
end Rep
namespace Rep
open PySem L2 L2H RepHot
/-! the page of a book -/
def rowS (r : Rw) : Str := Txt.join " " ["say", sI r.num, sI r.sy.lo, sI r.sy.hi, sI r.sy.n, wayS r.sy.t]
def rowM (m : Me) : Str := Txt.join " " ["note", sI m.num, m.lt, sI m.at_, sI m.n]
def psF (s : Sht) : List (Int × Str) := s.said.map (fun r => (r.num, rowS r)) ++ s.noted.map (fun m => (m.num, rowM m))
def headF (s : Sht) : Str := Txt.join " " ["song", sI s.size, sI s.coming]
def pgF (s : Sht) : Str := Txt.join "\n" (headF s :: (srtF (psF s)).map Prod.snd)
/-- what numbers of a sheet can be told -/
structure Tl (s : Sht) : Prop where
  e : Tn s.size
  c : Tn s.coming
  a : ∀ r ∈ s.said, Tn r.num ∧ Tn r.sy.lo ∧ Tn r.sy.hi ∧ Tn r.sy.n
  b : ∀ m ∈ s.noted, Tn m.num ∧ Tn m.at_ ∧ Tn m.n ∧ m.lt.length ≤ 100
theorem Tl.of {s : Sht} (w : Wf s) (f : Fit s) (c : Tn s.coming) (n1 : ∀ r ∈ s.said, 0 ≤ r.num) (n2 : ∀ m ∈ s.noted, 0 ≤ m.num) : Tl s := by
  have e := w.e
  refine ⟨⟨e.1, e.2⟩, c, fun r hr => ?_, fun m hm => ?_⟩
  · obtain ⟨⟨a1, a2, a3⟩, ⟨_, b2, b3⟩⟩ := f.a r hr
    have := w.c1 r hr
    have := n1 r hr
    have := c.2
    have := e.2
    exact ⟨⟨by omega, by omega⟩, ⟨by omega, by omega⟩, ⟨by omega, by omega⟩, ⟨by omega, by omega⟩⟩
  · obtain ⟨a1, a2, a3⟩ := f.b m hm
    have := w.c2 m hm
    have := n2 m hm
    have := c.2
    have := e.2
    exact ⟨⟨by omega, by omega⟩, ⟨by omega, by omega⟩, ⟨by omega, by omega⟩, by rw [(w.lt m hm).len]; decide⟩
theorem way_le (t : Bool) : (wayS t).length ≤ 8 := by cases t <;> decide +kernel
theorem l_say : ("say " : Str).length = 4 := by decide +kernel
theorem l_note : ("note " : Str).length = 5 := by decide +kernel
theorem l_song : ("song " : Str).length = 5 := by decide +kernel
theorem l_bl : (" " : Str).length = 1 := by decide +kernel
theorem l_emp : (Str.empty).length = 0 := rfl
theorem out_say (r : Rw) : Str.empty ++ "say " ++ sI r.num ++ " " ++ sI r.sy.lo ++ " " ++ sI r.sy.hi ++ " " ++ sI r.sy.n ++ " " ++ wayS r.sy.t = rowS r := by
  unfold rowS
  rw [TL.join_eq]
  apply TL.ext_tl
  show _ = TL.tl ("say" ++ " " ++ (sI r.num ++ " " ++ (sI r.sy.lo ++ " " ++ (sI r.sy.hi ++ " " ++ (sI r.sy.n ++ " " ++ wayS r.sy.t)))))
  have e : TL.tl ("say " : Str) = TL.tl ("say" : Str) ++ TL.tl (" " : Str) := by decide +kernel
  simp only [TL.tl_append, e, List.append_assoc, show TL.tl Str.empty = [] from rfl, List.nil_append]
theorem out_note (m : Me) : Str.empty ++ "note " ++ sI m.num ++ " " ++ m.lt ++ " " ++ sI m.at_ ++ " " ++ sI m.n = rowM m := by
  unfold rowM
  rw [TL.join_eq]
  apply TL.ext_tl
  show _ = TL.tl ("note" ++ " " ++ (sI m.num ++ " " ++ (m.lt ++ " " ++ (sI m.at_ ++ " " ++ sI m.n))))
  have e : TL.tl ("note " : Str) = TL.tl ("note" : Str) ++ TL.tl (" " : Str) := by decide +kernel
  simp only [TL.tl_append, e, List.append_assoc, show TL.tl Str.empty = [] from rfl, List.nil_append]
theorem out_song (s : Sht) : Str.empty ++ "song " ++ sI s.size ++ " " ++ sI s.coming = headF s := by
  unfold headF
  rw [TL.join_eq]
  apply TL.ext_tl
  show _ = TL.tl ("song" ++ " " ++ (sI s.size ++ " " ++ sI s.coming))
  have e : TL.tl ("song " : Str) = TL.tl ("song" : Str) ++ TL.tl (" " : Str) := by decide +kernel
  simp only [TL.tl_append, e, List.append_assoc, show TL.tl Str.empty = [] from rfl, List.nil_append]
theorem pg_lens {s : Sht} (tl : Tl s) : ∀ z ∈ headF s :: (srtF (psF s)).map Prod.snd, z.length ≤ 1000 := by
  have c1 := l_say
  have c2 := l_bl
  have c3 := l_emp
  have c4 := l_note
  have c5 := l_song
  intro z hz
  rcases List.mem_cons.mp hz with rfl | hz
  · have k1 := sI_len tl.e
    have k2 := sI_len tl.c
    rw [← out_song]
    simp only [ap_len]; omega
  · obtain ⟨p, hp, rfl⟩ := List.mem_map.mp hz
    have hp : p ∈ psF s := List.mem_mergeSort.mp hp
    rcases List.mem_append.mp hp with hp | hp
    · obtain ⟨r, hr, rfl⟩ := List.mem_map.mp hp
      obtain ⟨tn, t1, t2, t3⟩ := tl.a r hr
      have k0 := sI_len tn
      have k1 := sI_len t1
      have k2 := sI_len t2
      have k3 := sI_len t3
      have k4 := way_le r.sy.t
      show (rowS r).length ≤ 1000
      rw [← out_say]
      simp only [ap_len]; omega
    · obtain ⟨m, hm, rfl⟩ := List.mem_map.mp hp
      obtain ⟨tn, t1, t2, k5⟩ := tl.b m hm
      have k0 := sI_len tn
      have k1 := sI_len t1
      have k2 := sI_len t2
      show (rowM m).length ≤ 1000
      rw [← out_note]
      simp only [ap_len]; omega
end Rep
namespace Rep
open PySem L2 L2H RepHot
/-! the page of a state, by the law -/
def spLpt : Sp := fun vs H Q _ => ∃ (stv : V) (N : Addr → Prop) (s : Sht), vs = [stv] ∧ StAt N H stv s ∧ (s.said.length ≤ 25 ∧ s.noted.length ≤ 25) ∧ Tl s ∧ ∀ H', Same H H' → Q (.str (pgF s)) H'
abbrev nLpt : List Str := ["_law_state", "_law_length", "_law_coming", "_law_sayings", "_law_memories", "_law_rows", "_law_number", "_law_one", "_law_other", "_law_many", "_law_turned", "_law_words", "_law_letter_here", "_law_at", "_law_text"]
theorem scLpt : FnScope nLpt ["_law_state"] (defScope s_law_page_text) := ⟨rfl, rfl, rfl, by decide +kernel, rfl, by decide +kernel, by decide +kernel⟩
structure TLpt (mg : Str → Option Value) : Prop where
  mstr : mg "str" = none
  mI : mg "int" = none
  mso : mg "sorted" = none
theorem sum_few' {l : List Str} {n : Nat} (h : ∀ z ∈ l, z.length ≤ 1000) (hl : l.length ≤ n) (hn : n ≤ 100) : (l.map (·.length)).sum + l.length * 1 ≤ 16777216 := by
  have b := sum_few l n h hl
  have : 1000 * n ≤ 100000 := by omega
  omega
section
variable {Pg : Program} {w : World} {K : PySem.W.Frag} {mg : Str → Option Value} {base : Heap}
theorem ok_lpt {f : Addr} {fd : FuncData} {k : Nat} (F : Fun K "_law_page_text" "_law_page_text" s_law_page_text f fd) (T : TLpt mg) : FnOk Pg w K mg base CX0 (k + 1) f fd ["_law_state"] spLpt := by
  refine F.ok scLpt (fun vs H Q E h => ?_) (fun cdv A outer s H vs Q E hr h => ?_)
  · obtain ⟨stv, N, s_, rfl, _⟩ := h; rfl
  obtain ⟨stv, N, s_, rfl, st, wf, tl, q⟩ := h
  refine ⟨_, (C8.pss_cut (ps_asg (pv 0) (pg_tup rfl (pgs_cons (pg_name (i := 1) scLpt.nd rfl (.inl rfl)) (pgs_cons (pg_name (i := 2) scLpt.nd rfl (.inl rfl)) (pgs_cons (pg_name (i := 3) scLpt.nd rfl (.inl rfl)) (pgs_cons (pg_name (i := 4) scLpt.nd rfl (.inl rfl)) pgs_nil))))))
    (C8.pss_cut (ps_set (i := 5) scLpt.nd rfl (.inl rfl) (pe_lst pa_nil))
    (C8.pss_cut (ps_for PassesOwn.never rfl (pi_list (pv 3)) (pg_tup rfl (pgs_cons (pg_name (i := 6) scLpt.nd rfl (.inl rfl)) (pgs_cons (pg_name (i := 7) scLpt.nd rfl (.inl rfl)) (pgs_cons (pg_name (i := 8) scLpt.nd rfl (.inl rfl)) (pgs_cons (pg_name (i := 9) scLpt.nd rfl (.inl rfl)) (pgs_cons (pg_name (i := 10) scLpt.nd rfl (.inl rfl)) pgs_nil))))))
      (pss_cons (ps_set (i := 11) scLpt.nd rfl (.inl rfl) (pe_lst (pa_cons pe_str (pa_cons (pe_callTy call_str_any (by rfl) T.mstr PyProof.Rows.boot_str (pa_cons (pv 6) pa_nil)) (pa_cons (pe_callTy call_str_any (by rfl) T.mstr PyProof.Rows.boot_str (pa_cons (pv 7) pa_nil)) (pa_cons (pe_callTy call_str_any (by rfl) T.mstr PyProof.Rows.boot_str (pa_cons (pv 8) pa_nil)) (pa_cons (pe_callTy call_str_any (by rfl) T.mstr PyProof.Rows.boot_str (pa_cons (pv 9) pa_nil)) (pa_cons (pe_ix ix_list (pe_lst (pa_cons pe_str (pa_cons pe_str pa_nil))) (pe_callTy call_int1 (by rfl) T.mI PyProof.Rows.boot_int (pa_cons (pv 10) pa_nil)) (fun _ _ => rfl)) pa_nil))))))))
    (pss_one (ps_expr (pe_bm PySem.F.plainAttrs_list PySem.F.slot_list_append PySem.F.type_list_append mt_append (pv 5) (pa_cons (pe_tup (pa_cons (pv 6) (pa_cons (pe_join pe_str (pv 11)) pa_nil))) pa_nil))))))
    (C8.pss_cut (ps_for PassesOwn.never rfl (pi_list (pv 4)) (pg_tup rfl (pgs_cons (pg_name (i := 6) scLpt.nd rfl (.inl rfl)) (pgs_cons (pg_name (i := 12) scLpt.nd rfl (.inl rfl)) (pgs_cons (pg_name (i := 13) scLpt.nd rfl (.inl rfl)) (pgs_cons (pg_name (i := 9) scLpt.nd rfl (.inl rfl)) pgs_nil)))))
      (pss_one (ps_expr (pe_bm PySem.F.plainAttrs_list PySem.F.slot_list_append PySem.F.type_list_append mt_append (pv 5) (pa_cons (pe_tup (pa_cons (pv 6) (pa_cons (pe_join pe_str (pe_lst (pa_cons pe_str (pa_cons (pe_callTy call_str_any (by rfl) T.mstr PyProof.Rows.boot_str (pa_cons (pv 6) pa_nil)) (pa_cons (pv 12) (pa_cons (pe_callTy call_str_any (by rfl) T.mstr PyProof.Rows.boot_str (pa_cons (pv 13) pa_nil)) (pa_cons (pe_callTy call_str_any (by rfl) T.mstr PyProof.Rows.boot_str (pa_cons (pv 9) pa_nil)) pa_nil))))))) pa_nil))) pa_nil)))))
    (pss_one (ps_ret (pe_join pe_str (pe_op op_cat (pe_lst (pa_cons (pe_op op_add_str (pe_op op_add_str (pe_op op_add_str pe_str (pe_callTy call_str_any (by rfl) T.mstr PyProof.Rows.boot_str (pa_cons (pv 1) pa_nil))) pe_str) (pe_callTy call_str_any (by rfl) T.mstr PyProof.Rows.boot_str (pa_cons (pv 2) pa_nil))) pa_nil)) (pe_lc (own := [("_law_number", 6), ("_law_text", 14)]) (g := (gTup K 2 (gCons (gName 6) (gCons (gName 14) gNil)))) (tt := tYes) (te := (tVar 14)) rfl scLpt.nd (pi_list (pe_callB (cr_sortedIS hr.units) (by rfl) T.mso PyProof.Rows.boot_sorted (pa_cons (pv 5) pa_nil))) (blkOk_by (N := nLpt) (sc := defScope s_law_page_text) (by decide +kernel)) (fun _ _ _ _ _ => (pg_tup rfl (pgs_cons (pg_name (i := 6) scLpt.nd rfl (.inl rfl)) (pgs_cons (pg_name (i := 14) scLpt.nd rfl (.inl rfl)) pgs_nil)))) (fun _ _ _ _ _ => pts_nil) (fun _ _ _ _ _ => (pv 14))))))))))), ?_⟩
  obtain ⟨t, la, lb, xs, ys, rfl, h2, h3, h4, h5, h6, h7, h8⟩ := st.ex
  have l1 := wf.1
  have l2 := wf.2
  have x1 := h4.len
  have y1 := h6.len
  refine ⟨fun σ' H' => σ' = [some (.ref t), some (.int s_.size), some (.int s_.coming), some (.ref la), some (.ref lb), none, none, none, none, none, none, none, none, none, none] ∧ H' = H, ?_, ?_⟩
  · exact ⟨.ref t, rfl, t, _, rfl, .inl (.inl h2), rfl, _, _, rfl, _, _, rfl, _, _, rfl, _, _, rfl, rfl, rfl, rfl⟩
  rintro σ' H' ⟨rfl, eH⟩
  subst eH
  refine ⟨fun σ' H1 => ∃ l, σ' = [some (.ref t), some (.int s_.size), some (.int s_.coming), some (.ref la), some (.ref lb), some (.ref l), none, none, none, none, none, none, none, none, none] ∧ Same H' H1 ∧ H' l = none ∧ H1 l = some (.lst []), ?_, ?_⟩
  · refine ⟨szN 0 rfl, fun l0 n_l0 => ?_⟩
    generalize e_l0 : upd H' l0 _ = H1
    have u1 := new_same e_l0 n_l0
    have z1 := new_at e_l0
    clear e_l0
    exact ⟨l0, rfl, u1, n_l0, z1⟩
  rintro σ' H1 ⟨l, rfl, u1, nl, el⟩
  -- sayings
  have a1 : ("say" : Str).length = 3 := by decide +kernel
  have a2 : ("note" : Str).length = 4 := by decide +kernel
  have a3 : ("song " : Str).length = 5 := by decide +kernel
  have a4 : (" " : Str).length = 1 := by decide +kernel
  refine ⟨fun σ' H2 => ∃ y6 y7 y8 y9 y10 y11 vs, σ' = [some (.ref t), some (.int s_.size), some (.int s_.coming), some (.ref la), some (.ref lb), some (.ref l), y6, y7, y8, y9, y10, y11, none, none, none] ∧ Same H' H2 ∧ H2 l = some (.lst vs) ∧ LL ISat H2 vs (s_.said.map fun r => (r.num, rowS r)), ?_, ?_⟩
  · refine ⟨.ref la, rfl, la, rfl, ⟨_, .inl (.inl (u1 _ _ h3))⟩, for_list (xs := xs) (fun j σ' H2 => ∃ y6 y7 y8 y9 y10 y11 vs, σ' = [some (.ref t), some (.int s_.size), some (.int s_.coming), some (.ref la), some (.ref lb), some (.ref l), y6, y7, y8, y9, y10, y11, none, none, none] ∧ Same H' H2 ∧ H2 l = some (.lst vs) ∧ LL ISat H2 vs ((s_.said.map fun r => (r.num, rowS r)).take j)) ⟨none, none, none, none, none, none, [], rfl, u1, el, LL.nil⟩ (fun j σ' H2 _ hP => ?_) (fun j x σ' H2 hx hP => ?_) (fun σ' H2 hP => ?_)⟩
    · obtain ⟨y6, y7, y8, y9, y10, y11, vs, rfl, u2, el2, ll2⟩ := hP
      exact .inl (.inl (u2 _ _ h3))
    · obtain ⟨y6, y7, y8, y9, y10, y11, vs, rfl, u2, el2, ll2⟩ := hP
      obtain ⟨r, hr_, tr, rfl, htr⟩ := h4.get hx
      have hi : j < s_.said.length := (List.getElem?_eq_some_iff.mp hr_).1
      obtain ⟨tn, t1, t2, t3⟩ := tl.a r (List.mem_of_getElem? hr_)
      have k0 := sI_len tn
      have k1 := sI_len t1
      have k2 := sI_len t2
      have k3 := sI_len t3
      have k4 := way_le r.sy.t
      have vl : vs.length = j := by rw [ll2.len, List.length_take, List.length_map]; omega
      refine ⟨tr, _, rfl, .inl (.inl (u2 _ _ htr)), rfl, _, _, rfl, _, _, rfl, _, _, rfl, _, _, rfl, _, _, rfl, rfl, ?_⟩
      refine ⟨.int r.num, rfl, .int r.num, rfl, log40 tn, .int r.sy.lo, rfl, .int r.sy.lo, rfl, log40 t1, .int r.sy.hi, rfl, .int r.sy.hi, rfl, log40 t2, .int r.sy.n, rfl, .int r.sy.n, rfl, log40 t3, ?_⟩
      refine ⟨szN 2 rfl, fun l9 n_l9 => ?_⟩
      generalize e_l9 : upd H2 l9 _ = H3
      have u3 := new_same e_l9 n_l9
      have z3 := new_at e_l9
      clear e_l9
      refine ⟨.bl r.sy.t, rfl, .inr ⟨r.sy.t, rfl, l9, _, _, .str (wayS r.sy.t), rfl, rfl, .inl (.inl z3), by cases r.sy.t <;> rfl, ?_⟩⟩
      refine ⟨szN 6 rfl, fun lw n_lw => ?_⟩
      generalize e_lw : upd H3 lw _ = H4
      have u4 := new_same e_lw n_lw
      have z4 := new_at e_lw
      clear e_lw
      have u34 := u3.trans u4
      refine ⟨.ref l, rfl, .inl ⟨rfl, _, .inl (.inl (u34 _ _ el2))⟩, .int r.num, rfl, ⟨_, rfl⟩, .ref lw, rfl, " ", lw, ["say", sI r.num, sI r.sy.lo, sI r.sy.hi, sI r.sy.n, wayS r.sy.t], rfl, rfl, .inl (.inl (.inl z4)), ?_, ?_⟩
      · show ("say" : Str).length + ((sI r.num).length + ((sI r.sy.lo).length + ((sI r.sy.hi).length + ((sI r.sy.n).length + ((wayS r.sy.t).length + 0))))) + 6 * 1 ≤ 16777216
        omega
      refine ⟨szN 2 rfl, fun t9 n_t9 => ?_⟩
      generalize e_t9 : upd H4 t9 _ = H5
      have u5 := new_same e_t9 n_t9
      have z5 := new_at e_t9
      clear e_t9
      have u25 := u34.trans u5
      have el5 := u25 _ _ el2
      refine ⟨l, vs, .ref t9, rfl, rfl, el5, small1000 (by omega), ?_⟩
      have tsU : TS H5 (upd H5 l (.lst (vs ++ [.ref t9]))) := fun t' xs' e => by rw [upd_ne (fun z => by rw [z, el5] at e; cases e)]; exact e
      refine ⟨_, _, _, _, _, _, vs ++ [.ref t9], rfl, same_over (u2.trans u25) nl, upd_same, ?_⟩
      rw [List.take_add_one, List.getElem?_map, hr_]
      exact LL.snoc (ll2.tr fun _ _ z => (z.ts (TS.of u25)).ts tsU) ⟨t9, rfl, tsU _ _ z5⟩
    · obtain ⟨y6, y7, y8, y9, y10, y11, vs, rfl, u2, el2, ll2⟩ := hP
      rw [x1, List.take_of_length_le (by rw [List.length_map]; exact Nat.le_refl _)] at ll2
      exact ⟨_, _, _, _, _, _, vs, rfl, u2, el2, ll2⟩
  clear el u1
  rintro σ' H1 ⟨y6, y7, y8, y9, y10, y11, vs, rfl, u1, el, ll⟩
  -- memories
  refine ⟨fun σ' H2 => ∃ y6 y7 y8 y9 y10 y11 y12 y13 vs, σ' = [some (.ref t), some (.int s_.size), some (.int s_.coming), some (.ref la), some (.ref lb), some (.ref l), y6, y7, y8, y9, y10, y11, y12, y13, none] ∧ Same H' H2 ∧ H2 l = some (.lst vs) ∧ LL ISat H2 vs (psF s_), ?_, ?_⟩
  · refine ⟨.ref lb, rfl, lb, rfl, ⟨_, .inl (.inl (u1 _ _ h5))⟩, for_list (xs := ys) (fun j σ' H2 => ∃ y6 y7 y8 y9 y10 y11 y12 y13 vs, σ' = [some (.ref t), some (.int s_.size), some (.int s_.coming), some (.ref la), some (.ref lb), some (.ref l), y6, y7, y8, y9, y10, y11, y12, y13, none] ∧ Same H' H2 ∧ H2 l = some (.lst vs) ∧ LL ISat H2 vs ((s_.said.map fun r => (r.num, rowS r)) ++ (s_.noted.map fun m => (m.num, rowM m)).take j)) ⟨_, _, _, _, _, _, none, none, vs, rfl, u1, el, by rw [List.take_zero, List.append_nil]; exact ll⟩ (fun j σ' H2 _ hP => ?_) (fun j x σ' H2 hx hP => ?_) (fun σ' H2 hP => ?_)⟩
    · obtain ⟨y6, y7, y8, y9, y10, y11, y12, y13, vs, rfl, u2, el2, ll2⟩ := hP
      exact .inl (.inl (u2 _ _ h5))
    · clear ll el u1 vs
      obtain ⟨y6, y7, y8, y9, y10, y11, y12, y13, vs, rfl, u2, el2, ll2⟩ := hP
      obtain ⟨m, hr_, tr, rfl, htr⟩ := h6.get hx
      have hi : j < s_.noted.length := (List.getElem?_eq_some_iff.mp hr_).1
      obtain ⟨tn, t1, t2, k5⟩ := tl.b m (List.mem_of_getElem? hr_)
      have k0 := sI_len tn
      have k1 := sI_len t1
      have k2 := sI_len t2
      have vl : vs.length ≤ 100 := by rw [ll2.len, List.length_append, List.length_take, List.length_map, List.length_map]; omega
      refine ⟨tr, _, rfl, .inl (.inl (u2 _ _ htr)), rfl, _, _, rfl, _, _, rfl, _, _, rfl, _, _, rfl, rfl, ?_⟩
      refine ⟨.ref l, rfl, .inl ⟨rfl, _, .inl (.inl el2)⟩, .int m.num, rfl, ⟨_, rfl⟩, .int m.num, rfl, .int m.num, rfl, log40 tn, .str m.lt, rfl, .int m.at_, rfl, .int m.at_, rfl, log40 t1, .int m.n, rfl, .int m.n, rfl, log40 t2, ?_⟩
      refine ⟨szN 5 rfl, fun lw n_lw => ?_⟩
      generalize e_lw : upd H2 lw _ = H4
      have u4 := new_same e_lw n_lw
      have z4 := new_at e_lw
      clear e_lw
      refine ⟨" ", lw, ["note", sI m.num, m.lt, sI m.at_, sI m.n], rfl, rfl, .inl (.inl (.inl z4)), ?_, ?_⟩
      · show ("note" : Str).length + ((sI m.num).length + ((m.lt).length + ((sI m.at_).length + ((sI m.n).length + 0)))) + 5 * 1 ≤ 16777216
        omega
      refine ⟨szN 2 rfl, fun t9 n_t9 => ?_⟩
      generalize e_t9 : upd H4 t9 _ = H5
      have u5 := new_same e_t9 n_t9
      have z5 := new_at e_t9
      clear e_t9
      have u25 := u4.trans u5
      have el5 := u25 _ _ el2
      refine ⟨l, vs, .ref t9, rfl, rfl, el5, small1000 (by omega), ?_⟩
      have tsU : TS H5 (upd H5 l (.lst (vs ++ [.ref t9]))) := fun t' xs' e => by rw [upd_ne (fun z => by rw [z, el5] at e; cases e)]; exact e
      refine ⟨_, _, _, _, _, _, _, _, vs ++ [.ref t9], rfl, same_over (u2.trans u25) nl, upd_same, ?_⟩
      rw [List.take_add_one, List.getElem?_map, hr_, ← List.append_assoc]
      exact LL.snoc (ll2.tr fun _ _ z => (z.ts (TS.of u25)).ts tsU) ⟨t9, rfl, tsU _ _ z5⟩
    · obtain ⟨y6, y7, y8, y9, y10, y11, y12, y13, vs, rfl, u2, el2, ll2⟩ := hP
      rw [y1, List.take_of_length_le (by rw [List.length_map]; exact Nat.le_refl _)] at ll2
      exact ⟨_, _, _, _, _, _, _, _, vs, rfl, u2, el2, ll2⟩
  clear el u1 ll vs
  rintro σ' H1 ⟨y6, y7, y8, y9, y10, y11, y12, y13, vs, rfl, uZ, el, ll⟩
  have k1 := sI_len tl.e
  have k2 := sI_len tl.c
  have pl : (psF s_).length ≤ 50 := by unfold psF; rw [List.length_append, List.length_map, List.length_map]; omega
  refine ⟨⟨_, rfl⟩, .int s_.size, rfl, .int s_.size, rfl, log40 tl.e, "song ", sI s_.size, rfl, rfl, fitL (by omega), _, " ", rfl, rfl, fitL (by simp only [ap_len]; omega), .int s_.coming, rfl, .int s_.coming, rfl, log40 tl.c, _, sI s_.coming, rfl, rfl, fitL (by simp only [ap_len]; omega), ?_⟩
  have ehd : ("song " : Str) ++ sI s_.size ++ " " ++ sI s_.coming = headF s_ := by
    rw [← out_song]
    apply TL.ext_tl
    simp only [TL.tl_append, show TL.tl Str.empty = [] from rfl, List.nil_append]
  rw [ehd]
  refine ⟨szN 1 rfl, fun l1 n_l1 => ?_⟩
  generalize e_l1 : upd H1 l1 _ = H2
  have u2 := new_same e_l1 n_l1
  have z2 := new_at e_l1
  clear e_l1
  refine ⟨.ref l, rfl, l, vs, psF s_, rfl, .inl (.inl (u2 _ _ el)), ll.tr fun _ _ z => z.ts (TS.of u2), by omega, fun ys p ly np => ?_⟩
  have u3 : Same H2 (upd H2 p (.lst ys)) := same_upd np
  have z3 : upd H2 p (.lst ys) p = some (.lst ys) := upd_same
  generalize upd H2 p (.lst ys) = H3 at u3 z3 ⊢
  have sl : (srtF (psF s_)).length = (psF s_).length := List.length_mergeSort _
  refine ⟨p, rfl, ⟨_, .inl (.inl z3)⟩, fun D nD => ?_⟩
  refine lc_list (xs := ys) (fun i H4 => Same H3 H4 ∧ H4 D = some (.lst (((srtF (psF s_)).take i).map fun p => V.str p.2))) ⟨same_upd nD, upd_same⟩ (fun i H4 _ hP => .inl (.inl (hP.1 _ _ z3))) (fun i v H4 hv hP => ?_) (fun H4 hP => ?_)
  · obtain ⟨sm, eD⟩ := hP
    obtain ⟨pr, hp, t, rfl, ht⟩ := ly.get hv
    refine ⟨t, _, rfl, .inl (.inl (sm _ _ (u3 _ _ ht))), rfl, _, _, rfl, _, _, rfl, rfl, rfl, ?_⟩
    refine tYes_ok ?_
    refine iteT ?_
    refine ⟨.str pr.2, rfl, _, eD, ?_, same_over sm nD, ?_⟩
    · rw [List.length_map, List.length_take]
      exact Nat.lt_of_le_of_lt (Nat.min_le_right _ _) (small1000 (by omega))
    · rw [upd_same, List.take_add_one, hp, List.map_append]; rfl
  · obtain ⟨sm, eD⟩ := hP
    rw [ly.len, List.take_of_length_le (Nat.le_refl _)] at eD
    refine ⟨l1, D, _, _, rfl, rfl, sm _ _ (u3 _ _ z2), eD, Nat.le_trans (show _ ≤ 100 by simp only [List.length_map, List.length_cons, List.length_nil]; omega) (by decide), ?_⟩
    intro l6 n_l6
    generalize e_l6 : upd H4 l6 _ = H5
    have u5 := new_same e_l6 n_l6
    have z5 := new_at e_l6
    clear e_l6
    have z5 : H5 l6 = some (.lst ((headF s_ :: (srtF (psF s_)).map Prod.snd).map V.str)) := by rw [z5, List.map_cons, List.map_map]; rfl
    refine ⟨"\n", l6, headF s_ :: (srtF (psF s_)).map Prod.snd, rfl, rfl, .inl (.inl (.inl z5)), ?_, q H5 (uZ.trans (u2.trans (u3.trans (sm.trans u5))))⟩
    have b := sum_few (headF s_ :: (srtF (psF s_)).map Prod.snd) 51 (pg_lens tl) (by rw [List.length_cons, List.length_map]; omega)
    have c : (headF s_ :: (srtF (psF s_)).map Prod.snd).length ≤ 51 := by rw [List.length_cons, List.length_map]; omega
    show _ + (headF s_ :: (srtF (psF s_)).map Prod.snd).length * 1 ≤ _
    omega
end
end Rep
namespace L2
set_option maxHeartbeats 400000
open PySem PySem.Spec PyProof.Rows
/-! zip of a list and a text; a text many times -/
/-- the list at a as it stands at each turn, the signs of x: new pairs -/
def Itzs (K : PySem.W.Frag) (a : Addr) (x : Str) : It :=
  ⟨fun i H => ∃ (xs : List V) (v : V), SqL K H a xs ∧ xs[i]? = some v ∧ i < x.cps.size,
    fun i H v H' => ∃ T y c, v = .ref T ∧ H T = none ∧ H' = upd H T (.tup [y, .str ⟨#[c]⟩]) ∧ (∀ xs, SqL K H a xs → xs[i]? = some y) ∧ x.cps[i]? = some c,
    fun i H => ∃ xs : List V, SqL K H a xs ∧ i ≤ xs.length ∧ i ≤ x.cps.size ∧ (xs.length = i ∨ x.cps.size = i)⟩
theorem turn_zipS {P : Program} {w : World} {K : PySem.W.Frag} {es : List Expr} {kk : Nat} {tpos : Pos} {a z TI TO i1 i2 : Addr} {x : Str} {t : Tok} (D : ZipSep2 z TI TO i1 i2 [i1, a] [i2]) (n1 : a ≠ i1) :
    Turn P w K (.Tuple es kk tpos) (Itzs K a x) [z, TI, TO, i1, i2] z (fun i h => IsZip h z TI TO .none ∧ IsTupOf2 h TI (.ref i1) (.ref i2) ∧ (∃ u v, IsTupOf2 h TO u v) ∧ h.IsListIter i1 a i ∧ h.IsStrIter i2 (strIterType x) x t i) where
  mem := by simp
  obj := fun i h st c hc => by
    obtain ⟨k1, k2, ⟨u, v, k3⟩, ⟨o4, k4, _, d4⟩, ⟨o5, k5, _, d5⟩⟩ := st
    have cs : c = z ∨ c = TI ∨ c = TO ∨ c = i1 ∨ c = i2 := by simpa using hc
    rcases cs with rfl | rfl | rfl | rfl | rfl
    · exact ⟨_, k1, fun _ y => nomatch y⟩
    · exact ⟨_, k2, fun _ y => nomatch y⟩
    · exact ⟨_, k3, fun _ y => nomatch y⟩
    · exact ⟨o4, k4, fun _ y => by rw [d4] at y; cases y⟩
    · exact ⟨o5, k5, fun _ y => by rw [d5] at y; cases y⟩
  keep := fun i h g st k => by
    obtain ⟨k1, k2, ⟨u, v, k3⟩, k4, ⟨o5, k5, r5⟩⟩ := st
    exact ⟨k z (by simp) _ k1, k TI (by simp) _ k2, ⟨u, v, k TO (by simp) _ k3⟩, k4.at fun o e => k i1 (by simp) o e, o5, k i2 (by simp) _ k5, r5⟩
  item := by
    intro X e1 e2 e3 calm i pins s σ H E I free st ok
    subst e1 e2 e3
    obtain ⟨k1, k2, ⟨u0, v0, k3⟩, k4, k5⟩ := st
    obtain ⟨xs, y, sq, hy, hi⟩ := ok
    obtain ⟨its, rv, pl, _⟩ := I.list sq
    obtain ⟨u, hu, ru⟩ := rv.get hy
    have hd := I.ok.hd calm
    have zl : z < s.heap.objs.size := Heap.lt_size k1
    have D1 := Draws.list (prog := X.prog) (w := X.w) (A := X.A.in1) hd i1 a n1 its.toArray
    have D2 := Draws.text (prog := X.prog) (w := X.w) (A := X.A.in1) hd i2 x t
    have hi1 : i < its.toArray.size := by
      have := (List.getElem?_eq_some_iff.mp hu).1
      simpa using this
    refine wpAny_pyNext_zipD2_item (i := i) D D1 D2 k1 k2 k3 ⟨k4, pl.isList⟩ k5 hi1 hi fun x1 x2 g tk p1 p2 z1 t1 l1 s1 tu sz kp => ?_
    obtain ⟨c, uc, hc, rfl⟩ := p2
    have hx1 : x1 = u := by
      have p1 : its.toArray[i]? = some x1 := p1
      rw [List.getElem?_toArray, hu] at p1
      exact (Option.some.inj p1).symm
    subst hx1
    refine ⟨_, rfl, wpAny_letOwnedTupleGo_zip (s := { s with heap := g, toks := tk }) z1 fun g2 z2 sb => ?_⟩
    have t2 : g2.get? s.heap.objs.size = some { cls := .type "tuple", data := .seq #[x1, .str ⟨#[c]⟩ uc] } := (sb.2 _ (Nat.ne_of_gt zl)).trans tu
    have made : ObjOk X.prog X.w (upd H s.heap.objs.size (.tup [y, .str ⟨#[c]⟩])) g2 s.heap.objs.size (.tup [y, .str ⟨#[c]⟩]) :=
      ⟨by show 2 ≤ sizeLine; decide, [x1, .str ⟨#[c]⟩ uc], .cons ru (.cons ⟨uc, rfl⟩ .nil), ⟨_, t2, rfl, _, rfl⟩⟩
    have J : Inv X pins σ (upd H s.heap.objs.size (.tup [y, .str ⟨#[c]⟩])) { s with heap := g2, toks := tk } :=
      I.turnedNew (t' := tk) (ch := [z, TI, TO, i1, i2]) (fun b o hb e => (sb.2 b (fun q => hb (by simp [q]))).trans (kp b o (fun q => hb (by simp [q])) (fun q => hb (by simp [q])) (fun q => hb (by simp [q])) (fun q => hb (by simp [q])) e)) free (Nat.le_refl _) made
    have iz2 : i2 ≠ z := fun q => D.zi2 q.symm
    have iz1 : i1 ≠ z := fun q => D.zi1 q.symm
    refine ⟨.ref s.heap.objs.size, _, J, rfl, ⟨_, y, c, rfl, I.hok.fresh (Nat.le_refl _), rfl, fun l hl => by rw [I.list_inj hl sq]; exact hy, hc⟩, ⟨z2, ?_, ⟨x1, .str ⟨#[c]⟩ uc, ?_⟩, ?_, ?_⟩, fun b hb => ?_⟩
    · exact (sb.2 _ D.TIz).trans (kp _ _ D.TIz D.TITO D.TIi1 D.TIi2 k2)
    · exact (sb.2 _ D.TOz).trans t1
    · exact l1.1.at fun o q => (sb.2 _ iz1).trans q
    · obtain ⟨o5, q5, r5⟩ := s1
      exact ⟨o5, (sb.2 _ iz2).trans q5, r5⟩
    · have lt : b < s.heap.objs.size := by
        have cs : b = z ∨ b = TI ∨ b = TO ∨ b = i1 ∨ b = i2 := by simpa using hb
        rcases cs with rfl | rfl | rfl | rfl | rfl
        · exact zl
        · exact Heap.lt_size k2
        · exact Heap.lt_size k3
        · obtain ⟨_, q, _⟩ := k4; exact Heap.lt_size q
        · obtain ⟨_, q, _⟩ := k5; exact Heap.lt_size q
      rw [upd_ne (Nat.ne_of_lt lt)]
      exact (free b hb).1
  done := by
    intro X e1 e2 e3 calm i pins s σ H E I free st ok
    subst e1 e2 e3
    obtain ⟨k1, k2, ⟨u0, v0, k3⟩, k4, k5⟩ := st
    obtain ⟨xs, sq, l1, l2, en⟩ := ok
    obtain ⟨its, rv, pl, _⟩ := I.list sq
    have hd := I.ok.hd calm
    have ln := rv.length
    have sz : its.toArray.size = its.length := List.size_toArray ..
    have D1 := Draws.list (prog := X.prog) (w := X.w) (A := X.A.in1) hd i1 a n1 its.toArray
    have D2 := Draws.text (prog := X.prog) (w := X.w) (A := X.A.in1) hd i2 x t
    exact wpAny_pyNext_zipD2_end (i := i) D D1 D2 k1 k2 k3 ⟨k4, pl.isList⟩ k5 (by rw [sz]; omega) l2 (by rw [sz]; omega) fun g tk kp => ⟨rfl, I.turnedL (t' := tk) (ch := [z, TI, TO, i1, i2]) (fun b o hb e =>
      kp b o (fun q => hb (by simp [q])) (fun q => hb (by simp [q])) (fun q => hb (by simp [q])) (fun q => hb (by simp [q])) e) free⟩
  self := fun A i s Q E st h => wpAny_pyIter_zip st.1 h
theorem not2 {n a b : Nat} (h1 : b ≠ n) (h2 : b ≠ a) : b ∉ [n, a] := fun h => by
  rcases List.mem_cons.mp h with h | h
  · exact h1 h
  · exact h2 (List.mem_singleton.mp h)
theorem not1 {n b : Nat} (h1 : b ≠ n) : b ∉ [n] := fun h => h1 (List.mem_singleton.mp h)
theorem sepS (n a : Nat) (la : a < n) : ZipSep2 (n + 4) (n + 2) (n + 3) n (n + 1) [n, a] [n + 1] where
  TIz := show n + 2 ≠ n + 4 by omega
  TOz := show n + 3 ≠ n + 4 by omega
  TITO := show n + 2 ≠ n + 3 by omega
  TIi1 := show n + 2 ≠ n by omega
  mem1 := .head _
  zf1 := not2 (show n + 4 ≠ n by omega) (show n + 4 ≠ a by omega)
  Tf1 := not2 (show n + 3 ≠ n by omega) (show n + 3 ≠ a by omega)
  TIi2 := show n + 2 ≠ n + 1 by omega
  mem2 := .head _
  zf2 := not1 (show n + 4 ≠ n + 1 by omega)
  Tf2 := not1 (show n + 3 ≠ n + 1 by omega)
  sep1_2 := not1 (show n ≠ n + 1 by omega)
  sep2_1 := not2 (show n + 1 ≠ n by omega) (show n + 1 ≠ a by omega)
def iZipS (K : PySem.W.Frag) (ta : TA) : TI := fun σ H R => ta σ H fun vs H1 => ∃ a x xs, vs = [.ref a, .str x] ∧ SqL K H1 a xs ∧ R (Itzs K a x) H1
theorem pi_zipS {X : Cx} {e e2 : Expr} {ta : TA} {p pos tpos : Pos} {es : List Expr} {kk : Nat} (g : Gl X "zip") (m : X.mg "zip" = none) (ha : PA X [e, e2] ta)
    (h1 : starEach [e, e2] X.env = (false, eval e X.env) :: starEach [e2] X.env := by rfl) (h2 : (backTo pos (starEach [e2] X.env)).any (·.1) = false := by rfl) :
    PI X (.Tuple es kk tpos) (.Call (.Name "zip" p) [e, e2] [] pos) (iZipS X.K ta) := by
  refine ⟨fun pins s σ H R I h => ?_⟩
  refine Call_ (ld_blt I g m PyProof.Rows.boot_zip (PyProof.Rows.callWith_type1 (thn (ha.run pos pins s σ H _ I h) fun us s1 ⟨vs, H1, I1, r1, q1⟩ => ?_) h1 h2))
  obtain ⟨a, x, xs, ev, sq, q⟩ := q1
  subst ev
  cases r1 with
  | cons ra rr =>
    cases rr with
    | cons rx rz =>
      cases rz
      cases ra
      obtain ⟨t, ex⟩ := rx
      subst ex
      obtain ⟨its, rv, pl, _⟩ := I1.list sq
      have la : a < s1.heap.objs.size := pl.lt
      refine zip_begins2 (begins_list a its.toArray) (begins_text x t) pl.isList trivial fun h' k1 k2 k3 k4 k5 sz kp => wpAny_pyIter_zip k1 ?_
      have J : Inv X pins σ H1 { s1 with heap := h' } := I1.kept (t' := s1.toks) kp
      refine ⟨s1.heap.objs.size + 4, [s1.heap.objs.size + 4, s1.heap.objs.size + 2, s1.heap.objs.size + 3, s1.heap.objs.size, s1.heap.objs.size + 1], _, _, H1, rfl, J, turn_zipS (t := t) (sepS _ a la) (Nat.ne_of_lt la), ⟨k1, k2, ⟨_, _, k3⟩, ⟨_, k4, rfl, rfl⟩, ⟨_, k5, rfl, rfl⟩⟩, fun c hc => ?_, q⟩
      have le : s1.heap.objs.size ≤ c := by
        have cs : c = s1.heap.objs.size + 4 ∨ c = s1.heap.objs.size + 2 ∨ c = s1.heap.objs.size + 3 ∨ c = s1.heap.objs.size ∨ c = s1.heap.objs.size + 1 := by simpa using hc
        rcases cs with e | e | e | e | e <;> rw [e] <;> first | exact Nat.le_refl _ | exact Nat.le_add_right _ _
      exact I1.fpOk le (I1.hok.fresh le)
/-- a walk over it -/
theorem walk_zipS {K : PySem.W.Frag} {a : Addr} {x : Str} {xs : List V} : Walk (Itzs K a x) (min xs.length x.cps.size) (fun H => SqL K H a xs) (fun i H v H' => ∃ T y c, v = .ref T ∧ H T = none ∧ H' = upd H T (.tup [y, .str ⟨#[c]⟩]) ∧ xs[i]? = some y ∧ x.cps[i]? = some c) := by
  refine ⟨fun i _ hi q => ⟨xs, xs[i]'(by omega), q, List.getElem?_eq_getElem (by omega), by omega⟩, fun _ q => ⟨xs, q, by omega, by omega, by omega⟩, fun i H v H' _ q y => ?_⟩
  obtain ⟨T, z, c, h1, h2, h3, h4, h5⟩ := y
  exact ⟨T, z, c, h1, h2, h3, h4 xs q, h5⟩
def rep40 (a : Str) : Str := ⟨(List.replicate (40 : Int).toNat a.cps).foldl (· ++ ·) #[]⟩
theorem rep_size (x : Array Nat) : ∀ (n : Nat) (acc : Array Nat), ((List.replicate n x).foldl (· ++ ·) acc).size = acc.size + n * x.size
  | 0, acc => by simp
  | n + 1, acc => by
    rw [List.replicate_succ, List.foldl_cons, rep_size x n, Array.size_append, Nat.add_mul]
    omega
theorem rep40_len (a : Str) : (rep40 a).length = 40 * a.length := by
  have e := rep_size a.cps 40 #[]
  show ((List.replicate 40 a.cps).foldl (· ++ ·) #[]).size = _
  rw [e]
  show 0 + _ = _
  rw [Nat.zero_add]
  rfl
theorem op_rep40 {X : Cx} : OpR X (binaryOp .Mult) (fun x y H Q => ∃ a, x = .str a ∧ y = .int 40 ∧ 1 ≤ a.length ∧ a.length ≤ 1000 ∧ Q (.str (rep40 a)) H) := by
  intro pins s σ H x y v u Q I rx ry h
  obtain ⟨a, rfl, rfl, h1, h2, q⟩ := h
  obtain ⟨t, rfl⟩ := rx
  obtain ⟨t2, rfl⟩ := ry
  have n1 : (((40 : Int) == 1) || a.length == 0) = false := by
    have : (a.length == 0) = false := by
      rw [beq_eq_false_iff_ne]
      omega
    rw [this]
    rfl
  have tl : Builtin.Str.tooLong (a.length * (40 : Int).toNat) = false := by
    have e : (40 : Int).toNat = 40 := rfl
    rw [e]
    exact decide_eq_false (Nat.not_lt.mpr (Nat.le_trans (show a.length * 40 ≤ 40000 by omega) (by decide)))
  refine PySem.P.mul_str (by decide) (fun _ _ => by show ¬ ((a.length : Int) > 230584300921369395); omega) (fun _ _ => tl) ?_
  rw [if_neg (by decide), n1, if_neg Bool.false_ne_true]
  refine ⟨?_, .str _, H, I.tok _, ⟨_, rfl⟩, q⟩
  show (rep40 a).length ≤ sizeLine
  rw [rep40_len]
  exact Nat.le_trans (show _ ≤ 40000 by omega) (by decide)
end L2
namespace Rep
open PySem L2 L2H RepHot
theorem cut_take (xs : List V) (i : Nat) : cutV xs none (some (i : Int)) = xs.take i := by
  unfold cutV
  rw [show HT.sIx xs.length xs.length (some (i : Int)) = min i xs.length from HT.sIx_nat xs.length xs.length i, HT.sIx_none]
  show (xs.take (min i xs.length - 0)) = _
  rw [Nat.sub_zero]
  rcases Nat.le_total i xs.length with h | h
  · rw [Nat.min_eq_left h]
  · rw [Nat.min_eq_right h, List.take_length, List.take_of_length_le h]
variable {Pg : Program} {w : World} {K : PySem.W.Frag} {mg : Str → Option Value} {base : Heap}
theorem cut_drop (xs : List V) (i : Nat) : cutV xs (some (i : Int)) none = xs.drop i := by
  unfold cutV
  rw [show HT.sIx xs.length 0 (some (i : Int)) = min i xs.length from HT.sIx_nat xs.length 0 i, HT.sIx_none]
  show ((xs.drop (min i xs.length)).take (xs.length - min i xs.length)) = _
  rcases Nat.le_total i xs.length with h | h
  · rw [Nat.min_eq_left h]; exact List.take_of_length_le (by rw [List.length_drop]; omega)
  · rw [Nat.min_eq_right h, Nat.sub_self, List.drop_of_length_le h]; rfl
theorem cut_tail (v : V) (l : List V) : cutV (v :: l) (some 1) none = l := cut_drop (v :: l) 1
end Rep
namespace Rep
open PySem L2 L2H RepHot
/-! the law's own reading of an order -/
theorem at0_str {z : Str} (h : z ≠ "") : ∃ c r, z = SX.S (c :: r) ∧ atI z.cps.toList 0 = some c := by
  obtain ⟨l, rfl⟩ : ∃ l, z = SX.S l := ⟨z.cps.toList, (SX.S_tl z).symm⟩
  cases l with
  | nil => exact (h (by decide +kernel)).elim
  | cons c r => exact ⟨c, r, rfl, atI_nat (j := 0) rfl⟩
theorem sign_eq (c : Nat) : (⟨#[c]⟩ : Str) = "0" ↔ c = 48 := by
  constructor
  · intro h
    have := congrArg (fun z : Str => z.cps.toList) h
    have e : ("0" : Str).cps.toList = [48] := by decide +kernel
    rw [e] at this
    simpa using this
  · rintro rfl; decide +kernel
theorem dig_in (c : Nat) : c ∈ ("0123456789" : Str).cps.toList ↔ 48 ≤ c ∧ c ≤ 57 := by
  have e : ("0123456789" : Str).cps.toList = [48, 49, 50, 51, 52, 53, 54, 55, 56, 57] := by decide +kernel
  rw [e]
  simp only [List.mem_cons, List.not_mem_nil, or_false]
  omega
theorem S_nil : SX.S [] = "" := by decide +kernel
theorem S_zero : SX.S [48] = "0" := by decide +kernel
/-- what the law takes for a number -/
theorem num_law {z : Str} : Num z ↔ z ≠ "" ∧ z.length ≤ 40 ∧ (∀ c r, z = SX.S (c :: r) → c = 48 → z = "0") ∧ ∀ c ∈ z.cps.toList, 48 ≤ c ∧ c ≤ 57 := by
  constructor
  · rintro ⟨n, hn, rfl⟩
    refine ⟨fun h => ?_, nS_len hn, fun c r e hc => ?_, fun c hc => ?_⟩
    · rw [nS_S] at h
      exact TL.numL_ne n (congrArg (fun z : Str => z.cps.toList) (h.trans S_nil.symm))
    · rw [nS_S] at e ⊢
      have e : TL.numL n = c :: r := congrArg (fun z : Str => z.cps.toList) e
      rcases Nat.eq_zero_or_pos n with z | z
      · rw [z]; decide +kernel
      · obtain ⟨d, r', e', hd⟩ := num_head n z
        rw [e] at e'
        exact (hd ((List.cons.inj e').1.symm.trans hc)).elim
    · rw [nS_S] at hc
      by_cases h : c < 48 ∨ 57 < c
      · exact (TL.numL_free h hc).elim
      · omega
  · rintro ⟨h1, h2, h3, h4⟩
    obtain ⟨l, rfl⟩ : ∃ l, z = SX.S l := ⟨z.cps.toList, (SX.S_tl z).symm⟩
    rw [SX.S_len] at h2
    cases l with
    | nil => exact (h1 S_nil).elim
    | cons c r =>
      have hh : r.length = 0 ∨ (c :: r).head? ≠ some 48 := by
        by_cases h : c = 48
        · have := h3 c r rfl h
          rw [← S_zero] at this
          have := congrArg (fun z : Str => z.cps.toList) this
          have : c :: r = [48] := this
          cases this
          exact .inl rfl
        · exact .inr fun e => h (Option.some.inj e)
      obtain ⟨n, e, b, _⟩ := num_back r.length (c :: r) rfl h4 hh
      have le : (10 : Nat) ^ (r.length + 1) ≤ 10 ^ 40 := Nat.pow_le_pow_right (by decide) h2
      exact ⟨n, by omega, by rw [nS_S, e]⟩
def spNw : Sp := fun vs H Q _ => ∃ z : Str, vs = [.str z] ∧ z.length ≤ sizeLine ∧ (∀ n : Nat, z = nS n → n < 10 ^ 40 → Q (.int (n : Int)) H) ∧ (¬ Num z → Q .non H)
abbrev nNw : List Str := ["_law_word", "_law_sign"]
theorem scNw_ : FnScope nNw ["_law_word"] (defScope s_law_number_word) := ⟨rfl, rfl, rfl, by decide +kernel, rfl, by decide +kernel, by decide +kernel⟩
structure TNw (mg : Str → Option Value) : Prop where
  ml : mg "len" = none
  mI : mg "int" = none
def Fit1 (k : Nat) (z : Str) : Prop := (k = 110 → Num z) ∧ (k = 116 → Way z)
def Fits : List Str → List Nat → Prop
  | [], [] => True
  | z :: r, k :: ks => Fit1 k z ∧ Fits r ks
  | _, _ => False
theorem fits_iff : ∀ (ws : List Str) (ks : List Nat), Fits ws ks ↔ ws.length = ks.length ∧ ∀ (i : Nat) (z : Str) (k : Nat), ws[i]? = some z → ks[i]? = some k → Fit1 k z
  | [], [] => ⟨fun _ => ⟨rfl, fun i z k h => by simp at h⟩, fun _ => trivial⟩
  | [], k :: ks => ⟨fun h => h.elim, fun h => by simp at h⟩
  | z :: r, [] => ⟨fun h => h.elim, fun h => by simp at h⟩
  | z :: r, k :: ks => by
    show Fit1 k z ∧ Fits r ks ↔ _
    rw [fits_iff r ks]
    constructor
    · rintro ⟨h1, h2, h3⟩
      refine ⟨by simp [h2], fun i y j hy hj => ?_⟩
      cases i with
      | zero => cases hy; cases hj; exact h1
      | succ i => exact h3 i y j (by simpa using hy) (by simpa using hj)
    · rintro ⟨h1, h2⟩
      exact ⟨h2 0 z k rfl rfl, by simpa using h1, fun i y j hy hj => h2 (i + 1) y j (by simpa using hy) (by simpa using hj)⟩
/-- what the law makes of a word -/
def ThV (k : Nat) (z : Str) (v : V) : Prop := (k = 110 ∧ ∃ n : Nat, n < 10 ^ 40 ∧ z = nS n ∧ v = .int (n : Int)) ∨ (k = 116 ∧ ∃ t : Bool, z = wayS t ∧ v = .bl t) ∨ (k ≠ 110 ∧ k ≠ 116 ∧ v = .str z)
theorem ThV.fit {k : Nat} {z : Str} {v : V} (h : ThV k z v) : Fit1 k z := by
  rcases h with ⟨h, n, hn, e, _⟩ | ⟨h, t, e, _⟩ | ⟨h1, h2, _⟩
  · exact ⟨fun _ => ⟨n, hn, e⟩, fun y => by omega⟩
  · exact ⟨fun y => by omega, fun _ => ⟨t, e⟩⟩
  · exact ⟨fun y => (h1 y).elim, fun y => (h2 y).elim⟩
def ThL : List Str → List Nat → List V → Prop
  | [], [], [] => True
  | z :: ws, k :: ks, v :: vs => ThV k z v ∧ ThL ws ks vs
  | _, _, _ => False
theorem thl_of : ∀ (ws : List Str) (ks : List Nat) (vs : List V), ws.length = ks.length → vs.length = ws.length → (∀ (i : Nat) (z : Str) (k : Nat) (v : V), ws[i]? = some z → ks[i]? = some k → vs[i]? = some v → ThV k z v) → ThL ws ks vs
  | [], [], [], _, _, _ => trivial
  | [], [], _ :: _, _, h, _ => by simp at h
  | [], _ :: _, _, h, _, _ => by simp at h
  | _ :: _, [], _, h, _, _ => by simp at h
  | _ :: _, _ :: _, [], _, h, _ => by simp at h
  | z :: ws, k :: ks, v :: vs, h1, h2, h => ⟨h 0 z k v rfl rfl rfl, thl_of ws ks vs (by simpa using h1) (by simpa using h2) fun i z k v a b c => h (i + 1) z k v (by simpa using a) (by simpa using b) (by simpa using c)⟩
def spTh : Sp := fun vs H Q _ => ∃ (a : Addr) (ws : List Str) (ks : Str), vs = [.ref a, .str ks] ∧ H a = some (.lst (ws.map V.str)) ∧ (∀ z ∈ ws, z.length ≤ sizeLine) ∧ ks.length ≤ 10 ∧ (∀ xs, ThL ws ks.cps.toList xs → ∀ H' p, Same H H' → H' p = some (.lst xs) → Q (.ref p) H') ∧ (¬ Fits ws ks.cps.toList → ∀ H', Same H H' → Q .non H')
abbrev nTh : List Str := ["_law_words", "_law_kinds", "_law_found", "_law_word", "_law_kind", "_law_thing"]
theorem scTh_ : FnScope nTh ["_law_words", "_law_kinds"] (defScope s_law_things) := ⟨rfl, rfl, rfl, by decide +kernel, rfl, by decide +kernel, by decide +kernel⟩
structure TTh (Pg : Program) (w : World) (K : PySem.W.Frag) (mg : Str → Option Value) (base : Heap) (fNw : Addr) (fdNw : FuncData) : Prop where
  gNw : FnOk Pg w K mg base CX0 8 fNw fdNw ["_law_word"] spNw
  bNw : Binds K fdNw ["_law_word"] []
  kNw : PySem.W.keepIn K (.ref fNw) = true
  mNw : mg "_law_number_word" = some (.ref fNw)
  ml : mg "len" = none
  mz : mg "zip" = none
theorem sgn_n (c : Nat) : (⟨#[c]⟩ : Str) = "n" ↔ c = 110 := by
  have e : ("n" : Str) = ⟨#[110]⟩ := by decide +kernel
  rw [e]
  exact ⟨fun h => by have := congrArg (fun z : Str => z.cps.toList) h; simpa using this, fun h => by rw [h]⟩
theorem sgn_t (c : Nat) : (⟨#[c]⟩ : Str) = "t" ↔ c = 116 := by
  have e : ("t" : Str) = ⟨#[116]⟩ := by decide +kernel
  rw [e]
  exact ⟨fun h => by have := congrArg (fun z : Str => z.cps.toList) h; simpa using this, fun h => by rw [h]⟩
def AfN (c : Nat) (z : Str) (v : V) : Prop := (c = 110 ∧ ∃ n : Nat, n < 10 ^ 40 ∧ z = nS n ∧ v = .int (n : Int)) ∨ (c = 110 ∧ ¬ Num z ∧ v = .non) ∨ (c ≠ 110 ∧ v = .str z)
def AfT (c : Nat) (z : Str) (v : V) : Prop := (c ≠ 116 ∧ AfN c z v) ∨ (c = 116 ∧ ¬ Way z ∧ v = .non) ∨ (c = 116 ∧ Way z ∧ v = .str z)
def AfA (c : Nat) (z : Str) (v : V) : Prop := (ThV c z v ∧ v ≠ .non) ∨ (¬ Fit1 c z ∧ v = .non)
section
variable {Pg : Program} {w : World} {K : PySem.W.Frag} {mg : Str → Option Value} {base : Heap}
theorem ok_nw {f : Addr} {fd : FuncData} {k : Nat} (F : Fun K "_law_number_word" "_law_number_word" s_law_number_word f fd) (T : TNw mg) : FnOk Pg w K mg base CX0 (k + 1) f fd ["_law_word"] spNw := by
  refine F.ok scNw_ (fun vs H Q E h => ?_) (fun cdv A outer s H vs Q E hr h => ?_)
  · obtain ⟨z, rfl, _⟩ := h; rfl
  obtain ⟨z, rfl, lz, q, qn⟩ := h
  refine ⟨_, (C8.pss_cut (ps_if (PW.pt (pw_or (pt_cmpR op_eq (pv 0) pe_str (nomark _)) (pw_or (pt_cmpR op_gt (pe_callB call_len_str (by rfl) T.ml PySem.boot_len (pa_cons (pv 0) pa_nil)) pe_int (nomark _)) (pw_or1 (PW.pt (pw_and (pt_cmpR op_eq (pe_ix ix_str (pv 0) pe_int (fun _ _ => rfl)) pe_str (nomark _)) (pw_and1 (pt_cmpR op_ne (pv 0) pe_str (nomark _))))))))) (pss_one (ps_ret pe_non)) pss_nil)
    (C8.pss_cut (ps_for PassesOwn.never rfl (pi_str (pv 0)) (pg_name (i := 1) scNw_.nd rfl (.inl rfl))
      (pss_one (ps_if (pt_cmpR op_notIn_sign (pv 1) pe_str (by rfl)) (pss_one (ps_ret pe_non)) pss_nil)))
    (pss_one (ps_ret (pe_callTy call_int_str (by rfl) T.mI PyProof.Rows.boot_int (pa_cons (pv 0) pa_nil)))))), ?_⟩
  refine ⟨fun σ' H1 => z ≠ "" ∧ z.length ≤ 40 ∧ (∀ c r, z = SX.S (c :: r) → c = 48 → z = "0") ∧ σ' = [some (.str z), none] ∧ H1 = H, ?_, ?_⟩
  · refine ⟨.str z, rfl, rfl, _, rfl, ite2 (fun c => ?_) (fun c => ?_)⟩
    · have c : z = "" := V.str.inj (of_decide_eq_true c)
      exact iteT (qn fun h => (num_law.mp h).1 c)
    have c1 : z ≠ "" := fun e => c (by rw [e]; exact decide_eq_true rfl)
    refine ⟨.str z, rfl, z, rfl, lz, _, _, rfl, rfl, _, rfl, ite2 (fun c => ?_) (fun c => ?_)⟩
    · have c : (40 : Int) < (z.length : Int) := of_decide_eq_true c
      exact iteT (qn fun h => by have := (num_law.mp h).2.1; omega)
    have c2 : z.length ≤ 40 := by
      have : ¬ (40 : Int) < (z.length : Int) := fun h => c (decide_eq_true h)
      omega
    obtain ⟨d, r, ez, e0⟩ := at0_str c1
    refine ⟨.str z, rfl, z, 0, d, rfl, rfl, lz, e0, rfl, _, rfl, ite2 (fun c => ?_) (fun c => ?_)⟩
    · have d48 : d = 48 := (sign_eq d).mp (V.str.inj (of_decide_eq_true c))
      refine ⟨.str z, rfl, rfl, _, rfl, ite2 (fun c => ?_) (fun c => ?_)⟩
      · have c : z ≠ "0" := fun e => by rw [e] at c; exact absurd c (by decide +kernel)
        exact qn fun h => c ((num_law.mp h).2.2.1 d r ez d48)
      · have c : z = "0" := by
          by_cases e : z = "0"
          · exact e
          · exact (c (by simpa using e)).elim
        exact ⟨c1, c2, fun _ _ _ _ => c, rfl, rfl⟩
    · have d48 : d ≠ 48 := fun e => c (decide_eq_true (by rw [(sign_eq d).mpr e]))
      refine iteF ⟨c1, c2, fun c r' e h => ?_, rfl, rfl⟩
      rw [ez] at e
      have : d :: r = c :: r' := congrArg (fun z : Str => z.cps.toList) e
      cases this
      exact (d48 h).elim
  rintro σ' H1 ⟨c1, c2, c3, rfl, eH⟩
  subst eH
  refine ⟨fun σ' H2 => Num z ∧ (∃ y1, σ' = [some (.str z), y1]) ∧ H2 = H1, ?_, ?_⟩
  · refine ⟨.str z, rfl, z, rfl, for_it (walk_str (z := z)) (fun i σ' H2 => (∀ j c, j < i → z.cps[j]? = some c → 48 ≤ c ∧ c ≤ 57) ∧ (∃ y1, σ' = [some (.str z), y1]) ∧ H2 = H1) ⟨fun j c hj => (Nat.not_lt_zero j hj).elim, ⟨none, rfl⟩, rfl⟩ (fun _ _ _ _ _ => trivial) (fun i v σ' H2 H2' hi hP hy => ?_) (fun σ' H2 hP => ?_)⟩
    · obtain ⟨hd, ⟨y1, rfl⟩, e2⟩ := hP
      subst e2
      obtain ⟨eH, c, hc, rfl⟩ := hy
      subst eH
      refine ⟨.str ⟨#[c]⟩, rfl, c, "0123456789", rfl, rfl, _, rfl, ite2 (fun t => ?_) (fun t => ?_)⟩
      · refine qn fun h => ?_
        have hm : c ∈ z.cps.toList := by
          have := Array.mem_of_getElem? hc
          simpa using this
        have := (dig_in c).mpr ((num_law.mp h).2.2.2 c hm)
        rw [decide_eq_true this] at t
        exact absurd t (by decide)
      · have hm : 48 ≤ c ∧ c ≤ 57 := (dig_in c).mp (by
          by_cases e : c ∈ ("0123456789" : Str).cps.toList
          · exact e
          · rw [decide_eq_false e] at t; exact (t rfl).elim)
        refine ⟨fun j d hj hd' => ?_, ⟨_, rfl⟩, rfl⟩
        rcases Nat.lt_or_ge j i with l | l
        · exact hd j d l hd'
        · obtain rfl : j = i := by omega
          rw [hc] at hd'
          cases hd'
          exact hm
    · obtain ⟨hd, y, e2⟩ := hP
      refine ⟨num_law.mpr ⟨c1, c2, c3, fun c hc => ?_⟩, y, e2⟩
      obtain ⟨j, hj⟩ := List.getElem?_of_mem hc
      have hj' : z.cps[j]? = some c := by simpa using hj
      exact hd j c (Array.getElem?_eq_some_iff.mp hj').1 hj'
  rintro σ' H2 ⟨⟨n, hn, e⟩, ⟨y1, rfl⟩, eH⟩
  subst eH
  exact ⟨.str z, rfl, z, n, rfl, by rw [e]; exact nS_int hn, by omega, q n e hn⟩
theorem ok_th {f fNw : Addr} {fd fdNw : FuncData} (F : Fun K "_law_things" "_law_things" s_law_things f fd) (T : TTh Pg w K mg base fNw fdNw) : FnOk Pg w K mg base CX0 9 f fd ["_law_words", "_law_kinds"] spTh := by
  refine F.ok scTh_ (fun vs H Q E h => ?_) (fun cdv A outer s H vs Q E hr h => ?_)
  · obtain ⟨a, ws, ks, rfl, _⟩ := h; rfl
  obtain ⟨a, ws, ks, rfl, ea, wz, lk, q, qn⟩ := h
  have r8 : Room 8 _ := hr
  refine ⟨_, (C8.pss_cut (ps_if (pt_cmpR op_ne (pe_callB call_len_seq (by rfl) T.ml PySem.boot_len (pa_cons (pv 0) pa_nil)) (pe_callB call_len_str (by rfl) T.ml PySem.boot_len (pa_cons (pv 1) pa_nil)) (nomark _)) (pss_one (ps_ret pe_non)) pss_nil)
    (C8.pss_cut (ps_set (i := 2) scTh_.nd rfl (.inl rfl) (pe_lst pa_nil))
    (C8.pss_cut (ps_for PassesOwn.never rfl (pi_zipS (by rfl) T.mz (pa_cons (pv 0) (pa_cons (pv 1) pa_nil))) (pg_tup rfl (pgs_cons (pg_name (i := 3) scTh_.nd rfl (.inl rfl)) (pgs_cons (pg_name (i := 4) scTh_.nd rfl (.inl rfl)) pgs_nil)))
      (C8.pss_cut (ps_set (i := 5) scTh_.nd rfl (.inl rfl) (pv 3))
    (C8.pss_cut (ps_if (pt_cmpR op_eq (pv 4) pe_str (nomark _)) (pss_one (ps_set (i := 5) scTh_.nd rfl (.inl rfl) (pe_call T.gNw r8 (by rfl) T.mNw T.kNw T.bNw .nil pass0 (pa_cons (pv 3) pa_nil)))) pss_nil)
    (C8.pss_cut (ps_if (PW.pt (pw_and (pt_cmpR op_eq (pv 4) pe_str (nomark _)) (pw_and1 (pt_cmpR op_notIn_seq (pv 3) (pe_tup (pa_cons pe_str (pa_cons pe_str pa_nil))) (by rfl))))) (pss_one (ps_set (i := 5) scTh_.nd rfl (.inl rfl) pe_non)) pss_nil)
    (C8.pss_cut (ps_if (PW.pt (pw_and (pt_cmpR op_eq (pv 4) pe_str (nomark _)) (pw_and1 (pt_cmpR op_notN (pv 5) pe_non (nomark _))))) (pss_one (ps_set (i := 5) scTh_.nd rfl (.inl rfl) (pe_cmpR op_eq (pv 3) pe_str (nomark _)))) pss_nil)
    (C8.pss_cut (ps_if (pt_cmpR op_isN (pv 5) pe_non (nomark _)) (pss_one (ps_ret pe_non)) pss_nil)
    (pss_one (ps_expr (pe_bm PySem.F.plainAttrs_list PySem.F.slot_list_append PySem.F.type_list_append mt_append (pv 2) (pa_cons (pv 5) pa_nil))))))))))
    (pss_one (ps_ret (pv 2)))))), ?_⟩
  have ksl : ks.cps.toList.length = ks.length := rfl
  refine ⟨fun σ' H1 => ws.length = ks.length ∧ σ' = [some (.ref a), some (.str ks), none, none, none, none] ∧ H1 = H, ?_, ?_⟩
  · refine ⟨.ref a, rfl, a, ws.map V.str, rfl, .inl (.inl (.inl ea)), .str ks, rfl, ks, rfl, Nat.le_trans lk (by decide), rfl, _, rfl, ite2 (fun c => ?_) (fun c => ?_)⟩
    · refine qn (fun h => ?_) _ (Same.refl _)
      have := ((fits_iff _ _).mp h).1
      rw [ksl] at this
      simp [this] at c
    · refine ⟨?_, rfl, rfl⟩
      simp at c
      omega
  rintro σ' H1 ⟨el, rfl, eH⟩
  subst eH
  refine ⟨fun σ' H2 => ∃ l, σ' = [some (.ref a), some (.str ks), some (.ref l), none, none, none] ∧ Same H1 H2 ∧ H1 l = none ∧ H2 l = some (.lst []), ?_, ?_⟩
  · refine ⟨szN 0 rfl, fun l nl => ?_⟩
    exact ⟨l, rfl, same_upd nl, nl, upd_same⟩
  rintro σ' H2 ⟨l, rfl, s2, nl, el2⟩
  have mn : min (ws.map V.str).length ks.cps.size = ws.length := by
    have e : ks.cps.size = ks.length := rfl
    rw [List.length_map, e]; omega
  refine ⟨fun σ' H3 => (∃ y3 y4 y5, σ' = [some (.ref a), some (.str ks), some (.ref l), y3, y4, y5]) ∧ Same H1 H3 ∧ ∃ xs, H3 l = some (.lst xs) ∧ xs.length = ws.length ∧ ∀ (j : Nat) (z : Str) (k : Nat) (v : V), ws[j]? = some z → ks.cps[j]? = some k → xs[j]? = some v → ThV k z v, ?_, ?_⟩
  · refine ⟨.ref a, rfl, .str ks, rfl, a, ks, _, rfl, .inl (.inl (s2 _ _ ea)), for_it (walk_zipS (xs := ws.map V.str) (x := ks)) (fun i σ' H3 => (∃ y3 y4 y5, σ' = [some (.ref a), some (.str ks), some (.ref l), y3, y4, y5]) ∧ Same H1 H3 ∧ (∃ xs, H3 l = some (.lst xs) ∧ xs.length = i ∧ ∀ (j : Nat) (z : Str) (k : Nat) (v : V), ws[j]? = some z → ks.cps[j]? = some k → xs[j]? = some v → ThV k z v) ∧ ∀ (j : Nat) (z : Str) (k : Nat), j < i → ws[j]? = some z → ks.cps[j]? = some k → Fit1 k z) ⟨⟨none, none, none, rfl⟩, s2, ⟨_, el2, rfl, fun j z k v _ _ h => by simp at h⟩, fun j z k hj => (Nat.not_lt_zero j hj).elim⟩ (fun i σ' H3 _ hP => .inl (.inl (hP.2.1 _ _ ea))) (fun i v σ' H3 H3' hi hP hy => ?_) (fun σ' H3 hP => ?_)⟩
    · obtain ⟨⟨y3, y4, y5, rfl⟩, sm, ⟨xs, exs, lx, hxs⟩, hf⟩ := hP
      rw [mn] at hi
      obtain ⟨T0, y, c, rfl, nT, rfl, hz0, hc⟩ := hy
      rw [List.getElem?_map] at hz0
      obtain ⟨z, hz, rfl⟩ := Option.map_eq_some_iff.mp hz0
      clear hz0
      have sT := same_upd (o := .tup [V.str z, V.str ⟨#[c]⟩]) nT
      refine ⟨T0, _, rfl, .inl (.inl upd_same), rfl, _, _, rfl, _, _, rfl, rfl, ?_⟩
      have sm1 := sm.trans sT
      have exs1 := sT _ _ exs
      generalize upd H3 T0 (.tup [V.str z, V.str ⟨#[c]⟩]) = H4 at sm1 exs1 ⊢
      have fin : (∀ (j : Nat) (y : Str) (k : Nat), j < i + 1 → ws[j]? = some y → ks.cps[j]? = some k → Fit1 k y) ↔ Fit1 c z := by
        constructor
        · exact fun h => h i z c (Nat.lt_succ_self i) hz hc
        · intro h j y k hj hy hk
          rcases Nat.lt_or_ge j i with lt | ge
          · exact hf j y k lt hy hk
          · obtain rfl : j = i := by omega
            rw [hz] at hy; rw [hc] at hk
            cases hy; cases hk
            exact h
      have bad : ¬ Fit1 c z → ¬ Fits ws ks.cps.toList := fun h x => h (((fits_iff _ _).mp x).2 i z c hz (by simpa using hc))
      have lz := wz z (List.mem_of_getElem? hz)
      refine ⟨fun σ' H5 => σ' = [some (.ref a), some (.str ks), some (.ref l), some (.str z), some (.str ⟨#[c]⟩), some (.str z)] ∧ H5 = H4, ⟨.str z, rfl, rfl, rfl⟩, ?_⟩
      rintro σ' H5 ⟨rfl, eH⟩
      subst eH
      refine ⟨fun σ' H6 => (∃ v, σ' = [some (.ref a), some (.str ks), some (.ref l), some (.str z), some (.str ⟨#[c]⟩), some v] ∧ AfN c z v) ∧ H6 = H5, ?_, ?_⟩
      · refine ⟨.str ⟨#[c]⟩, rfl, rfl, _, rfl, ite2 (fun t => ?_) (fun t => ?_)⟩
        · have c1 : c = 110 := (sgn_n c).mp (V.str.inj (of_decide_eq_true t))
          refine ⟨.str z, rfl, z, rfl, lz, fun n e hn => ⟨⟨_, rfl, .inl ⟨c1, n, hn, e, rfl⟩⟩, rfl⟩, fun h => ⟨⟨_, rfl, .inr (.inl ⟨c1, h, rfl⟩)⟩, rfl⟩⟩
        · have c1 : c ≠ 110 := fun e => t (decide_eq_true (by rw [(sgn_n c).mpr e]))
          exact ⟨⟨_, rfl, .inr (.inr ⟨c1, rfl⟩)⟩, rfl⟩
      rintro σ' H6 ⟨⟨v1, rfl, a1⟩, eH⟩
      subst eH
      refine ⟨fun σ' H7 => (∃ v, σ' = [some (.ref a), some (.str ks), some (.ref l), some (.str z), some (.str ⟨#[c]⟩), some v] ∧ AfT c z v) ∧ Same H6 H7, ?_, ?_⟩
      · refine ⟨.str ⟨#[c]⟩, rfl, rfl, _, rfl, ite2 (fun t => ?_) (fun t => ?_)⟩
        · have c1 : c = 116 := (sgn_t c).mp (V.str.inj (of_decide_eq_true t))
          refine ⟨.str z, rfl, (by show 2 ≤ sizeLine; decide), fun p np => ?_⟩
          refine ⟨p, _, rfl, .inr (.inl (.inl upd_same)), rfl, rfl, _, rfl, ?_⟩
          have sp := same_upd (o := HO.tup [V.str "straight", V.str "turned"]) np
          cases hw : inV (V.str z) [V.str "straight", V.str "turned"] with
          | false => exact iteT ⟨⟨_, rfl, .inr (.inl ⟨c1, ⟨(fun y => by rw [(way_in z).mpr y] at hw; exact absurd hw (by decide)), rfl⟩⟩)⟩, sp⟩
          | true =>
            have vz : v1 = .str z := by
              rcases a1 with ⟨h, _⟩ | ⟨h, _⟩ | ⟨_, h⟩
              · omega
              · omega
              · exact h
            exact iteF ⟨⟨_, rfl, .inr (.inr ⟨c1, (way_in z).mp hw, vz⟩)⟩, sp⟩
        · have c1 : c ≠ 116 := fun e => t (decide_eq_true (by rw [(sgn_t c).mpr e]))
          exact iteF ⟨⟨_, rfl, .inl ⟨c1, a1⟩⟩, Same.refl _⟩
      rintro σ' H7 ⟨⟨v2, rfl, a2⟩, s7⟩
      refine ⟨fun σ' H8 => (∃ v, σ' = [some (.ref a), some (.str ks), some (.ref l), some (.str z), some (.str ⟨#[c]⟩), some v] ∧ AfA c z v) ∧ H8 = H7, ?_, ?_⟩
      · refine ⟨.str ⟨#[c]⟩, rfl, rfl, _, rfl, ite2 (fun t => ?_) (fun t => ?_)⟩
        · have c1 : c = 116 := (sgn_t c).mp (V.str.inj (of_decide_eq_true t))
          refine ⟨v2, rfl, rfl, _, rfl, ite2 (fun t2 => ?_) (fun t2 => ?_)⟩
          · refine ⟨.str z, rfl, rfl, ⟨_, rfl, ?_⟩, rfl⟩
            rcases a2 with ⟨h, _⟩ | ⟨_, _, h⟩ | ⟨_, ⟨t, et⟩, _⟩
            · exact (h c1).elim
            · rw [h] at t2; simp at t2
            · refine .inl ⟨.inr (.inl ⟨c1, t, et, ?_⟩), fun z => nomatch z⟩
              rw [et]
              cases t <;> decide +kernel
          · refine ⟨⟨_, rfl, ?_⟩, rfl⟩
            have v0 : v2 = .non := by
              by_cases e : v2 = .non
              · exact e
              · exact (t2 (by simpa using e)).elim
            rcases a2 with ⟨h, _⟩ | ⟨_, h, _⟩ | ⟨_, _, h⟩
            · exact (h c1).elim
            · exact .inr ⟨fun f => h (f.2 c1), v0⟩
            · rw [h] at v0; cases v0
        · have c1 : c ≠ 116 := fun e => t (decide_eq_true (by rw [(sgn_t c).mpr e]))
          refine iteF ⟨⟨_, rfl, ?_⟩, rfl⟩
          rcases a2 with ⟨_, h⟩ | ⟨h, _⟩ | ⟨h, _⟩
          · rcases h with ⟨h0, n, hn, h1, h2⟩ | ⟨h0, h1, h2⟩ | ⟨h1, h2⟩
            · exact .inl ⟨.inl ⟨h0, n, hn, h1, h2⟩, by rw [h2]; exact fun z => nomatch z⟩
            · exact .inr ⟨fun f => h1 (f.1 h0), h2⟩
            · exact .inl ⟨.inr (.inr ⟨h1, c1, h2⟩), by rw [h2]; exact fun z => nomatch z⟩
          · exact (c1 h).elim
          · exact (c1 h).elim
      rintro σ' H8 ⟨⟨v3, rfl, a3⟩, eH⟩
      subst eH
      have sm8 := sm1.trans s7
      refine ⟨fun σ' H9 => σ' = [some (.ref a), some (.str ks), some (.ref l), some (.str z), some (.str ⟨#[c]⟩), some v3] ∧ H9 = H8 ∧ ThV c z v3, ?_, ?_⟩
      · refine ⟨v3, rfl, rfl, _, rfl, ite2 (fun t => ?_) (fun t => ?_)⟩
        · have t : v3 = .non := by simpa using t
          rcases a3 with ⟨_, h⟩ | ⟨h, _⟩
          · exact (h t).elim
          · exact qn (bad h) _ sm8
        · rcases a3 with ⟨h, _⟩ | ⟨_, h⟩
          · exact ⟨rfl, rfl, h⟩
          · exact (t (by rw [h]; simp)).elim
      rintro σ' H9 ⟨rfl, eH, ft⟩
      subst eH
      have lw := el
      refine ⟨.ref l, rfl, .inl ⟨rfl, _, .inl (.inl (s7 _ _ exs1))⟩, v3, rfl, l, xs, v3, rfl, rfl, s7 _ _ exs1, ?_, ?_⟩
      · have : xs.length ≤ 10 := by omega
        exact Nat.lt_of_le_of_lt this (by decide)
      · refine ⟨⟨_, _, _, rfl⟩, same_over sm8 nl, ⟨xs ++ [v3], upd_same, by rw [List.length_append, lx]; rfl, fun j y k u hy hk hu => ?_⟩, fin.mpr ft.fit⟩
        by_cases hj : j < xs.length
        · rw [List.getElem?_append_left hj] at hu
          exact hxs j y k u hy hk hu
        · rw [List.getElem?_append_right (by omega)] at hu
          have j0 : j - xs.length = 0 := by
            have := (List.getElem?_eq_some_iff.mp hu).1
            have : j - xs.length < 1 := this
            omega
          obtain rfl : j = i := by omega
          rw [j0] at hu
          cases hu
          rw [hz] at hy; rw [hc] at hk
          cases hy; cases hk
          exact ft
    · obtain ⟨y, sm, ⟨xs, exs, lx, hxs⟩, _⟩ := hP
      rw [mn] at lx
      exact ⟨y, sm, xs, exs, lx, hxs⟩
  rintro σ' H3 ⟨⟨y3, y4, y5, rfl⟩, sm, xs, exs, lx, hxs⟩
  exact ⟨.ref l, rfl, q xs (thl_of _ _ _ (by rw [ksl]; exact el) lx fun i z k v hz hk hv => hxs i z k v hz (by simpa using hk) hv) _ l sm exs⟩
end
end Rep
namespace Rep
open PySem L2 L2H RepHot
/-! spoilt texts: how long they get -/
def tot (ws : List Str) : Nat := (ws.map (·.length)).sum + ws.length
theorem tot_app (a b : List Str) : tot (a ++ b) = tot a + tot b := by
  unfold tot
  rw [List.map_append, List.sum_append, List.length_append]; omega
theorem tot_cons (z : Str) (b : List Str) : tot (z :: b) = z.length + 1 + tot b := by
  unfold tot
  rw [List.map_cons, List.sum_cons, List.length_cons]; omega
theorem tot_td (ws : List Str) (i : Nat) : tot (ws.take i) + tot (ws.drop i) = tot ws := by
  rw [← tot_app, List.take_append_drop]
theorem tot_drop (ws : List Str) (i : Nat) : tot (ws.drop (i + 1)) ≤ tot (ws.drop i) := by
  have := tot_td (ws.drop i) 1
  rw [List.drop_drop] at this
  rw [show i + 1 = i + 1 from rfl]
  omega
theorem tot_mem {ws : List Str} {z : Str} (h : z ∈ ws) : z.length + 1 ≤ tot ws := by
  induction ws with
  | nil => cases h
  | cons a r ih =>
    rw [tot_cons]
    rcases List.mem_cons.mp h with rfl | h
    · omega
    · have := ih h
      omega
theorem tot_set (ws : List Str) (y : Str) : ∀ i, tot (ws.set i y) ≤ tot ws + y.length := by
  induction ws with
  | nil => intro i; simp [tot]
  | cons a r ih =>
    intro i
    cases i with
    | zero => rw [List.set_cons_zero, tot_cons, tot_cons]; omega
    | succ i => rw [List.set_cons_succ, tot_cons, tot_cons]; have := ih i; omega
theorem tot_len (ws : List Str) : ws.length ≤ tot ws := Nat.le_add_left _ _
theorem join_Sc (c : Nat) (ws : List Str) : Txt.join (SX.S [c]) ws = SX.S (TL.joinL [c] (ws.map fun z => z.cps.toList)) := by
  have e : ws = (ws.map fun z => z.cps.toList).map SX.S := by
    rw [List.map_map]
    exact (List.map_id ws).symm.trans (List.map_congr_left fun z _ => (SX.S_tl z).symm)
  conv => lhs; rw [e]
  exact SX.join_S _ _
theorem len_map (ws : List Str) : ((ws.map fun z => z.cps.toList).map List.length) = ws.map (·.length) := by
  rw [List.map_map]
  exact List.map_congr_left fun z _ => by simp [Str.length]
theorem joinc_len {c : Nat} {y : Str} (hy : y = SX.S [c]) (ws : List Str) : (Txt.join y ws).length ≤ tot ws := by
  rw [hy, join_Sc, SX.S_len]
  have := joinL_len [c] (ws.map fun z => z.cps.toList)
  rw [len_map, List.length_map] at this
  unfold tot
  simpa using this
theorem joinL_ex (c : Nat) : ∀ l : List (List Nat), l ≠ [] → (TL.joinL [c] l).length + 1 = (l.map List.length).sum + l.length
  | [], h => (h rfl).elim
  | [p], _ => by show p.length + 1 = p.length + 0 + 1; omega
  | p :: q :: r, _ => by
    have ih := joinL_ex c (q :: r) (by simp)
    show (p ++ ([c] ++ TL.joinL [c] (q :: r))).length + 1 = _
    rw [List.length_append, List.length_append]
    simp only [List.map_cons, List.sum_cons, List.length_cons, List.length_nil] at ih ⊢
    omega
theorem Spt.tot {c : Nat} {x : Str} {ws : List Str} (h : Spt c x ws) : tot ws = x.length + 1 := by
  have e := congrArg (fun z : Str => z.length) h.bk
  have e : x.length = (TL.joinL [c] (ws.map fun z => z.cps.toList)).length := by rw [← SX.S_len]; exact e
  have := joinL_ex c (ws.map fun z => z.cps.toList) (by simpa using h.ne)
  rw [len_map, List.length_map] at this
  unfold Rep.tot
  omega
theorem at_modS {ws : List Str} {r : Int} (h0 : 0 ≤ r) (h1 : r < (ws.length : Int)) : ∃ z, atI (ws.map V.str) r = some (.str z) ∧ z ∈ ws := by
  obtain ⟨n, rfl⟩ : ∃ n : Nat, r = (n : Int) := ⟨r.toNat, (Int.toNat_of_nonneg h0).symm⟩
  have hn : n < ws.length := by omega
  exact ⟨ws[n], atI_nat (by rw [List.getElem?_map, List.getElem?_eq_getElem hn]; rfl), List.getElem_mem hn⟩
theorem at_sgn {z : Str} {r : Int} (h0 : 0 ≤ r) (h1 : r < (z.length : Int)) : ∃ c, atI z.cps.toList r = some c := by
  obtain ⟨n, rfl⟩ : ∃ n : Nat, r = (n : Int) := ⟨r.toNat, (Int.toNat_of_nonneg h0).symm⟩
  have hn : n < z.cps.toList.length := by have e : z.cps.toList.length = z.length := rfl; omega
  exact ⟨z.cps.toList[n], atI_nat (List.getElem?_eq_getElem hn)⟩
theorem ix_of {n : Nat} {r : Int} (h0 : 0 ≤ r) (h1 : r < (n : Int)) : ixN n r = some r.toNat := by
  unfold ixN
  rw [if_pos h0, if_pos h1]
theorem cut_tk (ws : List Str) {r : Int} (h0 : 0 ≤ r) : cutV (ws.map V.str) none (some r) = (ws.take r.toNat).map V.str := by
  rw [show r = ((r.toNat : Nat) : Int) from (Int.toNat_of_nonneg h0).symm, cut_take, List.map_take]; rfl
theorem cut_dr (ws : List Str) {r : Int} (h0 : 0 ≤ r) : cutV (ws.map V.str) (some r) none = (ws.drop r.toNat).map V.str := by
  rw [show r = ((r.toNat : Nat) : Int) from (Int.toNat_of_nonneg h0).symm, cut_drop, List.map_drop]; rfl
theorem set_map (ws : List Str) (j : Nat) (y : Str) : (ws.map V.str).set j (.str y) = (ws.set j y).map V.str := by rw [List.map_set]
theorem ap_len' (a b : Str) : (a ++ b).length = a.length + b.length := ap_len a b
theorem sg_len (c : Nat) : (⟨#[c]⟩ : Str).length = 1 := rfl
def sg0 : Str := " 0123456789azq-\nST"
theorem fitB {n : Nat} (h : n ≤ 1000000) : n ≤ sizeLine := Nat.le_trans h (by decide)
def spSpl (K : PySem.W.Frag) : Sp := fun vs H Q _ => ∃ (a : Addr) (ns : List Int) (k : Int) (x : Str), vs = [.ref a, .int k, .str x] ∧ SqL K H a (ns.map V.int) ∧ ns.length ≤ 63 ∧ x.length ≤ 199000 ∧ ∀ H' y, Same H H' → y.length ≤ 5 * x.length + 300 → Q (.str y) H'
abbrev nSpl : List Str := ["_law_script", "_law_k", "_law_text", "_law_way", "_law_at", "_law_raw_here", "_law_word", "_law_signs", "_law_sign", "_law_place", "_law_rows", "_law_row", "_law_words", "_law_spot", "_law_other", "_law_some"]
theorem scSpl : FnScope nSpl ["_law_script", "_law_k", "_law_text"] (defScope s_law_spoilt_text) := ⟨rfl, rfl, rfl, by decide +kernel, rfl, by decide +kernel, by decide +kernel⟩
structure TSpl (Pg : Program) (w : World) (K : PySem.W.Frag) (mg : Str → Option Value) (base : Heap) (fD : Addr) (fdD : FuncData) : Prop where
  gD : FnOk Pg w K mg base CX0 7 fD fdD ["_law_script", "_law_k", "_law_sizes"] (spDig K)
  bD : Binds K fdD ["_law_script", "_law_k", "_law_sizes"] []
  kD : PySem.W.keepIn K (.ref fD) = true
  mD : mg "_law_digits" = some (.ref fD)
  ml : mg "len" = none
theorem p6 : CPow 10 6 := ⟨by decide, by decide, by decide⟩
section
variable {Pg : Program} {w : World} {K : PySem.W.Frag} {mg : Str → Option Value} {base : Heap}
theorem ok_spl {f fD : Addr} {fd fdD : FuncData} (F : Fun K "_law_spoilt_text" "_law_spoilt_text" s_law_spoilt_text f fd) (T : TSpl Pg w K mg base fD fdD) : FnOk Pg w K mg base CX0 8 f fd ["_law_script", "_law_k", "_law_text"] (spSpl K) := by
  refine F.ok scSpl (fun vs H Q E h => ?_) (fun cdv A outer s H vs Q E hr h => ?_)
  · obtain ⟨a, ns, z, x, rfl, _⟩ := h; rfl
  obtain ⟨a, ns, z, x, rfl, hS, h63, lx, q⟩ := h
  have r7 : Room 7 _ := hr
  have lxs : x.length ≤ sizeLine := Nat.le_trans lx (by decide)
  refine ⟨_, (C8.pss_cut (ps_asg (pe_call T.gD r7 (by rfl) T.mD T.kD T.bD .nil pass0 (pa_cons (pv 0) (pa_cons (pv 1) (pa_cons (pe_lst (pa_cons pe_int (pa_cons (pe_op op_pow pe_int pe_int) (pa_cons (pe_op op_pow pe_int pe_int) (pa_cons pe_int pa_nil))))) pa_nil)))) (pg_lst rfl (pgs_cons (pg_name (i := 3) scSpl.nd rfl (.inl rfl)) (pgs_cons (pg_name (i := 4) scSpl.nd rfl (.inl rfl)) (pgs_cons (pg_name (i := 5) scSpl.nd rfl (.inl rfl)) (pgs_cons (pg_name (i := 6) scSpl.nd rfl (.inl rfl)) pgs_nil))))))
    (C8.pss_cut (ps_set (i := 7) scSpl.nd rfl (.inl rfl) pe_str)
    (C8.pss_cut (ps_set (i := 8) scSpl.nd rfl (.inl rfl) (pe_ix ix_str (pv 7) (pe_op op_mod (pv 5) (pe_callB call_len_str (by rfl) T.ml PySem.boot_len (pa_cons (pv 7) pa_nil))) (fun _ _ => rfl)))
    (C8.pss_cut (ps_set (i := 9) scSpl.nd rfl (.inl rfl) (pe_op op_mod (pv 4) (pe_op op_add (pe_callB call_len_str (by rfl) T.ml PySem.boot_len (pa_cons (pv 2) pa_nil)) pe_int)))
    (C8.pss_cut (ps_if (pt_cmpR op_eq (pv 3) pe_int (nomark _)) (pss_one (ps_ret (pe_op op_add_str (pe_op op_add_str (pe_slice sl_str (pv 2) po_none (po_some (pv 9))) (pv 8)) (pe_slice sl_str (pv 2) (po_some (pv 9)) po_none)))) pss_nil)
    (C8.pss_cut (ps_if (pt_cmpR op_eq (pv 3) pe_int (nomark _)) (pss_one (ps_ret (pe_op op_add_str (pe_slice sl_str (pv 2) po_none (po_some (pv 9))) (pe_slice sl_str (pv 2) (po_some (pe_op op_add (pv 9) pe_int)) po_none)))) pss_nil)
    (C8.pss_cut (ps_if (pt_cmpR op_eq (pv 3) pe_int (nomark _)) (pss_one (ps_ret (pe_op op_add_str (pe_op op_add_str (pe_slice sl_str (pv 2) po_none (po_some (pv 9))) (pv 8)) (pe_slice sl_str (pv 2) (po_some (pe_op op_add (pv 9) pe_int)) po_none)))) pss_nil)
    (C8.pss_cut (ps_if (pt_cmpR op_eq (pv 3) pe_int (nomark _)) (pss_one (ps_ret (pe_op op_add_str (pv 2) (pe_ix ix_list (pe_lst (pa_cons pe_str (pa_cons pe_str (pa_cons pe_str (pa_cons pe_str pa_nil))))) (pe_op op_mod (pv 5) pe_int) (fun _ _ => rfl))))) pss_nil)
    (C8.pss_cut (ps_set (i := 10) scSpl.nd rfl (.inl rfl) (pe_split (pv 2) pe_str))
    (C8.pss_cut (ps_set (i := 11) scSpl.nd rfl (.inl rfl) (pe_op op_mod (pv 4) (pe_callB call_len_seq (by rfl) T.ml PySem.boot_len (pa_cons (pv 10) pa_nil))))
    (C8.pss_cut (ps_set (i := 12) scSpl.nd rfl (.inl rfl) (pe_split (pe_ix ix_list (pv 10) (pv 11) (fun _ _ => rfl)) pe_str))
    (C8.pss_cut (ps_set (i := 13) scSpl.nd rfl (.inl rfl) (pe_op op_mod (pv 5) (pe_callB call_len_seq (by rfl) T.ml PySem.boot_len (pa_cons (pv 12) pa_nil))))
    (C8.pss_cut (ps_if (pt_cmpR op_eq (pv 3) pe_int (nomark _)) (pss_one (ps_set (i := 10) scSpl.nd rfl (.inl rfl) (pe_op op_cat (pe_slice sl_list (pv 10) po_none (po_some (pv 11))) (pe_slice sl_list (pv 10) (po_some (pe_op op_add (pv 11) pe_int)) po_none)))) (pss_one (ps_if (pt_cmpR op_eq (pv 3) pe_int (nomark _)) (pss_one (ps_set (i := 10) scSpl.nd rfl (.inl rfl) (pe_op op_cat (pe_op op_cat (pe_slice sl_list (pv 10) po_none (po_some (pv 11))) (pe_lst (pa_cons (pe_ix ix_list (pv 10) (pe_op op_mod (pv 5) (pe_callB call_len_seq (by rfl) T.ml PySem.boot_len (pa_cons (pv 10) pa_nil))) (fun _ _ => rfl)) pa_nil))) (pe_slice sl_list (pv 10) (po_some (pv 11)) po_none)))) (pss_one (ps_if (pt_cmpR op_eq (pv 3) pe_int (nomark _)) (pss_cons (ps_set (i := 14) scSpl.nd rfl (.inl rfl) (pe_op op_mod (pv 5) (pe_callB call_len_seq (by rfl) T.ml PySem.boot_len (pa_cons (pv 10) pa_nil))))
    (pss_one (ps_asg (pe_tup (pa_cons (pe_ix ix_list (pv 10) (pv 14) (fun _ _ => rfl)) (pa_cons (pe_ix ix_list (pv 10) (pv 11) (fun _ _ => rfl)) pa_nil))) (pg_tup rfl (pgs_cons (pg_sub (pv 10) (pv 11) set_list) (pgs_cons (pg_sub (pv 10) (pv 14) set_list) pgs_nil)))))) (pss_one (ps_if (pt_cmpR op_eq (pv 3) pe_int (nomark _)) (pss_one (ps_asg (pe_join pe_str (pe_op op_cat (pe_slice sl_list (pv 12) po_none (po_some (pv 13))) (pe_slice sl_list (pv 12) (po_some (pe_op op_add (pv 13) pe_int)) po_none))) (pg_sub (pv 10) (pv 11) set_list))) (pss_one (ps_if (pt_cmpR op_eq (pv 3) pe_int (nomark _)) (pss_one (ps_asg (pe_join pe_str (pe_op op_cat (pe_op op_cat (pe_slice sl_list (pv 12) po_none (po_some (pv 13))) (pe_lst (pa_cons (pe_ix ix_list (pv 12) (pv 13) (fun _ _ => rfl)) (pa_cons (pe_ix ix_list (pv 12) (pv 13) (fun _ _ => rfl)) pa_nil)))) (pe_slice sl_list (pv 12) (po_some (pe_op op_add (pv 13) pe_int)) po_none))) (pg_sub (pv 10) (pv 11) set_list))) (pss_cons (ps_set (i := 15) scSpl.nd rfl (.inl rfl) (pe_lst (pa_cons pe_str (pa_cons pe_str (pa_cons pe_str (pa_cons pe_str (pa_cons pe_str (pa_cons pe_str (pa_cons pe_str (pa_cons (pe_op op_add_str pe_str (pe_op op_rep40 pe_str pe_int)) (pa_cons (pe_op op_rep40 pe_str pe_int) (pa_cons pe_str (pa_cons pe_str pa_nil)))))))))))))
    (pss_cons (ps_set (i := 15) scSpl.nd rfl (.inl rfl) (pe_op op_cat (pv 15) (pe_lst (pa_cons pe_str (pa_cons pe_str (pa_cons pe_str (pa_cons pe_str (pa_cons pe_str (pa_cons pe_str pa_nil)))))))))
    (pss_one (ps_asg (pe_join pe_str (pe_op op_cat (pe_op op_cat (pe_slice sl_list (pv 12) po_none (po_some (pv 13))) (pe_lst (pa_cons (pe_ix ix_list (pv 15) (pv 6) (fun _ _ => rfl)) pa_nil))) (pe_slice sl_list (pv 12) (po_some (pe_op op_add (pv 13) pe_int)) po_none))) (pg_sub (pv 10) (pv 11) set_list))))))))))))))
    (pss_one (ps_ret (pe_join pe_str (pv 10))))))))))))))))), ?_⟩
  refine ⟨fun σ' H1 => ∃ wy pl rw wd : Int, σ' = [some (.ref a), some (.int z), some (.str x), some (.int wy), some (.int pl), some (.int rw), some (.int wd), none, none, none, none, none, none, none, none, none] ∧ Same H H1 ∧ (0 ≤ wd ∧ wd < 17), ?_, ?_⟩
  · refine ⟨.ref a, rfl, .int z, rfl, 10, 6, rfl, rfl, p6, 10, 6, rfl, rfl, p6, (by show 4 ≤ sizeLine; decide), fun l1 nl1 => ?_⟩
    have s1 := same_upd (o := .lst [.int 12, .int (10 ^ (6 : Int).toNat), .int (10 ^ (6 : Int).toNat), .int 17]) nl1
    refine ⟨a, l1, ns, [12, 10 ^ (6 : Int).toNat, 10 ^ (6 : Int).toNat, 17], z, rfl, s1.seq hS, h63, .inl (.inl upd_same), by decide, fun y hy => ?_, fun H2 q2 s2 _ eq2 => ?_⟩
    · have : y = 12 ∨ y = 10 ^ (6 : Int).toNat ∨ y = 17 := by
        simp only [List.mem_cons, List.mem_nil_iff, or_false] at hy
        rcases hy with h | h | h | h
        · exact .inl h
        · exact .inr (.inl h)
        · exact .inr (.inl h)
        · exact .inr (.inr h)
      rcases this with rfl | rfl | rfl
      · exact ⟨by decide, by decide⟩
      · exact ⟨by decide +kernel, by decide +kernel⟩
      · exact ⟨by decide, by decide⟩
    generalize rawF ns z = ra at eq2
    refine ⟨q2, [.int (ra % 12), .int (ra / 12 % 10 ^ (6 : Int).toNat), .int (ra / 12 / 10 ^ (6 : Int).toNat % 10 ^ (6 : Int).toNat), .int (ra / 12 / 10 ^ (6 : Int).toNat / 10 ^ (6 : Int).toNat % 17)], rfl, .inl (.inl eq2), rfl, _, _, rfl, _, _, rfl, _, _, rfl, _, _, rfl, rfl, ?_⟩
    refine ⟨_, _, _, _, rfl, s1.trans s2, ?_⟩
    generalize ra / 12 / 10 ^ (6 : Int).toNat / 10 ^ (6 : Int).toNat = y
    exact ⟨by omega, by omega⟩
  rintro σ' H1 ⟨wy, pl, rw, wd, rfl, s1, hwd⟩
  refine ⟨fun σ' H2 => σ' = [some (.ref a), some (.int z), some (.str x), some (.int wy), some (.int pl), some (.int rw), some (.int wd), some (.str sg0), none, none, none, none, none, none, none, none] ∧ H2 = H1, ⟨rfl, rfl⟩, ?_⟩
  rintro σ' H2 ⟨rfl, eH⟩
  subst eH
  refine ⟨fun σ' H3 => ∃ c : Nat, σ' = [some (.ref a), some (.int z), some (.str x), some (.int wy), some (.int pl), some (.int rw), some (.int wd), some (.str sg0), some (.str ⟨#[c]⟩), none, none, none, none, none, none, none] ∧ H3 = H2, ?_, ?_⟩
  · have g0 : (0 : Int) < (sg0.length : Int) := by decide +kernel
    obtain ⟨c, hc⟩ := at_sgn (z := sg0) (r := rw % (sg0.length : Int)) (Int.emod_nonneg _ (by omega)) (Int.emod_lt_of_pos _ g0)
    exact ⟨.str sg0, rfl, .int rw, rfl, .str sg0, rfl, sg0, rfl, by decide +kernel, _, _, rfl, rfl, g0, sg0, _, c, rfl, rfl, by decide +kernel, hc, c, rfl, rfl⟩
  rintro σ' H3 ⟨c, rfl, eH⟩
  subst eH
  refine ⟨fun σ' H4 => ∃ p : Int, σ' = [some (.ref a), some (.int z), some (.str x), some (.int wy), some (.int pl), some (.int rw), some (.int wd), some (.str sg0), some (.str ⟨#[c]⟩), some (.int p), none, none, none, none, none, none] ∧ H4 = H3, ?_, ?_⟩
  · exact ⟨.int pl, rfl, .str x, rfl, x, rfl, lxs, _, 1, rfl, rfl, _, _, rfl, rfl, (by show (0 : Int) < _; omega), _, rfl, rfl⟩
  rintro σ' H4 ⟨p, rfl, eH⟩
  subst eH
  -- signs
  refine ⟨fun σ' H5 => σ' = [some (.ref a), some (.int z), some (.str x), some (.int wy), some (.int pl), some (.int rw), some (.int wd), some (.str sg0), some (.str ⟨#[c]⟩), some (.int p), none, none, none, none, none, none] ∧ H5 = H4, ?_, ?_⟩
  · refine ⟨.int wy, rfl, rfl, _, rfl, ite2 (fun _ => ?_) (fun _ => ⟨rfl, rfl⟩)⟩
    have c1 := cutS_length x none (some p)
    have c2 := cutS_length x (some p) none
    refine ⟨.str x, rfl, .int p, rfl, p, rfl, x, rfl, lxs, .str ⟨#[c]⟩, rfl, _, _, rfl, rfl, fitB (by rw [sg_len]; omega), ?_⟩
    refine ⟨.str x, rfl, .int p, rfl, p, rfl, x, rfl, lxs, _, _, rfl, rfl, fitB (by rw [ap_len', sg_len]; omega), ?_⟩
    exact q _ _ s1 (by rw [ap_len', ap_len', sg_len]; omega)
  rintro σ' H5 ⟨rfl, eH⟩
  subst eH
  refine ⟨fun σ' H6 => σ' = [some (.ref a), some (.int z), some (.str x), some (.int wy), some (.int pl), some (.int rw), some (.int wd), some (.str sg0), some (.str ⟨#[c]⟩), some (.int p), none, none, none, none, none, none] ∧ H6 = H5, ?_, ?_⟩
  · refine ⟨.int wy, rfl, rfl, _, rfl, ite2 (fun _ => ?_) (fun _ => ⟨rfl, rfl⟩)⟩
    have c1 := cutS_length x none (some p)
    have c2 := cutS_length x (some (p + 1)) none
    refine ⟨.str x, rfl, .int p, rfl, p, rfl, x, rfl, lxs, .str x, rfl, .int p, rfl, _, 1, rfl, rfl, _, rfl, x, rfl, lxs, _, _, rfl, rfl, fitB (by omega), ?_⟩
    exact q _ _ s1 (by rw [ap_len']; omega)
  rintro σ' H6 ⟨rfl, eH⟩
  subst eH
  refine ⟨fun σ' H7 => σ' = [some (.ref a), some (.int z), some (.str x), some (.int wy), some (.int pl), some (.int rw), some (.int wd), some (.str sg0), some (.str ⟨#[c]⟩), some (.int p), none, none, none, none, none, none] ∧ H7 = H6, ?_, ?_⟩
  · refine ⟨.int wy, rfl, rfl, _, rfl, ite2 (fun _ => ?_) (fun _ => ⟨rfl, rfl⟩)⟩
    have c1 := cutS_length x none (some p)
    have c2 := cutS_length x (some (p + 1)) none
    refine ⟨.str x, rfl, .int p, rfl, p, rfl, x, rfl, lxs, .str ⟨#[c]⟩, rfl, _, _, rfl, rfl, fitB (by rw [sg_len]; omega), ?_⟩
    refine ⟨.str x, rfl, .int p, rfl, _, 1, rfl, rfl, _, rfl, x, rfl, lxs, _, _, rfl, rfl, fitB (by rw [ap_len', sg_len]; omega), ?_⟩
    exact q _ _ s1 (by rw [ap_len', ap_len', sg_len]; omega)
  rintro σ' H7 ⟨rfl, eH⟩
  subst eH
  refine ⟨fun σ' H8 => σ' = [some (.ref a), some (.int z), some (.str x), some (.int wy), some (.int pl), some (.int rw), some (.int wd), some (.str sg0), some (.str ⟨#[c]⟩), some (.int p), none, none, none, none, none, none] ∧ H8 = H7, ?_, ?_⟩
  · refine ⟨.int wy, rfl, rfl, _, rfl, ite2 (fun _ => ?_) (fun _ => ⟨rfl, rfl⟩)⟩
    refine ⟨.str x, rfl, ?_⟩
    refine ⟨szN 4 rfl, fun le n_le => ?_⟩
    generalize e_le : upd H7 le _ = H8
    have u8 := new_same e_le n_le
    have z8 := new_at e_le
    clear e_le
    obtain ⟨y, hy, my⟩ := at_modS (ws := (["\n", " ", "\n\n", "0"] : List Str)) (r := rw % 4) (Int.emod_nonneg _ (by decide)) (Int.emod_lt_of_pos _ (by decide))
    refine ⟨.int rw, rfl, _, 4, rfl, rfl, (by show (0 : Int) < 4; decide), le, _, _, _, rfl, rfl, .inl (.inl z8), hy, _, _, rfl, rfl, ?_, ?_⟩
    all_goals
      have ly : y.length ≤ 2 := by
        simp only [List.mem_cons, List.not_mem_nil, or_false] at my
        rcases my with rfl | rfl | rfl | rfl <;> decide +kernel
    · exact fitB (by omega)
    · exact q _ _ (s1.trans u8) (by rw [ap_len']; omega)
  rintro σ' H8 ⟨rfl, eH⟩
  subst eH
  -- rows
  have spx := spt_n x
  have trs := spx.tot
  have nrs := spx.ne
  generalize hrs : Txt.split x "\n" = rs at spx trs nrs
  have prs : (0 : Int) < (rs.length : Int) := by
    have := List.length_pos_iff.mpr nrs
    omega
  refine ⟨fun σ' H9 => ∃ lr, σ' = [some (.ref a), some (.int z), some (.str x), some (.int wy), some (.int pl), some (.int rw), some (.int wd), some (.str sg0), some (.str ⟨#[c]⟩), some (.int p), some (.ref lr), none, none, none, none, none] ∧ Same H8 H9 ∧ H8 lr = none ∧ H9 lr = some (.lst (rs.map V.str)), ?_, ?_⟩
  · refine ⟨.str x, rfl, ⟨_, rfl⟩, x, "\n", rfl, rfl, by decide +kernel, fitB (by omega), fun l nl => ?_⟩
    rw [hrs]
    exact ⟨l, rfl, same_upd nl, nl, upd_same⟩
  rintro σ' H9 ⟨lr, rfl, s9, nlr, elr⟩
  refine ⟨fun σ' H10 => ∃ rr : Int, (0 ≤ rr ∧ rr < (rs.length : Int)) ∧ σ' = [some (.ref a), some (.int z), some (.str x), some (.int wy), some (.int pl), some (.int rw), some (.int wd), some (.str sg0), some (.str ⟨#[c]⟩), some (.int p), some (.ref lr), some (.int rr), none, none, none, none] ∧ H10 = H9, ?_, ?_⟩
  · refine ⟨.int pl, rfl, .ref lr, rfl, lr, _, rfl, .inl (.inl (.inl elr)), _, _, rfl, rfl, (by rw [List.length_map]; exact prs), _, ⟨Int.emod_nonneg _ (by rw [List.length_map]; omega), ?_⟩, rfl, rfl⟩
    have := Int.emod_lt_of_pos pl prs
    rw [List.length_map]
    exact this
  rintro σ' H10 ⟨rr, ⟨rr0, rr1⟩, rfl, eH⟩
  subst eH
  obtain ⟨row, hrow, mrow⟩ := at_modS rr0 rr1
  have lrow : row.length ≤ x.length := spx.le row mrow
  have spw := spt_w row
  have tws := spw.tot
  have nws := spw.ne
  generalize hws : Txt.split row " " = ws at spw tws nws
  have pws : (0 : Int) < (ws.length : Int) := by
    have := List.length_pos_iff.mpr nws
    omega
  refine ⟨fun σ' H11 => ∃ lw, σ' = [some (.ref a), some (.int z), some (.str x), some (.int wy), some (.int pl), some (.int rw), some (.int wd), some (.str sg0), some (.str ⟨#[c]⟩), some (.int p), some (.ref lr), some (.int rr), some (.ref lw), none, none, none] ∧ Same H10 H11 ∧ H11 lw = some (.lst (ws.map V.str)), ?_, ?_⟩
  · refine ⟨.ref lr, rfl, .int rr, rfl, lr, _, rr, _, rfl, rfl, .inl (.inl elr), hrow, ⟨_, rfl⟩, row, " ", rfl, rfl, by decide +kernel, fitB (by omega), fun l nl => ?_⟩
    rw [hws]
    exact ⟨l, rfl, same_upd nl, upd_same⟩
  rintro σ' H11 ⟨lw, rfl, s11, elw⟩
  refine ⟨fun σ' H12 => ∃ sp : Int, (0 ≤ sp ∧ sp < (ws.length : Int)) ∧ σ' = [some (.ref a), some (.int z), some (.str x), some (.int wy), some (.int pl), some (.int rw), some (.int wd), some (.str sg0), some (.str ⟨#[c]⟩), some (.int p), some (.ref lr), some (.int rr), some (.ref lw), some (.int sp), none, none] ∧ H12 = H11, ?_, ?_⟩
  · refine ⟨.int rw, rfl, .ref lw, rfl, lw, _, rfl, .inl (.inl (.inl elw)), _, _, rfl, rfl, (by rw [List.length_map]; exact pws), _, ⟨Int.emod_nonneg _ (by rw [List.length_map]; omega), ?_⟩, rfl, rfl⟩
    have := Int.emod_lt_of_pos rw pws
    rw [List.length_map]
    exact this
  rintro σ' H12 ⟨sp, ⟨sp0, sp1⟩, rfl, eH⟩
  subst eH
  have elr2 := s11 _ _ elr
  have sH : Same H H12 := s1.trans (s9.trans s11)
  have s812 : Same H8 H12 := s9.trans s11
  refine ⟨fun σ' H13 => ∃ (lq : Addr) (qs : List Str) (y14 y15 : Option V), σ' = [some (.ref a), some (.int z), some (.str x), some (.int wy), some (.int pl), some (.int rw), some (.int wd), some (.str sg0), some (.str ⟨#[c]⟩), some (.int p), some (.ref lq), some (.int rr), some (.ref lw), some (.int sp), y14, y15] ∧ Same H8 H13 ∧ H13 lq = some (.lst (qs.map V.str)) ∧ tot qs ≤ 5 * x.length + 300, ?_, ?_⟩
  · have e1_rr : (rr + 1).toNat = rr.toNat + 1 := by omega
    have e1_sp : (sp + 1).toNat = sp.toNat + 1 := by omega
    have td_rs := tot_td rs rr.toNat
    have dr_rs := tot_drop rs rr.toNat
    have l1_rs := tot_len (rs.take rr.toNat)
    have l2_rs := tot_len (rs.drop rr.toNat)
    have l3_rs := tot_len (rs.drop (rr.toNat + 1))
    have td_ws := tot_td ws sp.toNat
    have dr_ws := tot_drop ws sp.toNat
    have l1_ws := tot_len (ws.take sp.toNat)
    have l2_ws := tot_len (ws.drop sp.toNat)
    have l3_ws := tot_len (ws.drop (sp.toNat + 1))
    have ixr : ∀ (zs : List V), zs.length = rs.length → ixN zs.length rr = some rr.toNat := fun zs e => ix_of rr0 (by rw [e]; exact rr1)
    obtain ⟨word, hword, mword⟩ := at_modS sp0 sp1
    have lword := tot_mem mword
    have setw : ∀ (G : Hp) (zz : Str) (y14 y15 : Option V), Same H8 G → G lr = some (.lst (rs.map V.str)) → zz.length ≤ 3 * x.length + 100 → ∃ (lq : Addr) (qs : List Str) (u14 u15 : Option V), [some (.ref a), some (.int z), some (.str x), some (.int wy), some (.int pl), some (.int rw), some (.int wd), some (.str sg0), some (.str ⟨#[c]⟩), some (.int p), some (.ref lr), some (.int rr), some (.ref lw), some (.int sp), y14, y15] = [some (.ref a), some (.int z), some (.str x), some (.int wy), some (.int pl), some (.int rw), some (.int wd), some (.str sg0), some (.str ⟨#[c]⟩), some (.int p), some (.ref lq), some (.int rr), some (.ref lw), some (.int sp), u14, u15] ∧ Same H8 (upd G lr (.lst ((rs.map V.str).set rr.toNat (.str zz)))) ∧ upd G lr (.lst ((rs.map V.str).set rr.toNat (.str zz))) lq = some (.lst (qs.map V.str)) ∧ tot qs ≤ 5 * x.length + 300 := fun G zz y14 y15 sG eG lz => by
      refine ⟨lr, rs.set rr.toNat zz, y14, y15, rfl, same_over sG nlr, by rw [upd_same, set_map], ?_⟩
      have := tot_set rs zz rr.toNat
      omega
    refine ⟨.int wy, rfl, rfl, _, rfl, ite2 (fun _ => ?_) (fun _ => ?_)⟩
    · skip
      refine ⟨.ref lr, rfl, .int rr, rfl, rr, rfl, lr, _, rfl, .inl (.inl (elr2)), ?_⟩
      intro p1 n_p1
      generalize e_p1 : upd H12 p1 _ = G1
      have u1 := new_same e_p1 n_p1
      have z1 := new_at e_p1
      clear e_p1
      rw [cut_tk rs rr0] at z1
      refine ⟨.ref lr, rfl, .int rr, rfl, _, 1, rfl, rfl, _, rfl, lr, _, rfl, .inl (.inl (u1 _ _ elr2)), ?_⟩
      intro p2 n_p2
      generalize e_p2 : upd G1 p2 _ = G2
      have u2 := new_same e_p2 n_p2
      have z2 := new_at e_p2
      clear e_p2
      rw [cut_dr rs (by omega)] at z2
      rw [e1_rr] at z2
      refine ⟨p1, p2, _, _, rfl, rfl, u2 _ _ z1, z2, fitB (by simp only [List.length_append, List.length_map, List.length_cons, List.length_nil]; omega), ?_⟩
      intro p3 n_p3
      generalize e_p3 : upd G2 p3 _ = G3
      have u3 := new_same e_p3 n_p3
      have z3 := new_at e_p3
      clear e_p3
      rw [← List.map_append] at z3
      exact ⟨p3, _, none, none, rfl, s812.trans (u1.trans (u2.trans u3)), z3, by rw [tot_app]; omega⟩
    refine ⟨.int wy, rfl, rfl, _, rfl, ite2 (fun _ => ?_) (fun _ => ?_)⟩
    · skip
      refine ⟨.ref lr, rfl, .int rr, rfl, rr, rfl, lr, _, rfl, .inl (.inl (elr2)), ?_⟩
      intro p1 n_p1
      generalize e_p1 : upd H12 p1 _ = G1
      have u1 := new_same e_p1 n_p1
      have z1 := new_at e_p1
      clear e_p1
      rw [cut_tk rs rr0] at z1
      obtain ⟨row2, hrow2, mrow2⟩ := at_modS (ws := rs) (r := rw % (rs.length : Int)) (Int.emod_nonneg _ (by omega)) (Int.emod_lt_of_pos _ prs)
      have lrow2 := tot_mem mrow2
      refine ⟨.ref lr, rfl, .int rw, rfl, .ref lr, rfl, lr, _, rfl, .inl (.inl (.inl (u1 _ _ elr2))), _, _, rfl, rfl, (by rw [List.length_map]; exact prs), lr, _, _, .str row2, rfl, rfl, .inl (.inl (u1 _ _ elr2)), (by rw [List.length_map]; exact hrow2), ?_⟩
      refine ⟨szN 1 rfl, fun p2 n_p2 => ?_⟩
      generalize e_p2 : upd G1 p2 _ = G2
      have u2 := new_same e_p2 n_p2
      have z2 := new_at e_p2
      clear e_p2
      refine ⟨p1, p2, _, [.str row2], rfl, rfl, u2 _ _ z1, z2, fitB (by simp only [List.length_append, List.length_map, List.length_cons, List.length_nil]; omega), ?_⟩
      intro p3 n_p3
      generalize e_p3 : upd G2 p3 _ = G3
      have u3 := new_same e_p3 n_p3
      have z3 := new_at e_p3
      clear e_p3
      have s13 := u1.trans (u2.trans u3)
      refine ⟨.ref lr, rfl, .int rr, rfl, rr, rfl, lr, _, rfl, .inl (.inl (s13 _ _ elr2)), ?_⟩
      intro p4 n_p4
      generalize e_p4 : upd G3 p4 _ = G4
      have u4 := new_same e_p4 n_p4
      have z4 := new_at e_p4
      clear e_p4
      rw [cut_dr rs rr0] at z4
      refine ⟨p3, p4, _, _, rfl, rfl, u4 _ _ z3, z4, fitB (by simp only [List.length_append, List.length_map, List.length_cons, List.length_nil]; omega), ?_⟩
      intro p5 n_p5
      generalize e_p5 : upd G4 p5 _ = G5
      have u5 := new_same e_p5 n_p5
      have z5 := new_at e_p5
      clear e_p5
      refine ⟨p5, rs.take rr.toNat ++ [row2] ++ rs.drop rr.toNat, none, none, rfl, s812.trans (s13.trans (u4.trans u5)), by rw [z5, List.map_append, List.map_append]; rfl, ?_⟩
      rw [tot_app, tot_app]
      have : tot [row2] = row2.length + 1 := rfl
      omega
    refine ⟨.int wy, rfl, rfl, _, rfl, ite2 (fun _ => ?_) (fun _ => ?_)⟩
    · skip
      obtain ⟨row2, hrow2, mrow2⟩ := at_modS (ws := rs) (r := rw % (rs.length : Int)) (Int.emod_nonneg _ (by omega)) (Int.emod_lt_of_pos _ prs)
      have lrow2 := tot_mem mrow2
      have o0 : 0 ≤ rw % (rs.length : Int) := Int.emod_nonneg _ (by omega)
      have o1 : rw % (rs.length : Int) < (rs.length : Int) := Int.emod_lt_of_pos _ prs
      refine ⟨.int rw, rfl, .ref lr, rfl, lr, _, rfl, .inl (.inl (.inl elr2)), _, _, rfl, rfl, (by rw [List.length_map]; exact prs), ?_⟩
      rw [List.length_map]
      refine ⟨.ref lr, rfl, .int (rw % (rs.length : Int)), rfl, lr, _, rw % (rs.length : Int), .str row2, rfl, rfl, .inl (.inl elr2), hrow2, .ref lr, rfl, .int rr, rfl, lr, _, rr, .str row, rfl, rfl, .inl (.inl elr2), hrow, ?_⟩
      refine ⟨szN 2 rfl, fun t n_t => ?_⟩
      generalize e_t : upd H12 t _ = G1
      have u1 := new_same e_t n_t
      have z1 := new_at e_t
      clear e_t
      refine ⟨t, _, rfl, .inl (.inl z1), rfl, _, _, rfl, .ref lr, rfl, .int rr, rfl, lr, _, rr, rr.toNat, rfl, rfl, u1 _ _ elr2, ixr _ (by rw [List.length_map]), _, _, rfl, .ref lr, rfl, .int (rw % (rs.length : Int)), rfl, lr, _, rw % (rs.length : Int), (rw % (rs.length : Int)).toNat, rfl, rfl, upd_same, ix_of o0 (by rw [List.length_set, List.length_map]; exact o1), rfl, ?_⟩
      refine ⟨lr, (rs.set rr.toNat row2).set (rw % (rs.length : Int)).toNat row, _, none, rfl, same_over (same_over (s812.trans u1) nlr) nlr, by rw [upd_same, set_map, set_map], ?_⟩
      have t1 := tot_set (rs.set rr.toNat row2) row (rw % (rs.length : Int)).toNat
      have t2 := tot_set rs row2 rr.toNat
      omega
    refine ⟨.int wy, rfl, rfl, _, rfl, ite2 (fun _ => ?_) (fun _ => ?_)⟩
    · skip
      refine ⟨⟨_, rfl⟩, .ref lw, rfl, .int sp, rfl, sp, rfl, lw, _, rfl, .inl (.inl (elw)), ?_⟩
      intro p1 n_p1
      generalize e_p1 : upd H12 p1 _ = G1
      have u1 := new_same e_p1 n_p1
      have z1 := new_at e_p1
      clear e_p1
      rw [cut_tk ws sp0] at z1
      refine ⟨.ref lw, rfl, .int sp, rfl, _, 1, rfl, rfl, _, rfl, lw, _, rfl, .inl (.inl (u1 _ _ elw)), ?_⟩
      intro p2 n_p2
      generalize e_p2 : upd G1 p2 _ = G2
      have u2 := new_same e_p2 n_p2
      have z2 := new_at e_p2
      clear e_p2
      rw [cut_dr ws (by omega)] at z2
      rw [e1_sp] at z2
      refine ⟨p1, p2, _, _, rfl, rfl, u2 _ _ z1, z2, fitB (by simp only [List.length_append, List.length_map, List.length_cons, List.length_nil]; omega), ?_⟩
      intro p3 n_p3
      generalize e_p3 : upd G2 p3 _ = G3
      have u3 := new_same e_p3 n_p3
      have z3 := new_at e_p3
      clear e_p3
      rw [← List.map_append] at z3
      have tq : tot (ws.take sp.toNat ++ ws.drop (sp.toNat + 1)) ≤ x.length + 1 := by rw [tot_app]; omega
      generalize ws.take sp.toNat ++ ws.drop (sp.toNat + 1) = qs at z3 tq
      have u13 := u1.trans (u2.trans u3)
      refine ⟨" ", p3, qs, rfl, rfl, .inl (.inl (.inl z3)), (by show _ + qs.length * 1 ≤ _; rw [Nat.mul_one]; show tot qs ≤ _; omega), ?_⟩
      have jl := joinc_len bl_S (qs)
      exact ⟨.ref lr, rfl, .int rr, rfl, lr, _, rr, rr.toNat, rfl, rfl, u13 _ _ elr2, ixr _ (by rw [List.length_map]), setw G3 _ none none (s812.trans u13) (u13 _ _ elr2) (by omega)⟩
    refine ⟨.int wy, rfl, rfl, _, rfl, ite2 (fun _ => ?_) (fun _ => ?_)⟩
    · skip
      refine ⟨⟨_, rfl⟩, .ref lw, rfl, .int sp, rfl, sp, rfl, lw, _, rfl, .inl (.inl (elw)), ?_⟩
      intro p1 n_p1
      generalize e_p1 : upd H12 p1 _ = G1
      have u1 := new_same e_p1 n_p1
      have z1 := new_at e_p1
      clear e_p1
      rw [cut_tk ws sp0] at z1
      refine ⟨.ref lw, rfl, .int sp, rfl, lw, _, sp, .str word, rfl, rfl, .inl (.inl (u1 _ _ elw)), hword, .ref lw, rfl, .int sp, rfl, lw, _, sp, .str word, rfl, rfl, .inl (.inl (u1 _ _ elw)), hword, ?_⟩
      refine ⟨szN 2 rfl, fun p2 n_p2 => ?_⟩
      generalize e_p2 : upd G1 p2 _ = G2
      have u2 := new_same e_p2 n_p2
      have z2 := new_at e_p2
      clear e_p2
      refine ⟨p1, p2, _, [.str word, .str word], rfl, rfl, u2 _ _ z1, z2, fitB (by simp only [List.length_append, List.length_map, List.length_cons, List.length_nil]; omega), ?_⟩
      intro p3 n_p3
      generalize e_p3 : upd G2 p3 _ = G3
      have u3 := new_same e_p3 n_p3
      have z3 := new_at e_p3
      clear e_p3
      have s13 := u1.trans (u2.trans u3)
      refine ⟨.ref lw, rfl, .int sp, rfl, _, 1, rfl, rfl, _, rfl, lw, _, rfl, .inl (.inl (s13 _ _ elw)), ?_⟩
      intro p4 n_p4
      generalize e_p4 : upd G3 p4 _ = G4
      have u4 := new_same e_p4 n_p4
      have z4 := new_at e_p4
      clear e_p4
      rw [cut_dr ws (by omega)] at z4
      rw [e1_sp] at z4
      refine ⟨p3, p4, _, _, rfl, rfl, u4 _ _ z3, z4, fitB (by simp only [List.length_append, List.length_map, List.length_cons, List.length_nil]; omega), ?_⟩
      intro p5 n_p5
      generalize e_p5 : upd G4 p5 _ = G5
      have u5 := new_same e_p5 n_p5
      have z5 := new_at e_p5
      clear e_p5
      have z6 : G5 p5 = some (.lst ((ws.take sp.toNat ++ [word, word] ++ ws.drop (sp.toNat + 1)).map V.str)) := by rw [z5, List.map_append, List.map_append]; rfl
      have tq : tot (ws.take sp.toNat ++ [word, word] ++ ws.drop (sp.toNat + 1)) ≤ 3 * x.length + 3 := by
        rw [tot_app, tot_app]
        have : tot [word, word] = word.length + (word.length + 0) + 2 := rfl
        omega
      generalize ws.take sp.toNat ++ [word, word] ++ ws.drop (sp.toNat + 1) = qs at z6 tq
      have u15 := s13.trans (u4.trans u5)
      refine ⟨" ", p5, qs, rfl, rfl, .inl (.inl (.inl z6)), (by show _ + qs.length * 1 ≤ _; rw [Nat.mul_one]; show tot qs ≤ _; omega), ?_⟩
      have jl := joinc_len bl_S (qs)
      exact ⟨.ref lr, rfl, .int rr, rfl, lr, _, rr, rr.toNat, rfl, rfl, u15 _ _ elr2, ixr _ (by rw [List.length_map]), setw G5 _ none none (s812.trans u15) (u15 _ _ elr2) (by omega)⟩
    have e40 : (rep40 "0").length = 40 := rep40_len "0"
    have e49 : (rep40 "9").length = 40 := rep40_len "9"
    refine ⟨"0", rfl, rfl, by decide +kernel, by decide +kernel, "1", rep40 "0", rfl, rfl, fitB (by rw [e40]; decide +kernel), "9", rfl, rfl, by decide +kernel, by decide +kernel, ?_⟩
    refine ⟨szN 11 rfl, fun q1 n_q1 => ?_⟩
    generalize e_q1 : upd H12 q1 _ = G1
    have u1 := new_same e_q1 n_q1
    have z1 := new_at e_q1
    clear e_q1
    refine ⟨.ref q1, rfl, ?_⟩
    refine ⟨szN 6 rfl, fun q2 n_q2 => ?_⟩
    generalize e_q2 : upd G1 q2 _ = G2
    have u2 := new_same e_q2 n_q2
    have z2 := new_at e_q2
    clear e_q2
    refine ⟨q1, q2, _, _, rfl, rfl, u2 _ _ z1, z2, (by show 17 ≤ sizeLine; decide), ?_⟩
    intro q3 n_q3
    generalize e_q3 : upd G2 q3 _ = G3
    have u3 := new_same e_q3 n_q3
    have z3 := new_at e_q3
    clear e_q3
    have z3 : G3 q3 = some (.lst ((["0", "1", "00", "07", "-1", "999999", "1000000", ("1" : Str) ++ rep40 "0", rep40 "9", "straight", "turned", "z", "", "ab", "say", "note", "song"] : List Str).map V.str)) := z3
    obtain ⟨sw, hsw, msw⟩ := at_modS (ws := (["0", "1", "00", "07", "-1", "999999", "1000000", ("1" : Str) ++ rep40 "0", rep40 "9", "straight", "turned", "z", "", "ab", "say", "note", "song"] : List Str)) (r := wd) hwd.1 hwd.2
    have lsw : sw.length ≤ 50 := by
      simp only [List.mem_cons, List.not_mem_nil, or_false] at msw
      rcases msw with rfl | rfl | rfl | rfl | rfl | rfl | rfl | rfl | rfl | rfl | rfl | rfl | rfl | rfl | rfl | rfl | rfl
      · decide +kernel
      · decide +kernel
      · decide +kernel
      · decide +kernel
      · decide +kernel
      · decide +kernel
      · decide +kernel
      · rw [ap_len', e40]; decide +kernel
      · rw [e49]; decide
      · decide +kernel
      · decide +kernel
      · decide +kernel
      · decide +kernel
      · decide +kernel
      · decide +kernel
      · decide +kernel
      · decide +kernel
    have s13 := u1.trans (u2.trans u3)
    refine ⟨⟨_, rfl⟩, .ref lw, rfl, .int sp, rfl, sp, rfl, lw, _, rfl, .inl (.inl (s13 _ _ elw)), ?_⟩
    intro p1 n_p1
    generalize e_p1 : upd G3 p1 _ = G4
    have u4 := new_same e_p1 n_p1
    have z4 := new_at e_p1
    clear e_p1
    rw [cut_tk ws sp0] at z4
    refine ⟨.ref q3, rfl, .int wd, rfl, q3, _, wd, .str sw, rfl, rfl, .inl (.inl (u4 _ _ z3)), hsw, ?_⟩
    refine ⟨szN 1 rfl, fun p2 n_p2 => ?_⟩
    generalize e_p2 : upd G4 p2 _ = G5
    have u5 := new_same e_p2 n_p2
    have z5 := new_at e_p2
    clear e_p2
    refine ⟨p1, p2, _, [.str sw], rfl, rfl, u5 _ _ z4, z5, fitB (by simp only [List.length_append, List.length_map, List.length_cons, List.length_nil]; omega), ?_⟩
    intro p3 n_p3
    generalize e_p3 : upd G5 p3 _ = G6
    have u6 := new_same e_p3 n_p3
    have z6 := new_at e_p3
    clear e_p3
    have s16 := s13.trans (u4.trans (u5.trans u6))
    refine ⟨.ref lw, rfl, .int sp, rfl, _, 1, rfl, rfl, _, rfl, lw, _, rfl, .inl (.inl (s16 _ _ elw)), ?_⟩
    intro p4 n_p4
    generalize e_p4 : upd G6 p4 _ = G7
    have u7 := new_same e_p4 n_p4
    have z7 := new_at e_p4
    clear e_p4
    rw [cut_dr ws (by omega)] at z7
    rw [e1_sp] at z7
    refine ⟨p3, p4, _, _, rfl, rfl, u7 _ _ z6, z7, fitB (by simp only [List.length_append, List.length_map, List.length_cons, List.length_nil]; omega), ?_⟩
    intro p5 n_p5
    generalize e_p5 : upd G7 p5 _ = G8
    have u8 := new_same e_p5 n_p5
    have z8 := new_at e_p5
    clear e_p5
    have z9 : G8 p5 = some (.lst ((ws.take sp.toNat ++ [sw] ++ ws.drop (sp.toNat + 1)).map V.str)) := by rw [z8, List.map_append, List.map_append]; rfl
    have tq : tot (ws.take sp.toNat ++ [sw] ++ ws.drop (sp.toNat + 1)) ≤ x.length + 60 := by
      rw [tot_app, tot_app]
      have : tot [sw] = (sw.length + 0) + 1 := rfl
      omega
    generalize ws.take sp.toNat ++ [sw] ++ ws.drop (sp.toNat + 1) = qs at z9 tq
    have u18 := s16.trans (u7.trans u8)
    refine ⟨" ", p5, qs, rfl, rfl, .inl (.inl (.inl z9)), (by show _ + qs.length * 1 ≤ _; rw [Nat.mul_one]; show tot qs ≤ _; omega), ?_⟩
    have jl := joinc_len bl_S (qs)
    exact ⟨.ref lr, rfl, .int rr, rfl, lr, _, rr, rr.toNat, rfl, rfl, u18 _ _ elr2, ixr _ (by rw [List.length_map]), setw G8 _ none (some (.ref q3)) (s812.trans u18) (u18 _ _ elr2) (by omega)⟩
  rintro σ' H13 ⟨lq, qs, y14, y15, rfl, s13, eq, lq2⟩
  refine ⟨⟨_, rfl⟩, .ref lq, rfl, "\n", lq, qs, rfl, rfl, .inl (.inl (.inl eq)), ?_, ?_⟩
  · have e : ("\n" : Str).length = 1 := by decide +kernel
    rw [e, Nat.mul_one]
    show tot qs ≤ _
    omega
  · exact q _ _ (s1.trans s13) (Nat.le_trans (joinc_len nl_S qs) lq2)
end
end Rep
namespace Rep
open PySem L2 L2H RepHot
/-! the law's own reading of a page -/
theorem foldl_mem : ∀ (l : List Int) (n : Int), l.foldl max n = n ∨ l.foldl max n ∈ l
  | [], n => .inl rfl
  | a :: r, n => by
    show r.foldl max (max n a) = n ∨ _
    rcases foldl_mem r (max n a) with h | h
    · rw [show (a :: r).foldl max n = r.foldl max (max n a) from rfl, h]
      rcases Int.le_total n a with k | k
      · right; rw [Int.max_eq_right k]; exact List.mem_cons_self
      · left; exact Int.max_eq_left k
    · exact .inr (List.mem_cons_of_mem _ h)
theorem maxI_mem {l : List Int} {d : Int} (h : l ≠ []) : maxI l d ∈ l := by
  cases l with
  | nil => exact (h rfl).elim
  | cons a r =>
    rcases foldl_mem r a with k | k
    · show r.foldl max a ∈ _
      rw [k]; exact List.mem_cons_self
    · exact List.mem_cons_of_mem _ k
theorem last_max {s : Sht} (h : RdOk s) {m : Int} (hm : m ∈ s.said.map Rw.num ++ s.noted.map Me.num ++ [0]) (hle : ∀ y ∈ s.said.map Rw.num ++ s.noted.map Me.num ++ [0], y ≤ m) : m = lastF s := by
  have l0 := h.last
  have a : m ≤ lastF s := by
    rcases List.mem_append.mp hm with z | z
    · exact lastF_le z
    · rw [List.mem_singleton.mp z]; exact l0
  have b : lastF s ≤ m := by
    by_cases e : s.said.map Rw.num ++ s.noted.map Me.num = []
    · have : lastF s = 0 := by unfold lastF; rw [e]; rfl
      rw [this]
      exact hle 0 (List.mem_append_right _ (List.mem_singleton.mpr rfl))
    · exact hle _ (List.mem_append_left _ (maxI_mem e))
  omega
theorem k_5t : ("nnnnt" : Str).cps.toList = [110, 110, 110, 110, 116] := by decide +kernel
theorem k_4n : ("nwnn" : Str).cps.toList = [110, 119, 110, 110] := by decide +kernel
theorem k_2n : ("nn" : Str).cps.toList = [110, 110] := by decide +kernel
theorem ThV.n {z : Str} {v : V} (h : ThV 110 z v) : ∃ n : Nat, n < 10 ^ 40 ∧ z = nS n ∧ v = .int (n : Int) := by
  rcases h with ⟨_, h⟩ | ⟨h, _⟩ | ⟨h, _⟩
  · exact h
  · exact absurd h (by decide)
  · exact (h rfl).elim
theorem ThV.t {z : Str} {v : V} (h : ThV 116 z v) : ∃ t : Bool, z = wayS t ∧ v = .bl t := by
  rcases h with ⟨h, _⟩ | ⟨_, h⟩ | ⟨_, h, _⟩
  · exact absurd h (by decide)
  · exact h
  · exact (h rfl).elim
theorem ThV.w {z : Str} {v : V} (h : ThV 119 z v) : v = .str z := by
  rcases h with ⟨h, _⟩ | ⟨h, _⟩ | ⟨_, _, h⟩
  · exact absurd h (by decide)
  · exact absurd h (by decide)
  · exact h
theorem thl_nil {ws : List Str} {vs : List V} (h : ThL ws [] vs) : ws = [] ∧ vs = [] := by
  cases ws <;> cases vs <;> first | exact ⟨rfl, rfl⟩ | exact h.elim
theorem thl_cons {ws : List Str} {k : Nat} {ks : List Nat} {vs : List V} (h : ThL ws (k :: ks) vs) : ∃ z ws' v vs', ws = z :: ws' ∧ vs = v :: vs' ∧ ThV k z v ∧ ThL ws' ks vs' := by
  cases ws <;> cases vs <;> first | exact h.elim | exact ⟨_, _, _, _, rfl, rfl, h.1, h.2⟩
theorem thl5 {rs : List Str} {xs : List V} (h : ThL rs [110, 110, 110, 110, 116] xs) : ∃ (n a b c : Nat) (t : Bool), n < 10 ^ 40 ∧ a < 10 ^ 40 ∧ b < 10 ^ 40 ∧ c < 10 ^ 40 ∧ rs = [nS n, nS a, nS b, nS c, wayS t] ∧ xs = [.int (n : Int), .int (a : Int), .int (b : Int), .int (c : Int), .bl t] := by
  obtain ⟨z1, rs, v1, xs, rfl, rfl, g1, h⟩ := thl_cons h
  obtain ⟨z2, rs, v2, xs, rfl, rfl, g2, h⟩ := thl_cons h
  obtain ⟨z3, rs, v3, xs, rfl, rfl, g3, h⟩ := thl_cons h
  obtain ⟨z4, rs, v4, xs, rfl, rfl, g4, h⟩ := thl_cons h
  obtain ⟨z5, rs, v5, xs, rfl, rfl, g5, h⟩ := thl_cons h
  obtain ⟨rfl, rfl⟩ := thl_nil h
  obtain ⟨n, hn, rfl, rfl⟩ := g1.n
  obtain ⟨a, ha, rfl, rfl⟩ := g2.n
  obtain ⟨b, hb, rfl, rfl⟩ := g3.n
  obtain ⟨c, hc, rfl, rfl⟩ := g4.n
  obtain ⟨t, rfl, rfl⟩ := g5.t
  exact ⟨n, a, b, c, t, hn, ha, hb, hc, rfl, rfl⟩
theorem thl4 {rs : List Str} {xs : List V} (h : ThL rs [110, 119, 110, 110] xs) : ∃ (n : Nat) (z : Str) (a c : Nat), n < 10 ^ 40 ∧ a < 10 ^ 40 ∧ c < 10 ^ 40 ∧ rs = [nS n, z, nS a, nS c] ∧ xs = [.int (n : Int), .str z, .int (a : Int), .int (c : Int)] := by
  obtain ⟨z1, rs, v1, xs, rfl, rfl, g1, h⟩ := thl_cons h
  obtain ⟨z2, rs, v2, xs, rfl, rfl, g2, h⟩ := thl_cons h
  obtain ⟨z3, rs, v3, xs, rfl, rfl, g3, h⟩ := thl_cons h
  obtain ⟨z4, rs, v4, xs, rfl, rfl, g4, h⟩ := thl_cons h
  obtain ⟨rfl, rfl⟩ := thl_nil h
  obtain ⟨n, hn, rfl, rfl⟩ := g1.n
  obtain rfl := g2.w
  obtain ⟨a, ha, rfl, rfl⟩ := g3.n
  obtain ⟨c, hc, rfl, rfl⟩ := g4.n
  exact ⟨n, z2, a, c, hn, ha, hc, rfl, rfl⟩
theorem thl2 {rs : List Str} {xs : List V} (h : ThL rs [110, 110] xs) : ∃ a b : Nat, a < 10 ^ 40 ∧ b < 10 ^ 40 ∧ rs = [nS a, nS b] ∧ xs = [.int (a : Int), .int (b : Int)] := by
  obtain ⟨z1, rs, v1, xs, rfl, rfl, g1, h⟩ := thl_cons h
  obtain ⟨z2, rs, v2, xs, rfl, rfl, g2, h⟩ := thl_cons h
  obtain ⟨rfl, rfl⟩ := thl_nil h
  obtain ⟨a, ha, rfl, rfl⟩ := g1.n
  obtain ⟨b, hb, rfl, rfl⟩ := g2.n
  exact ⟨a, b, ha, hb, rfl, rfl⟩
theorem f_n {n : Nat} (h : n < 10 ^ 40) : Fit1 110 (nS n) := ⟨fun _ => ⟨n, h, rfl⟩, fun e => absurd e (by decide)⟩
theorem f_t (t : Bool) : Fit1 116 (wayS t) := ⟨fun e => absurd e (by decide), fun _ => ⟨t, rfl⟩⟩
theorem f_w (z : Str) : Fit1 119 z := ⟨fun e => absurd e (by decide), fun e => absurd e (by decide)⟩
theorem say_fits {s s' : Sht} {row : Str} {rs : List Str} (e : Txt.split row " " = ("say" : Str) :: rs) (h : RowOk s row s') : Fits rs [110, 110, 110, 110, 116] := by
  cases h with
  | @say n a b c t e' b1 b2 b3 b4 =>
    rw [e] at e'
    cases e'
    exact ⟨f_n b1, f_n b2, f_n b3, f_n b4, f_t t, trivial⟩
  | @note n a c z e' =>
    rw [e] at e'
    exact absurd (List.cons.inj e').1 (by decide +kernel)
theorem note_fits {s s' : Sht} {row : Str} {rs : List Str} (e : Txt.split row " " = ("note" : Str) :: rs) (h : RowOk s row s') : Fits rs [110, 119, 110, 110] := by
  cases h with
  | @say n a b c t e' b1 b2 b3 b4 =>
    rw [e] at e'
    exact absurd (List.cons.inj e').1 (by decide +kernel)
  | @note n a c z e' b1 b2 b3 =>
    rw [e] at e'
    cases e'
    exact ⟨f_n b1, f_w z, f_n b2, f_n b3, trivial⟩
theorem hd_inv {s s' : Sht} {row wd : Str} {rs : List Str} (e : Txt.split row " " = wd :: rs) (h : RowOk s row s') : wd = "say" ∨ wd = "note" := by
  cases h with
  | say e' => rw [e] at e'; exact .inl (List.cons.inj e').1
  | note e' => rw [e] at e'; exact .inr (List.cons.inj e').1
theorem say_inv {s s' : Sht} {row : Str} {n a b c : Nat} {t : Bool} (e : Txt.split row " " = [("say" : Str), nS n, nS a, nS b, nS c, wayS t]) (h : RowOk s row s') : lastF s < (n : Int) ∧ (n : Int) < s.coming ∧ Gd2 s.size ⟨a, b, c, t⟩ ∧ s.said.length < 24 := by
  cases h with
  | @say n' a' b' c' t' e' b1 b2 b3 b4 hl hc g l =>
    rw [e] at e'
    simp only [List.cons.injEq, and_true, true_and] at e'
    obtain ⟨h1, h2, h3, h4, h5⟩ := e'
    rw [nS_inj h1, nS_inj h2, nS_inj h3, nS_inj h4, way_inj h5]
    exact ⟨hl, hc, g, l⟩
  | @note n' a' c' z e' =>
    rw [e] at e'
    exact absurd (List.cons.inj e').1 (by decide +kernel)
theorem note_inv {s s' : Sht} {row z : Str} {n a c : Nat} (e : Txt.split row " " = [("note" : Str), nS n, z, nS a, nS c]) (h : RowOk s row s') : lastF s < (n : Int) ∧ (n : Int) < s.coming ∧ Ltr z ∧ St_ a c s.size ∧ s.noted.length < 24 := by
  cases h with
  | @say n' a' b' c' t' e' =>
    rw [e] at e'
    exact absurd (List.cons.inj e').1 (by decide +kernel)
  | @note n' a' c' z' e' b1 b2 b3 hl hc k g l =>
    rw [e] at e'
    simp only [List.cons.injEq, and_true, true_and] at e'
    obtain ⟨h1, rfl, h3, h4⟩ := e'
    rw [nS_inj h1, nS_inj h3, nS_inj h4]
    exact ⟨hl, hc, k, g, l⟩
def spDr : Sp := fun vs H Q _ => ∃ (row : Str) (stv : V) (N : Addr → Prop) (s : Sht), vs = [.str row, stv] ∧ StAt N H stv s ∧ NA N H ∧ RdOk s ∧ row.length ≤ 1000000 ∧ (∀ s', RowOk s row s' → ∀ H' v', Same H H' → StAt N H' v' s' → Q v' H') ∧ ((¬ ∃ s', RowOk s row s') → ∀ H', Same H H' → Q .non H')
abbrev nDr : List Str := ["_law_row", "_law_state", "_law_length", "_law_coming", "_law_sayings", "_law_memories", "_law_words", "_law_last", "_law_things_here", "_law_one", "_law_other", "_law_many"]
theorem scDr : FnScope nDr ["_law_row", "_law_state"] (defScope s_law_due_row) := ⟨rfl, rfl, rfl, by decide +kernel, rfl, by decide +kernel, by decide +kernel⟩
structure TDr (Pg : Program) (w : World) (K : PySem.W.Frag) (mg : Str → Option Value) (base : Heap) (fNu fGs fTh : Addr) (fdNu fdGs fdTh : FuncData) : Prop where
  gNu : FnOk Pg w K mg base CX0 8 fNu fdNu ["_law_rows"] spNum
  bNu : Binds K fdNu ["_law_rows"] []
  kNu : PySem.W.keepIn K (.ref fNu) = true
  mNu : mg "_law_numbers" = some (.ref fNu)
  gGs : FnOk Pg w K mg base CX0 8 fGs fdGs ["_law_length", "_law_at", "_law_many"] spGs
  bGs : Binds K fdGs ["_law_length", "_law_at", "_law_many"] []
  kGs : PySem.W.keepIn K (.ref fGs) = true
  mGs : mg "_law_good_stretch" = some (.ref fGs)
  gTh : FnOk Pg w K mg base CX0 9 fTh fdTh ["_law_words", "_law_kinds"] spTh
  bTh : Binds K fdTh ["_law_words", "_law_kinds"] []
  kTh : PySem.W.keepIn K (.ref fTh) = true
  mTh : mg "_law_things" = some (.ref fTh)
  ml : mg "len" = none
  mM : mg "max" = none
  mT : mg "tuple" = none
section
variable {Pg : Program} {w : World} {K : PySem.W.Frag} {mg : Str → Option Value} {base : Heap} {fNu fGs fTh : Addr} {fdNu fdGs fdTh : FuncData}
theorem ok_dr {f : Addr} {fd : FuncData} (F : Fun K "_law_due_row" "_law_due_row" s_law_due_row f fd) (T : TDr Pg w K mg base fNu fGs fTh fdNu fdGs fdTh) : FnOk Pg w K mg base CX0 10 f fd ["_law_row", "_law_state"] spDr := by
  refine F.ok scDr (fun vs H Q E h => ?_) (fun cdv A outer s H vs Q E hr h => ?_)
  · obtain ⟨row, stv, N, s_, rfl, _⟩ := h; rfl
  obtain ⟨row, stv, N, s_, rfl, st, na_, rd, lr, q, qn⟩ := h
  have r9 : Room 9 _ := hr
  have r8 : Room 8 _ := hr.mono (by decide)
  refine ⟨_, (C8.pss_cut (ps_asg (pv 1) (pg_tup rfl (pgs_cons (pg_name (i := 2) scDr.nd rfl (.inl rfl)) (pgs_cons (pg_name (i := 3) scDr.nd rfl (.inl rfl)) (pgs_cons (pg_name (i := 4) scDr.nd rfl (.inl rfl)) (pgs_cons (pg_name (i := 5) scDr.nd rfl (.inl rfl)) pgs_nil))))))
    (C8.pss_cut (ps_set (i := 6) scDr.nd rfl (.inl rfl) (pe_split (pv 0) pe_str))
    (C8.pss_cut (ps_set (i := 7) scDr.nd rfl (.inl rfl) (pe_callB (cr_max rfl) (by rfl) T.mM (by decide +kernel) (pa_cons (pe_op op_cat (pe_op op_cat (pe_call T.gNu r8 (by rfl) T.mNu T.kNu T.bNu .nil pass0 (pa_cons (pv 4) pa_nil)) (pe_call T.gNu r8 (by rfl) T.mNu T.kNu T.bNu .nil pass0 (pa_cons (pv 5) pa_nil))) (pe_lst (pa_cons pe_int pa_nil))) pa_nil)))
    (C8.pss_cut (ps_if (pt_cmpR op_eq (pe_ix ix_list (pv 6) pe_int (fun _ _ => rfl)) pe_str (nomark _)) (C8.pss_cut (ps_set (i := 8) scDr.nd rfl (.inl rfl) (pe_call T.gTh r9 (by rfl) T.mTh T.kTh T.bTh .nil pass0 (pa_cons (pe_slice sl_list (pv 6) (po_some pe_int) po_none) (pa_cons pe_str pa_nil))))
    (C8.pss_cut (ps_if (PW.pt (pw_or (pt_cmpR op_isN (pv 8) pe_non (nomark _)) (pw_or (pt_not (pt_chain op_lt op_lt (pv 7) (pe_ix ix_list (pv 8) pe_int (fun _ _ => rfl)) (pv 3))) (pw_or1 (pt_cmpR op_ge (pe_callB call_len_seq (by rfl) T.ml PySem.boot_len (pa_cons (pv 4) pa_nil)) pe_int (nomark _)))))) (pss_one (ps_ret pe_non)) pss_nil)
    (C8.pss_cut (ps_asg (pe_slice sl_list (pv 8) (po_some pe_int) (po_some pe_int)) (pg_lst rfl (pgs_cons (pg_name (i := 9) scDr.nd rfl (.inl rfl)) (pgs_cons (pg_name (i := 10) scDr.nd rfl (.inl rfl)) (pgs_cons (pg_name (i := 11) scDr.nd rfl (.inl rfl)) pgs_nil)))))
    (C8.pss_cut (ps_if (PW.pt (pw_or (pt_not (pt_val (pe_call T.gGs r8 (by rfl) T.mGs T.kGs T.bGs .nil pass0 (pa_cons (pv 2) (pa_cons (pv 9) (pa_cons (pv 11) pa_nil)))))) (pw_or1 (pt_not (pt_val (pe_call T.gGs r8 (by rfl) T.mGs T.kGs T.bGs .nil pass0 (pa_cons (pv 2) (pa_cons (pv 10) (pa_cons (pv 11) pa_nil))))))))) (pss_one (ps_ret pe_non)) pss_nil)
    (pss_one (ps_ret (pe_tup (pa_cons (pv 2) (pa_cons (pv 3) (pa_cons (pe_op op_cat (pv 4) (pe_lst (pa_cons (pe_callTy call_tuple_of (by rfl) T.mT PyProof.Rows.boot_tuple (pa_cons (pv 8) pa_nil)) pa_nil))) (pa_cons (pv 5) pa_nil))))))))))) pss_nil)
    (C8.pss_cut (ps_set (i := 8) scDr.nd rfl (.inl rfl) pe_non)
    (C8.pss_cut (ps_if (pt_cmpR op_eq (pe_ix ix_list (pv 6) pe_int (fun _ _ => rfl)) pe_str (nomark _)) (pss_one (ps_set (i := 8) scDr.nd rfl (.inl rfl) (pe_call T.gTh r9 (by rfl) T.mTh T.kTh T.bTh .nil pass0 (pa_cons (pe_slice sl_list (pv 6) (po_some pe_int) po_none) (pa_cons pe_str pa_nil))))) pss_nil)
    (C8.pss_cut (ps_if (PW.pt (pw_or (pt_cmpR op_isN (pv 8) pe_non (nomark _)) (pw_or (pt_not (pt_chain op_lt op_lt (pv 7) (pe_ix ix_list (pv 8) pe_int (fun _ _ => rfl)) (pv 3))) (pw_or1 (pt_cmpR op_ge (pe_callB call_len_seq (by rfl) T.ml PySem.boot_len (pa_cons (pv 5) pa_nil)) pe_int (nomark _)))))) (pss_one (ps_ret pe_non)) pss_nil)
    (C8.pss_cut (ps_if (PW.pt (pw_or (pt_cmpR op_ne (pe_callB call_len_str (by rfl) T.ml PySem.boot_len (pa_cons (pe_ix ix_list (pv 8) pe_int (fun _ _ => rfl)) pa_nil)) pe_int (nomark _)) (pw_or1 (pt_cmpR op_notIn_sign (pe_ix ix_list (pv 8) pe_int (fun _ _ => rfl)) pe_str (by rfl))))) (pss_one (ps_ret pe_non)) pss_nil)
    (C8.pss_cut (ps_if (pt_not (pt_val (pe_call T.gGs r8 (by rfl) T.mGs T.kGs T.bGs .nil pass0 (pa_cons (pv 2) (pa_cons (pe_ix ix_list (pv 8) pe_int (fun _ _ => rfl)) (pa_cons (pe_ix ix_list (pv 8) pe_int (fun _ _ => rfl)) pa_nil)))))) (pss_one (ps_ret pe_non)) pss_nil)
    (pss_one (ps_ret (pe_tup (pa_cons (pv 2) (pa_cons (pv 3) (pa_cons (pv 4) (pa_cons (pe_op op_cat (pv 5) (pe_lst (pa_cons (pe_callTy call_tuple_of (by rfl) T.mT PyProof.Rows.boot_tuple (pa_cons (pv 8) pa_nil)) pa_nil))) pa_nil)))))))))))))))), ?_⟩
  obtain ⟨t, la, lb, xs, ys, rfl, h2, h3, h4, h5, h6, h7, h8⟩ := st.ex
  have sp := spt_w row
  have x1 := h4.len
  have y1 := h6.len
  have l1 := rd.l1
  have l2 := rd.l2
  refine ⟨fun σ' H' => σ' = [some (.str row), some (.ref t), some (.int s_.size), some (.int s_.coming), some (.ref la), some (.ref lb), none, none, none, none, none, none] ∧ H' = H, ?_, ?_⟩
  · exact ⟨.ref t, rfl, t, _, rfl, .inl (.inl h2), rfl, _, _, rfl, _, _, rfl, _, _, rfl, _, _, rfl, rfl, rfl, rfl⟩
  rintro σ' H' ⟨rfl, eH⟩
  subst eH
  generalize hws : Txt.split row " " = ws at sp
  refine ⟨fun σ' H1 => ∃ w, σ' = [some (.str row), some (.ref t), some (.int s_.size), some (.int s_.coming), some (.ref la), some (.ref lb), some (.ref w), none, none, none, none, none] ∧ Same H' H1 ∧ H1 w = some (.lst (ws.map V.str)), ?_, ?_⟩
  · refine ⟨.str row, rfl, ⟨_, rfl⟩, row, " ", rfl, rfl, by decide +kernel, Nat.le_trans (Nat.add_le_add_right lr 2) (by decide), fun p np => ?_⟩
    rw [hws]
    exact ⟨p, rfl, same_upd np, upd_same⟩
  rintro σ' H1 ⟨w, rfl, s1, ew⟩
  refine ⟨fun σ' H2 => σ' = [some (.str row), some (.ref t), some (.int s_.size), some (.int s_.coming), some (.ref la), some (.ref lb), some (.ref w), some (.int (lastF s_)), none, none, none, none] ∧ Same H' H2 ∧ H2 w = some (.lst (ws.map V.str)), ?_, ?_⟩
  · refine ⟨.ref la, rfl, la, xs, _, rfl, s1 _ _ h3, (RL.ts (TS.of s1) h4).hd, by rw [List.length_map]; omega, fun H2 l2 u2 z2 => ?_⟩
    refine ⟨.ref lb, rfl, lb, ys, _, rfl, u2 _ _ (s1 _ _ h5), (ML.ts (TS.of (s1.trans u2)) h6).hd, by rw [List.length_map]; omega, fun H3 l3 u3 z3 => ?_⟩
    refine ⟨l2, l3, _, _, rfl, rfl, u3 _ _ z2, z3, Nat.le_trans (show _ ≤ 1000 by simp only [List.length_map]; omega) (by decide), ?_⟩
    intro l4 n_l4
    generalize e_l4 : upd H3 l4 _ = H4
    have u4 := new_same e_l4 n_l4
    have z4 := new_at e_l4
    clear e_l4
    refine ⟨szN 1 rfl, fun l5 n_l5 => ?_⟩
    generalize e_l5 : upd H4 l5 _ = H5
    have u5 := new_same e_l5 n_l5
    have z5 := new_at e_l5
    clear e_l5
    refine ⟨l4, l5, _, _, rfl, rfl, u5 _ _ z4, z5, Nat.le_trans (show _ ≤ 1000 by simp only [List.length_append, List.length_map, List.length_cons, List.length_nil]; omega) (by decide), ?_⟩
    intro l6 n_l6
    generalize e_l6 : upd H5 l6 _ = H6
    have u6 := new_same e_l6 n_l6
    have z6 := new_at e_l6
    clear e_l6
    have z6' : H6 l6 = some (.lst ((s_.said.map Rw.num ++ s_.noted.map Me.num ++ [0]).map V.int)) := by rw [z6, List.map_append, List.map_append]; rfl
    refine ⟨l6, s_.said.map Rw.num ++ s_.noted.map Me.num ++ [0], rfl, .inl (.inl z6'), by rw [List.length_append]; exact Nat.lt_of_lt_of_le (show 0 < 1 by decide) (Nat.le_add_left _ _), fun m hm hle => ?_⟩
    have em := last_max rd hm hle
    subst em
    have u26 := u2.trans (u3.trans (u4.trans (u5.trans u6)))
    exact ⟨rfl, s1.trans u26, u26 _ _ ew⟩
  clear ew s1
  rintro σ' H1 ⟨rfl, s1, ew⟩
  obtain ⟨wd, rs, ews⟩ : ∃ wd rs, ws = wd :: rs := by
    cases ws with
    | nil => exact (sp.ne rfl).elim
    | cons a b => exact ⟨a, b, rfl⟩
  subst ews
  have h0 : atI ((wd :: rs).map V.str) 0 = some (.str wd) := atI_nat (j := 0) rfl
  have ecut : cutV ((wd :: rs).map V.str) (some 1) none = rs.map V.str := cut_tail _ _
  have lrs : ∀ z ∈ rs, z.length ≤ sizeLine := fun z hz => Nat.le_trans (sp.le z (List.mem_cons_of_mem _ hz)) (Nat.le_trans lr (by decide))
  -- a saying
  refine ⟨fun σ' H2 => σ' = [some (.str row), some (.ref t), some (.int s_.size), some (.int s_.coming), some (.ref la), some (.ref lb), some (.ref w), some (.int (lastF s_)), none, none, none, none] ∧ H2 = H1 ∧ wd ≠ "say", ?_, ?_⟩
  · refine ⟨.ref w, rfl, w, _, 0, .str wd, rfl, rfl, .inl (.inl ew), h0, rfl, _, rfl, ite2 (fun c => ?_) (fun c => ⟨rfl, rfl, fun e => c (decide_eq_true (by rw [e]))⟩)⟩
    have ewd : wd = "say" := V.str.inj (of_decide_eq_true c)
    subst ewd
    clear c
    refine ⟨fun σ' H2 => ∃ tv, σ' = [some (.str row), some (.ref t), some (.int s_.size), some (.int s_.coming), some (.ref la), some (.ref lb), some (.ref w), some (.int (lastF s_)), some tv, none, none, none] ∧ Same H' H2 ∧ ((∃ p xs, tv = .ref p ∧ H2 p = some (.lst xs) ∧ ThL rs [110, 110, 110, 110, 116] xs) ∨ (tv = .non ∧ ¬ Fits rs [110, 110, 110, 110, 116])), ?_, ?_⟩
    · refine ⟨.ref w, rfl, 1, rfl, w, _, rfl, .inl (.inl ew), fun p np => ?_⟩
      rw [ecut]
      have sp5 := same_upd (o := .lst (rs.map V.str)) np
      refine ⟨p, rs, "nnnnt", rfl, upd_same, lrs, by decide +kernel, fun zs ft H6 p6 s6 e6 => ?_, fun ft H6 s6 => ?_⟩
      · rw [k_5t] at ft
        exact ⟨_, rfl, (s1.trans sp5).trans s6, .inl ⟨p6, zs, rfl, e6, ft⟩⟩
      · rw [k_5t] at ft
        exact ⟨_, rfl, (s1.trans sp5).trans s6, .inr ⟨rfl, ft⟩⟩
    clear s1 ew
    rintro σ' H2 ⟨tv, rfl, s1, alt⟩
    refine ⟨fun σ' H3 => ∃ (p : Addr) (n a b c : Nat) (tt : Bool), σ' = [some (.str row), some (.ref t), some (.int s_.size), some (.int s_.coming), some (.ref la), some (.ref lb), some (.ref w), some (.int (lastF s_)), some (.ref p), none, none, none] ∧ H3 = H2 ∧ H2 p = some (.lst [.int (n : Int), .int (a : Int), .int (b : Int), .int (c : Int), .bl tt]) ∧ rs = [nS n, nS a, nS b, nS c, wayS tt] ∧ n < 10 ^ 40 ∧ a < 10 ^ 40 ∧ b < 10 ^ 40 ∧ c < 10 ^ 40 ∧ lastF s_ < (n : Int) ∧ (n : Int) < s_.coming ∧ s_.said.length < 24, ?_, ?_⟩
    · rcases alt with ⟨p, zs, rfl, ep, th⟩ | ⟨rfl, nf⟩
      · obtain ⟨n, a, b, c, tt, hn, ha, hb, hc, rfl, rfl⟩ := thl5 th
        refine ⟨.ref p, rfl, rfl, _, rfl, ite2 (fun y => absurd (of_decide_eq_true y) (by simp)) (fun _ => ?_)⟩
        refine ⟨.int (lastF s_), rfl, .ref p, rfl, p, _, 0, .int (n : Int), rfl, rfl, .inl (.inl ep), atI_nat (j := 0) rfl, _, _, rfl, rfl, _, rfl, ite2 (fun y => ?_) (fun y => ?_)⟩
        · have g1 : lastF s_ < (n : Int) := of_decide_eq_true y
          refine ⟨.int s_.coming, rfl, _, _, rfl, rfl, _, rfl, ite2 (fun y => ?_) (fun y => ?_)⟩
          · refine qn (fun ⟨s', h⟩ => ?_) _ s1
            have := (say_inv hws h).2.1
            simp [this] at y
          · have g2 : (n : Int) < s_.coming := by
              by_cases e : (n : Int) < s_.coming
              · exact e
              · simp [e] at y
            refine ⟨.ref la, rfl, la, _, rfl, .inl (.inl (.inl (s1 _ _ h3))), _, _, rfl, rfl, _, rfl, ite2 (fun y => ?_) (fun y => ?_)⟩
            · refine qn (fun ⟨s', h⟩ => ?_) _ s1
              have := (say_inv hws h).2.2.2
              have y := of_decide_eq_true y
              omega
            · have y : ¬ (24 : Int) ≤ (xs.length : Int) := fun z => y (decide_eq_true z)
              exact ⟨p, n, a, b, c, tt, rfl, rfl, ep, rfl, hn, ha, hb, hc, g1, g2, by omega⟩
        · refine ⟨false, rfl, iteT ?_⟩
          refine qn (fun ⟨s', h⟩ => ?_) _ s1
          exact y (decide_eq_true (say_inv hws h).1)
      · refine ⟨.non, rfl, rfl, _, rfl, iteT ?_⟩
        exact qn (fun ⟨s', h⟩ => nf (say_fits hws h)) _ s1
    clear alt
    rintro σ' H3 ⟨p, n, a, b, c, tt, rfl, eH, ep, rfl, hn, ha, hb, hc, g1, g2, g3⟩
    subst eH
    refine ⟨fun σ' H4 => σ' = [some (.str row), some (.ref t), some (.int s_.size), some (.int s_.coming), some (.ref la), some (.ref lb), some (.ref w), some (.int (lastF s_)), some (.ref p), some (.int (a : Int)), some (.int (b : Int)), some (.int (c : Int))] ∧ Same H3 H4, ?_, ?_⟩
    · refine ⟨.ref p, rfl, 1, rfl, 4, rfl, p, _, rfl, .inl (.inl ep), fun q5 nq5 => ?_⟩
      have ec : cutV [V.int (n : Int), .int (a : Int), .int (b : Int), .int (c : Int), .bl tt] (some 1) (some 4) = [.int (a : Int), .int (b : Int), .int (c : Int)] := rfl
      rw [ec]
      exact ⟨q5, _, rfl, .inl (.inl upd_same), rfl, _, _, rfl, _, _, rfl, _, _, rfl, rfl, rfl, same_upd nq5⟩
    rintro σ' H4 ⟨rfl, s4⟩
    refine ⟨fun σ' H5 => σ' = [some (.str row), some (.ref t), some (.int s_.size), some (.int s_.coming), some (.ref la), some (.ref lb), some (.ref w), some (.int (lastF s_)), some (.ref p), some (.int (a : Int)), some (.int (b : Int)), some (.int (c : Int))] ∧ H5 = H4 ∧ Gd2 s_.size ⟨a, b, c, tt⟩, ?_, ?_⟩
    · refine ⟨.int s_.size, rfl, .int (a : Int), rfl, .int (c : Int), rfl, s_.size, a, c, rfl, _, rfl, ite2 (fun y => ?_) (fun y => ?_)⟩
      · refine qn (fun ⟨s', h⟩ => ?_) _ (s1.trans s4)
        have g : St_ (a : Int) c s_.size := (say_inv hws h).2.2.1.1
        simp [g] at y
      · have k1 : St_ (a : Int) c s_.size := by
          by_cases e : St_ (a : Int) c s_.size
          · exact e
          · simp [e] at y
        refine ⟨.int s_.size, rfl, .int (b : Int), rfl, .int (c : Int), rfl, s_.size, b, c, rfl, _, rfl, ite2 (fun y => ?_) (fun y => ?_)⟩
        · refine qn (fun ⟨s', h⟩ => ?_) _ (s1.trans s4)
          have g : St_ (b : Int) c s_.size := (say_inv hws h).2.2.1.2
          simp [g] at y
        · have k2 : St_ (b : Int) c s_.size := by
            by_cases e : St_ (b : Int) c s_.size
            · exact e
            · simp [e] at y
          exact ⟨rfl, rfl, k1, k2⟩
    rintro σ' H5 ⟨rfl, eH, gd⟩
    subst eH
    refine ⟨.int s_.size, rfl, .int s_.coming, rfl, .ref la, rfl, .ref p, rfl, p, _, rfl, .inl ⟨.inl (.inl (s4 _ _ ep)), fun l nl => ?_⟩⟩
    have s6 := same_upd (o := .tup [V.int (n : Int), .int (a : Int), .int (b : Int), .int (c : Int), .bl tt]) nl
    have z6 : upd H5 l (.tup [V.int (n : Int), .int (a : Int), .int (b : Int), .int (c : Int), .bl tt]) l = some (.tup [V.int (n : Int), .int (a : Int), .int (b : Int), .int (c : Int), .bl tt]) := upd_same
    generalize upd H5 l (.tup [V.int (n : Int), .int (a : Int), .int (b : Int), .int (c : Int), .bl tt]) = H6 at s6 z6 ⊢
    refine ⟨szN 1 rfl, fun l7 n_l7 => ?_⟩
    generalize e_l7 : upd H6 l7 _ = H7
    have s7 := new_same e_l7 n_l7
    have z7 := new_at e_l7
    clear e_l7
    have s17 := s1.trans (s4.trans (s6.trans s7))
    refine ⟨la, l7, _, _, rfl, rfl, s17 _ _ h3, z7, Nat.le_trans (show _ ≤ 1000 by simp only [List.length_cons, List.length_nil]; omega) (by decide), ?_⟩
    intro l8 n_l8
    generalize e_l8 : upd H7 l8 _ = H8
    have s8 := new_same e_l8 n_l8
    have z8 := new_at e_l8
    clear e_l8
    have s18 := s17.trans s8
    refine ⟨.ref lb, rfl, ?_⟩
    refine ⟨szN 4 rfl, fun t9 n_t9 => ?_⟩
    generalize e_t9 : upd H8 t9 _ = H9
    have s9 := new_same e_t9 n_t9
    have z9 := new_at e_t9
    clear e_t9
    have s19 := s18.trans s9
    refine q _ (.say hws hn ha hb hc g1 g2 gd g3) _ _ s19 ⟨t9, l8, lb, _, ys, rfl, z9, s9 _ _ z8, ((RL.ts (TS.of s19) h4).snoc ⟨l, rfl, (s7.trans (s8.trans s9)) _ _ z6⟩), s19 _ _ h5, ML.ts (TS.of s19) h6, (na_.same s17).not n_l8, h8⟩
  rintro σ' H2 ⟨rfl, eH, nsay⟩
  subst eH
  refine ⟨fun σ' H3 => σ' = [some (.str row), some (.ref t), some (.int s_.size), some (.int s_.coming), some (.ref la), some (.ref lb), some (.ref w), some (.int (lastF s_)), some .non, none, none, none] ∧ H3 = H2, ⟨rfl, rfl⟩, ?_⟩
  rintro σ' H3 ⟨rfl, eH⟩
  subst eH
  refine ⟨fun σ' H4 => ∃ tv, σ' = [some (.str row), some (.ref t), some (.int s_.size), some (.int s_.coming), some (.ref la), some (.ref lb), some (.ref w), some (.int (lastF s_)), some tv, none, none, none] ∧ Same H' H4 ∧ ((∃ p xs, tv = .ref p ∧ H4 p = some (.lst xs) ∧ wd = "note" ∧ ThL rs [110, 119, 110, 110] xs) ∨ (tv = .non ∧ ¬ ∃ s', RowOk s_ row s')), ?_, ?_⟩
  · refine ⟨.ref w, rfl, w, _, 0, .str wd, rfl, rfl, .inl (.inl ew), h0, rfl, _, rfl, ite2 (fun c => ?_) (fun c => ?_)⟩
    · have ewd : wd = "note" := V.str.inj (of_decide_eq_true c)
      subst ewd
      refine ⟨.ref w, rfl, 1, rfl, w, _, rfl, .inl (.inl ew), fun p np => ?_⟩
      rw [ecut]
      have sp5 := same_upd (o := .lst (rs.map V.str)) np
      refine ⟨p, rs, "nwnn", rfl, upd_same, lrs, by decide +kernel, fun zs ft H6 p6 s6 e6 => ?_, fun ft H6 s6 => ?_⟩
      · rw [k_4n] at ft
        exact ⟨_, rfl, (s1.trans sp5).trans s6, .inl ⟨p6, zs, rfl, e6, rfl, ft⟩⟩
      · rw [k_4n] at ft
        exact ⟨_, rfl, (s1.trans sp5).trans s6, .inr ⟨rfl, fun ⟨s', h⟩ => ft (note_fits hws h)⟩⟩
    · refine ⟨_, rfl, s1, .inr ⟨rfl, fun ⟨s', h⟩ => ?_⟩⟩
      rcases hd_inv hws h with e | e
      · exact nsay e
      · exact c (decide_eq_true (by rw [e]))
  clear s1 ew
  rintro σ' H4 ⟨tv, rfl, s1, alt⟩
  refine ⟨fun σ' H5 => ∃ (p : Addr) (n a c : Nat) (z : Str), σ' = [some (.str row), some (.ref t), some (.int s_.size), some (.int s_.coming), some (.ref la), some (.ref lb), some (.ref w), some (.int (lastF s_)), some (.ref p), none, none, none] ∧ H5 = H4 ∧ H4 p = some (.lst [.int (n : Int), .str z, .int (a : Int), .int (c : Int)]) ∧ wd = "note" ∧ rs = [nS n, z, nS a, nS c] ∧ n < 10 ^ 40 ∧ a < 10 ^ 40 ∧ c < 10 ^ 40 ∧ lastF s_ < (n : Int) ∧ (n : Int) < s_.coming ∧ s_.noted.length < 24, ?_, ?_⟩
  · rcases alt with ⟨p, zs, rfl, ep, rfl, th⟩ | ⟨rfl, nf⟩
    · obtain ⟨n, z, a, c, hn, ha, hc, rfl, rfl⟩ := thl4 th
      refine ⟨.ref p, rfl, rfl, _, rfl, ite2 (fun y => absurd (of_decide_eq_true y) (by simp)) (fun _ => ?_)⟩
      refine ⟨.int (lastF s_), rfl, .ref p, rfl, p, _, 0, .int (n : Int), rfl, rfl, .inl (.inl ep), atI_nat (j := 0) rfl, _, _, rfl, rfl, _, rfl, ite2 (fun y => ?_) (fun y => ?_)⟩
      · have g1 : lastF s_ < (n : Int) := of_decide_eq_true y
        refine ⟨.int s_.coming, rfl, _, _, rfl, rfl, _, rfl, ite2 (fun y => ?_) (fun y => ?_)⟩
        · refine qn (fun ⟨s', h⟩ => ?_) _ s1
          have := (note_inv hws h).2.1
          simp [this] at y
        · have g2 : (n : Int) < s_.coming := by
            by_cases e : (n : Int) < s_.coming
            · exact e
            · simp [e] at y
          refine ⟨.ref lb, rfl, lb, _, rfl, .inl (.inl (.inl (s1 _ _ h5))), _, _, rfl, rfl, _, rfl, ite2 (fun y => ?_) (fun y => ?_)⟩
          · refine qn (fun ⟨s', h⟩ => ?_) _ s1
            have := (note_inv hws h).2.2.2.2
            have y := of_decide_eq_true y
            omega
          · have y : ¬ (24 : Int) ≤ (ys.length : Int) := fun z => y (decide_eq_true z)
            exact ⟨p, n, a, c, z, rfl, rfl, ep, rfl, rfl, hn, ha, hc, g1, g2, by omega⟩
      · refine ⟨false, rfl, iteT ?_⟩
        refine qn (fun ⟨s', h⟩ => ?_) _ s1
        exact y (decide_eq_true (note_inv hws h).1)
    · refine ⟨.non, rfl, rfl, _, rfl, iteT ?_⟩
      exact qn nf _ s1
  clear alt
  rintro σ' H5 ⟨p, n, a, c, z, rfl, eH, ep, rfl, rfl, hn, ha, hc, g1, g2, g3⟩
  subst eH
  have lz : z.length ≤ sizeLine := lrs z (by simp)
  refine ⟨fun σ' H6 => σ' = [some (.str row), some (.ref t), some (.int s_.size), some (.int s_.coming), some (.ref la), some (.ref lb), some (.ref w), some (.int (lastF s_)), some (.ref p), none, none, none] ∧ H6 = H5 ∧ Ltr z, ?_, ?_⟩
  · refine ⟨.ref p, rfl, p, _, 1, .str z, rfl, rfl, .inl (.inl ep), atI_nat (j := 1) rfl, z, rfl, lz, rfl, _, rfl, ?_⟩
    by_cases hl : z.length = 1
    · obtain ⟨ch, rfl⟩ := str_one hl
      rw [show (!decide (V.int ((Str.length ⟨#[ch]⟩ : Nat) : Int) = V.int 1)) = false by show (!decide (V.int ((1 : Nat) : Int) = V.int 1)) = false; decide]
      refine iteF ?_
      refine ⟨.ref p, rfl, p, _, 1, .str ⟨#[ch]⟩, rfl, rfl, .inl (.inl ep), atI_nat (j := 1) rfl, ch, "abcdefghijklmnopqrstuvwxyz", rfl, rfl, _, rfl, ?_⟩
      by_cases g : Ltr ⟨#[ch]⟩
      · rw [decide_eq_true (abc_mem.mpr (ltr_one.mp g))]
        exact iteF ⟨rfl, rfl, g⟩
      · rw [decide_eq_false (fun y => g (ltr_one.mpr (abc_mem.mp y)))]
        refine iteT ?_
        exact qn (fun ⟨s', h⟩ => g (note_inv hws h).2.2.1) _ s1
    · rw [show (!decide (V.int ((Str.length z : Nat) : Int) = V.int 1)) = true by
        rw [decide_eq_false (fun y => hl (by have := V.int.inj y; omega))]; rfl]
      refine iteT ?_
      exact qn (fun ⟨s', h⟩ => hl (note_inv hws h).2.2.1.len) _ s1
  rintro σ' H6 ⟨rfl, eH, hz⟩
  subst eH
  refine ⟨fun σ' H7 => σ' = [some (.str row), some (.ref t), some (.int s_.size), some (.int s_.coming), some (.ref la), some (.ref lb), some (.ref w), some (.int (lastF s_)), some (.ref p), none, none, none] ∧ H7 = H6 ∧ St_ (a : Int) c s_.size, ?_, ?_⟩
  · refine ⟨.int s_.size, rfl, .ref p, rfl, p, _, 2, .int (a : Int), rfl, rfl, .inl (.inl ep), atI_nat (j := 2) rfl, .ref p, rfl, p, _, 3, .int (c : Int), rfl, rfl, .inl (.inl ep), atI_nat (j := 3) rfl, s_.size, a, c, rfl, _, rfl, ite2 (fun y => ?_) (fun y => ?_)⟩
    · refine qn (fun ⟨s', h⟩ => ?_) _ s1
      have g : St_ (a : Int) c s_.size := (note_inv hws h).2.2.2.1
      simp [g] at y
    · refine ⟨rfl, rfl, ?_⟩
      by_cases e : St_ (a : Int) c s_.size
      · exact e
      · simp [e] at y
  rintro σ' H7 ⟨rfl, eH, gs⟩
  subst eH
  refine ⟨.int s_.size, rfl, .int s_.coming, rfl, .ref la, rfl, .ref lb, rfl, .ref p, rfl, p, _, rfl, .inl ⟨.inl (.inl ep), fun l nl => ?_⟩⟩
  have s6 := same_upd (o := .tup [V.int (n : Int), .str z, .int (a : Int), .int (c : Int)]) nl
  have z6 : upd H7 l (.tup [V.int (n : Int), .str z, .int (a : Int), .int (c : Int)]) l = some (.tup [V.int (n : Int), .str z, .int (a : Int), .int (c : Int)]) := upd_same
  generalize upd H7 l (.tup [V.int (n : Int), .str z, .int (a : Int), .int (c : Int)]) = H8 at s6 z6 ⊢
  refine ⟨szN 1 rfl, fun l7 n_l7 => ?_⟩
  generalize e_l7 : upd H8 l7 _ = H9
  have s7 := new_same e_l7 n_l7
  have z7 := new_at e_l7
  clear e_l7
  have s17 := s1.trans (s6.trans s7)
  refine ⟨lb, l7, _, _, rfl, rfl, s17 _ _ h5, z7, Nat.le_trans (show _ ≤ 1000 by simp only [List.length_cons, List.length_nil]; omega) (by decide), ?_⟩
  intro l8 n_l8
  generalize e_l8 : upd H9 l8 _ = HA
  have s8 := new_same e_l8 n_l8
  have z8 := new_at e_l8
  clear e_l8
  have s18 := s17.trans s8
  refine ⟨szN 4 rfl, fun t9 n_t9 => ?_⟩
  generalize e_t9 : upd HA t9 _ = HB
  have s9 := new_same e_t9 n_t9
  have z9 := new_at e_t9
  clear e_t9
  have s19 := s18.trans s9
  exact q _ (.note hws hn ha hc g1 g2 hz gs g3) _ _ s19 ⟨t9, la, l8, xs, _, rfl, z9, s19 _ _ h3, RL.ts (TS.of s19) h4, s9 _ _ z8, ((ML.ts (TS.of s19) h6).snoc ⟨l, rfl, (s7.trans (s8.trans s9)) _ _ z6⟩), h7, (na_.same s17).not n_l8⟩
end
end Rep
namespace Rep
open PySem L2 L2H RepHot
/-! the law's own reading of a page, whole -/
abbrev N0 : Addr → Prop := fun _ => False
theorem na0 (H : Hp) : NA N0 H := fun _ z => z.elim
theorem song_fits {s' : Sht} {row : Str} {rs : List Str} (e : Txt.split row " " = ("song" : Str) :: rs) (h : SongOk row s') : Fits rs [110, 110] := by
  obtain ⟨a, b, e', h1, h2, h3, _⟩ := h
  rw [e] at e'
  cases e'
  exact ⟨f_n h1, f_n (Nat.lt_of_le_of_lt h3 (by decide)), trivial⟩
theorem song_hd {s' : Sht} {row wd : Str} {rs : List Str} (e : Txt.split row " " = wd :: rs) (h : SongOk row s') : wd = "song" := by
  obtain ⟨a, b, e', _⟩ := h
  rw [e] at e'
  exact (List.cons.inj e').1
theorem song_inv {s' : Sht} {row : Str} {a b : Nat} (e : Txt.split row " " = [("song" : Str), nS a, nS b]) (h : SongOk row s') : 1 ≤ b ∧ b ≤ 999999 := by
  obtain ⟨a', b', e', _, h2, h3, _⟩ := h
  rw [e] at e'
  simp only [List.cons.injEq, and_true, true_and] at e'
  rw [nS_inj e'.2]
  exact ⟨h2, h3⟩
def spDp : Sp := fun vs H Q _ => ∃ x : Str, vs = [.str x] ∧ x.length ≤ 1000000 ∧
  (∀ s, Reach (Txt.split x "\n") (Txt.split x "\n").length (some s) → ∀ H' p v, Same H H' → H' p = some (.tup [.int (-1), v]) → StAt N0 H' v s → Q (.ref p) H') ∧
  (∀ (i : Nat) (o : Option Sht) (row : Str), Reach (Txt.split x "\n") i o → (Txt.split x "\n")[i]? = some row → (¬ ∃ s', StpR row s' o) → ∀ H' p, Same H H' → H' p = some (.tup [.int (i : Int), .non]) → Q (.ref p) H')
abbrev nDp : List Str := ["_law_text", "_law_rows", "_law_words", "_law_things_here", "_law_state", "_law_at"]
theorem scDp : FnScope nDp ["_law_text"] (defScope s_law_due_page) := ⟨rfl, rfl, rfl, by decide +kernel, rfl, by decide +kernel, by decide +kernel⟩
structure TDp (Pg : Program) (w : World) (K : PySem.W.Frag) (mg : Str → Option Value) (base : Heap) (fTh fDr : Addr) (fdTh fdDr : FuncData) : Prop where
  gTh : FnOk Pg w K mg base CX0 9 fTh fdTh ["_law_words", "_law_kinds"] spTh
  bTh : Binds K fdTh ["_law_words", "_law_kinds"] []
  kTh : PySem.W.keepIn K (.ref fTh) = true
  mTh : mg "_law_things" = some (.ref fTh)
  gDr : FnOk Pg w K mg base CX0 10 fDr fdDr ["_law_row", "_law_state"] spDr
  bDr : Binds K fdDr ["_law_row", "_law_state"] []
  kDr : PySem.W.keepIn K (.ref fDr) = true
  mDr : mg "_law_due_row" = some (.ref fDr)
  ml : mg "len" = none
  mR : mg "range" = none
section
variable {Pg : Program} {w : World} {K : PySem.W.Frag} {mg : Str → Option Value} {base : Heap} {fTh fDr : Addr} {fdTh fdDr : FuncData}
theorem ok_dp {f : Addr} {fd : FuncData} (F : Fun K "_law_due_page" "_law_due_page" s_law_due_page f fd) (T : TDp Pg w K mg base fTh fDr fdTh fdDr) : FnOk Pg w K mg base CX0 11 f fd ["_law_text"] spDp := by
  refine F.ok scDp (fun vs H Q E h => ?_) (fun cdv A outer s H vs Q E hr h => ?_)
  · obtain ⟨x, rfl, _⟩ := h; rfl
  obtain ⟨x, rfl, lx, q, qx⟩ := h
  have r10 : Room 10 _ := hr
  have r9 : Room 9 _ := hr.mono (by decide)
  refine ⟨_, (C8.pss_cut (ps_set (i := 1) scDp.nd rfl (.inl rfl) (pe_split (pv 0) pe_str))
    (C8.pss_cut (ps_set (i := 2) scDp.nd rfl (.inl rfl) (pe_split (pe_ix ix_list (pv 1) pe_int (fun _ _ => rfl)) pe_str))
    (C8.pss_cut (ps_set (i := 3) scDp.nd rfl (.inl rfl) pe_non)
    (C8.pss_cut (ps_if (pt_cmpR op_eq (pe_ix ix_list (pv 2) pe_int (fun _ _ => rfl)) pe_str (nomark _)) (pss_one (ps_set (i := 3) scDp.nd rfl (.inl rfl) (pe_call T.gTh r9 (by rfl) T.mTh T.kTh T.bTh .nil pass0 (pa_cons (pe_slice sl_list (pv 2) (po_some pe_int) po_none) (pa_cons pe_str pa_nil))))) pss_nil)
    (C8.pss_cut (ps_if (PW.pt (pw_or (pt_cmpR op_isN (pv 3) pe_non (nomark _)) (pw_or (pt_cmpR op_ge (pe_ix ix_list (pv 3) pe_int (fun _ _ => rfl)) (pe_op op_pow pe_int pe_int) (nomark _)) (pw_or (pt_cmpR op_lt (pe_ix ix_list (pv 3) pe_int (fun _ _ => rfl)) pe_int (nomark _)) (pw_or1 (pt_cmpR op_gt (pe_ix ix_list (pv 3) pe_int (fun _ _ => rfl)) pe_int (nomark _))))))) (pss_one (ps_ret (pe_tup (pa_cons pe_int (pa_cons pe_non pa_nil))))) pss_nil)
    (C8.pss_cut (ps_set (i := 4) scDp.nd rfl (.inl rfl) (pe_tup (pa_cons (pe_ix ix_list (pv 3) pe_int (fun _ _ => rfl)) (pa_cons (pe_ix ix_list (pv 3) pe_int (fun _ _ => rfl)) (pa_cons (pe_lst pa_nil) (pa_cons (pe_lst pa_nil) pa_nil))))))
    (C8.pss_cut (ps_for PassesOwn.never rfl (pi_range2 rfl T.mR (pa_cons pe_int (pa_cons (pe_callB call_len_seq (by rfl) T.ml PySem.boot_len (pa_cons (pv 1) pa_nil)) pa_nil))) (pg_name (i := 5) scDp.nd rfl (.inl rfl))
      (C8.pss_cut (ps_set (i := 4) scDp.nd rfl (.inl rfl) (pe_call T.gDr r10 (by rfl) T.mDr T.kDr T.bDr .nil pass0 (pa_cons (pe_ix ix_list (pv 1) (pv 5) (fun _ _ => rfl)) (pa_cons (pv 4) pa_nil))))
    (pss_one (ps_if (pt_cmpR op_isN (pv 4) pe_non (nomark _)) (pss_one (ps_ret (pe_tup (pa_cons (pv 5) (pa_cons pe_non pa_nil))))) pss_nil))))
    (pss_one (ps_ret (pe_tup (pa_cons (pe_un un_neg pe_int) (pa_cons (pv 4) pa_nil)))))))))))), ?_⟩
  have sp := spt_n x
  generalize hrows : Txt.split x "\n" = rows at sp q qx
  have lrow : ∀ row ∈ rows, row.length ≤ 1000000 := fun row hr => Nat.le_trans (sp.le row hr) lx
  have lln : rows.length ≤ 1000001 := Nat.le_trans sp.len (Nat.add_le_add_right lx 1)
  refine ⟨fun σ' H1 => ∃ l, σ' = [some (.str x), some (.ref l), none, none, none, none] ∧ Same H H1 ∧ H1 l = some (.lst (rows.map V.str)), ?_, ?_⟩
  · refine ⟨.str x, rfl, ⟨_, rfl⟩, x, "\n", rfl, rfl, by decide +kernel, Nat.le_trans (Nat.add_le_add_right lx 2) (by decide), fun p np => ?_⟩
    rw [hrows]
    exact ⟨p, rfl, same_upd np, upd_same⟩
  rintro σ' H1 ⟨l, rfl, s1, el⟩
  obtain ⟨row0, rest, er⟩ : ∃ row0 rest, rows = row0 :: rest := by
    cases rows with
    | nil => exact (sp.ne rfl).elim
    | cons a b => exact ⟨a, b, rfl⟩
  have hrow0 : rows[0]? = some row0 := by rw [er]; rfl
  have l0 := lrow row0 (by rw [er]; exact List.mem_cons_self)
  have a0 : atI (rows.map V.str) 0 = some (.str row0) := atI_nat (j := 0) (by rw [er]; rfl)
  have spw := spt_w row0
  generalize hws : Txt.split row0 " " = ws at spw
  refine ⟨fun σ' H2 => ∃ w, σ' = [some (.str x), some (.ref l), some (.ref w), none, none, none] ∧ Same H1 H2 ∧ H2 w = some (.lst (ws.map V.str)), ?_, ?_⟩
  · refine ⟨.ref l, rfl, l, _, 0, .str row0, rfl, rfl, .inl (.inl el), a0, ⟨_, rfl⟩, row0, " ", rfl, rfl, by decide +kernel, Nat.le_trans (Nat.add_le_add_right l0 2) (by decide), fun p np => ?_⟩
    rw [hws]
    exact ⟨p, rfl, same_upd np, upd_same⟩
  rintro σ' H2 ⟨w, rfl, s2, ew⟩
  replace el := s2 _ _ el
  replace s2 := s1.trans s2
  obtain ⟨wd, rs, ews⟩ : ∃ wd rs, ws = wd :: rs := by
    cases ws with
    | nil => exact (spw.ne rfl).elim
    | cons a b => exact ⟨a, b, rfl⟩
  subst ews
  have h0 : atI ((wd :: rs).map V.str) 0 = some (.str wd) := atI_nat (j := 0) rfl
  have ecut : cutV ((wd :: rs).map V.str) (some 1) none = rs.map V.str := cut_tail _ _
  have lrs : ∀ z ∈ rs, z.length ≤ sizeLine := fun z hz => Nat.le_trans (spw.le z (List.mem_cons_of_mem _ hz)) (Nat.le_trans l0 (by decide))
  refine ⟨fun σ' H3 => σ' = [some (.str x), some (.ref l), some (.ref w), some .non, none, none] ∧ H3 = H2, ⟨rfl, rfl⟩, ?_⟩
  rintro σ' H3 ⟨rfl, eH⟩
  subst eH
  have no0 : (¬ ∃ s', SongOk row0 s') → ∀ H' p, Same H H' → H' p = some (.tup [.int 0, .non]) → Q (.ref p) H' := fun nn H' p s e => qx 0 none row0 .zero hrow0 nn H' p s e
  refine ⟨fun σ' H4 => ∃ tv, σ' = [some (.str x), some (.ref l), some (.ref w), some tv, none, none] ∧ Same H3 H4 ∧ ((∃ p xs, tv = .ref p ∧ H4 p = some (.lst xs) ∧ wd = "song" ∧ ThL rs [110, 110] xs) ∨ (tv = .non ∧ ¬ ∃ s', SongOk row0 s')), ?_, ?_⟩
  · refine ⟨.ref w, rfl, w, _, 0, .str wd, rfl, rfl, .inl (.inl ew), h0, rfl, _, rfl, ite2 (fun c => ?_) (fun c => ?_)⟩
    · have ewd : wd = "song" := V.str.inj (of_decide_eq_true c)
      subst ewd
      refine ⟨.ref w, rfl, 1, rfl, w, _, rfl, .inl (.inl ew), fun p np => ?_⟩
      rw [ecut]
      have sp5 := same_upd (o := .lst (rs.map V.str)) np
      refine ⟨p, rs, "nn", rfl, upd_same, lrs, by decide +kernel, fun zs ft H6 p6 s6 e6 => ?_, fun ft H6 s6 => ?_⟩
      · rw [k_2n] at ft
        exact ⟨_, rfl, sp5.trans s6, .inl ⟨p6, zs, rfl, e6, rfl, ft⟩⟩
      · rw [k_2n] at ft
        exact ⟨_, rfl, sp5.trans s6, .inr ⟨rfl, fun ⟨s', h⟩ => ft (song_fits hws h)⟩⟩
    · refine ⟨_, rfl, Same.refl _, .inr ⟨rfl, fun ⟨s', h⟩ => ?_⟩⟩
      exact c (decide_eq_true (by rw [song_hd hws h]))
  clear ew
  rintro σ' H4 ⟨tv, rfl, s4, alt⟩
  have el4 := s4 _ _ el
  have s24 := s2.trans s4
  refine ⟨fun σ' H5 => ∃ (p : Addr) (a b : Nat), σ' = [some (.str x), some (.ref l), some (.ref w), some (.ref p), none, none] ∧ H5 = H4 ∧ H4 p = some (.lst [.int (a : Int), .int (b : Int)]) ∧ SongOk row0 ⟨a, b, [], []⟩, ?_, ?_⟩
  · have bad : (¬ ∃ s', SongOk row0 s') → ∀ t, H4 t = none → Q (.ref t) (upd H4 t (.tup [.int 0, .non])) := fun nn t nt => no0 nn _ t (s24.trans (same_upd nt)) upd_same
    rcases alt with ⟨p, zs, rfl, ep, rfl, th⟩ | ⟨rfl, nf⟩
    · obtain ⟨a, b, ha, hb, rfl, rfl⟩ := thl2 th
      have hi : ∀ s', SongOk row0 s' → 1 ≤ b ∧ b ≤ 999999 := fun s' h => song_inv hws h
      have ha' : (a : Int) < 10 ^ 40 := by exact_mod_cast ha
      refine ⟨.ref p, rfl, rfl, _, rfl, ite2 (fun y => absurd (of_decide_eq_true y) (by simp)) (fun _ => ?_)⟩
      refine ⟨.ref p, rfl, p, _, 0, .int (a : Int), rfl, rfl, .inl (.inl ep), atI_nat (j := 0) rfl, 10, 40, rfl, rfl, p40, _, _, rfl, rfl, _, rfl, ite2 (fun y => ?_) (fun _ => ?_)⟩
      · have y : (10 : Int) ^ 40 ≤ (a : Int) := of_decide_eq_true y
        omega
      refine ⟨.ref p, rfl, p, _, 1, .int (b : Int), rfl, rfl, .inl (.inl ep), atI_nat (j := 1) rfl, _, _, rfl, rfl, _, rfl, ite2 (fun y => ?_) (fun y => ?_)⟩
      · have y : (b : Int) < 1 := of_decide_eq_true y
        refine iteT ?_
        refine ⟨szN 2 rfl, fun t nt => ?_⟩
        exact bad (fun ⟨s', h⟩ => by have := (hi s' h).1; omega) t nt
      have b1 : ¬ (b : Int) < 1 := fun z => y (decide_eq_true z)
      refine ⟨.ref p, rfl, p, _, 1, .int (b : Int), rfl, rfl, .inl (.inl ep), atI_nat (j := 1) rfl, _, _, rfl, rfl, _, rfl, ite2 (fun y => ?_) (fun y => ?_)⟩
      · have y : (999999 : Int) < (b : Int) := of_decide_eq_true y
        refine ⟨szN 2 rfl, fun t nt => ?_⟩
        exact bad (fun ⟨s', h⟩ => by have := (hi s' h).2; omega) t nt
      have b2 : ¬ (999999 : Int) < (b : Int) := fun z => y (decide_eq_true z)
      exact ⟨p, a, b, rfl, rfl, ep, a, b, hws, ha, by omega, by omega, rfl⟩
    · refine ⟨.non, rfl, rfl, _, rfl, iteT ?_⟩
      refine ⟨szN 2 rfl, fun t nt => ?_⟩
      exact bad nf t nt
  clear alt
  rintro σ' H5 ⟨p, a, b, rfl, eH, ep, ok0⟩
  subst eH
  refine ⟨fun σ' H6 => ∃ t, σ' = [some (.str x), some (.ref l), some (.ref w), some (.ref p), some (.ref t), none] ∧ Same H5 H6 ∧ StAt N0 H6 (.ref t) ⟨a, b, [], []⟩, ?_, ?_⟩
  · refine ⟨.ref p, rfl, p, _, 0, .int (a : Int), rfl, rfl, .inl (.inl ep), atI_nat (j := 0) rfl, .ref p, rfl, p, _, 1, .int (b : Int), rfl, rfl, .inl (.inl ep), atI_nat (j := 1) rfl, ?_⟩
    refine ⟨szN 0 rfl, fun la n_la => ?_⟩
    generalize e_la : upd H5 la _ = H6
    have u6 := new_same e_la n_la
    have z6 := new_at e_la
    clear e_la
    refine ⟨szN 0 rfl, fun lb n_lb => ?_⟩
    generalize e_lb : upd H6 lb _ = H7
    have u7 := new_same e_lb n_lb
    have z7 := new_at e_lb
    clear e_lb
    refine ⟨szN 4 rfl, fun t n_t => ?_⟩
    generalize e_t : upd H7 t _ = H8
    have u8 := new_same e_t n_t
    have z8 := new_at e_t
    clear e_t
    exact ⟨t, rfl, u6.trans (u7.trans u8), ⟨t, la, lb, [], [], rfl, z8, (u7.trans u8) _ _ z6, LL.nil, u8 _ _ z7, LL.nil, id, id⟩⟩
  rintro σ' H6 ⟨t, rfl, s6, st⟩
  have s26 := s24.trans s6
  have el6 := s6 _ _ el4
  refine ⟨fun σ' H7 => ∃ sv s_ y5, σ' = [some (.str x), some (.ref l), some (.ref w), some (.ref p), some sv, y5] ∧ Same H H7 ∧ StAt N0 H7 sv s_ ∧ Reach rows rows.length (some s_), ?_, ?_⟩
  · have hpos : 1 ≤ rows.length := by rw [er]; exact Nat.le_add_left _ _
    refine ⟨.ref l, rfl, l, _, rfl, .inl (.inl (.inl el6)), 1, _, rfl, ⟨by decide, by decide, by rw [List.length_map]; omega, by rw [List.length_map]; omega⟩, ?_⟩
    have en : (((rows.map V.str).length : Nat) : Int) - 1 = ((rows.length - 1 : Nat) : Int) := by rw [List.length_map]; omega
    have en2 : ((((rows.map V.str).length : Nat) : Int) - 1).toNat = rows.length - 1 := by rw [en]; rfl
    refine for_range (lo := 1) (n := ((((rows.map V.str).length : Nat) : Int) - 1).toNat) (fun j σ' H7 => ∃ sv s_ y5, σ' = [some (.str x), some (.ref l), some (.ref w), some (.ref p), some sv, y5] ∧ Same H6 H7 ∧ StAt N0 H7 sv s_ ∧ Reach rows (j + 1) (some s_)) ⟨_, _, none, rfl, Same.refl _, st, .next .zero hrow0 ok0⟩ (fun j σ' H7 hj hP => ?_) (fun σ' H7 hP => ?_)
    · clear st
      obtain ⟨sv, s_, y5, rfl, s7, st, rc⟩ := hP
      rw [en2] at hj
      have hj1 : j + 1 < rows.length := by omega
      obtain ⟨rowj, hrj⟩ : ∃ rowj, rows[j + 1]? = some rowj := ⟨_, List.getElem?_eq_getElem hj1⟩
      have aj : atI (rows.map V.str) (1 + (j : Int)) = some (.str rowj) := by
        rw [show (1 : Int) + (j : Int) = ((j + 1 : Nat) : Int) by omega]
        exact atI_nat (by rw [List.getElem?_map, hrj]; rfl)
      have lj := lrow rowj (List.mem_of_getElem? hrj)
      have sl7 : H7 l = some (.lst (rows.map V.str)) := s7 _ _ el6
      have s07 := s26.trans s7
      refine ⟨fun σ' H8 => ∃ tv, σ' = [some (.str x), some (.ref l), some (.ref w), some (.ref p), some tv, some (.int (1 + (j : Int)))] ∧ Same H7 H8 ∧ ((∃ s', StAt N0 H8 tv s' ∧ RowOk s_ rowj s') ∨ (tv = .non ∧ ¬ ∃ s', RowOk s_ rowj s')), ?_, ?_⟩
      · refine ⟨.ref l, rfl, .int (1 + (j : Int)), rfl, l, _, _, .str rowj, rfl, rfl, .inl (.inl sl7), aj, sv, rfl, rowj, sv, N0, s_, rfl, st, na0 _, rc.rd, lj, fun s' ok H8 v' s8 st8 => ?_, fun nn H8 s8 => ?_⟩
        · exact ⟨_, rfl, s8, .inl ⟨s', st8, ok⟩⟩
        · exact ⟨_, rfl, s8, .inr ⟨rfl, nn⟩⟩
      rintro σ' H8 ⟨tv, rfl, s8, alt⟩
      have s78 := s7.trans s8
      have s08 := s26.trans s78
      rcases alt with ⟨s', st8, ok⟩ | ⟨rfl, nn⟩
      · obtain ⟨t8, la8, lb8, xs8, ys8, rfl, _⟩ := id st8.ex
        refine ⟨.ref t8, rfl, rfl, _, rfl, ite2 (fun y => absurd (of_decide_eq_true y) (by simp)) (fun _ => ?_)⟩
        exact ⟨_, s', _, rfl, s78, st8, .next rc hrj ok⟩
      · refine ⟨.non, rfl, rfl, _, rfl, iteT ?_⟩
        refine ⟨.int (1 + (j : Int)), rfl, ?_⟩
        refine ⟨szN 2 rfl, fun t9 nt9 => ?_⟩
        refine qx (j + 1) (some s_) rowj rc hrj nn _ t9 (s08.trans (same_upd nt9)) ?_
        rw [upd_same, show (1 : Int) + (j : Int) = ((j + 1 : Nat) : Int) by omega]
    · obtain ⟨sv, s_, y5, rfl, s7, st7, rc⟩ := hP
      rw [en2, show rows.length - 1 + 1 = rows.length by omega] at rc
      exact ⟨sv, s_, y5, rfl, s26.trans s7, st7, rc⟩
  rintro σ' H7 ⟨sv, s_, y5, rfl, s7, st7, rc⟩
  refine ⟨1, rfl, sv, rfl, ?_⟩
  refine ⟨szN 2 rfl, fun t9 n_t9 => ?_⟩
  generalize e_t9 : upd H7 t9 _ = H9
  have s9 := new_same e_t9 n_t9
  have z9 := new_at e_t9
  clear e_t9
  exact q s_ rc H9 t9 sv (s7.trans s9) z9 (st7.same s9)
end
end Rep
/-! what is walked and taken apart while an exception is handled -/
namespace RepHot2
open PySem PySem.Spec PyProof.Rows L2 L2H HotX RepHot
section
variable {prog : Program} {w : World} {A : Around} {E : Value → Shared → Prop} {s : Shared}
/-- the exception that is handled at x; its context is none, or the exception at y, whose context is none -/
def Ch (A : Around) (x : Addr) (yo : Option Addr) (h : Heap) : Prop := A.handled = some (.ref x) ∧ ∃ (o : Obj) (vs : Array Value), h.get? x = some o ∧ o.data = .fields vs ∧
  ((yo = none ∧ vs[2]? = some .none) ∨ ∃ y, yo = some y ∧ vs[2]? = some (.ref y) ∧ y ≠ x ∧ ∃ (oy : Obj) (ws : Array Value), h.get? y = some oy ∧ oy.data = .fields ws ∧ ws[2]? = some .none)
theorem Ch.kp {x : Addr} {yo : Option Addr} {h h' : Heap} (t : Ch A x yo h) (k : ∀ o, h.get? x = some o → h'.get? x = some o) (k2 : ∀ y, yo = some y → ∀ o, h.get? y = some o → h'.get? y = some o) : Ch A x yo h' := by
  obtain ⟨a, o, vs, e, d, c⟩ := t
  refine ⟨a, o, vs, k _ e, d, c.imp id fun ⟨y, e1, e2, e3, oy, ws, g, r⟩ => ⟨y, e1, e2, e3, oy, ws, k2 y e1 _ g, r⟩⟩
theorem Ch.there {x : Addr} {yo : Option Addr} {h : Heap} (t : Ch A x yo h) : ∃ o, h.get? x = some o := by
  obtain ⟨_, o, _, e, _⟩ := t
  exact ⟨o, e⟩
theorem Ch.thereY {x y : Addr} {yo : Option Addr} {h : Heap} (t : Ch A x yo h) (z : yo = some y) : ∃ o, h.get? y = some o := by
  obtain ⟨_, o, _, _, _, c⟩ := t
  rcases c with ⟨e, _⟩ | ⟨y', e, _, _, oy, _, g, _⟩
  · rw [e] at z; cases z
  · rw [e] at z; cases z; exact ⟨oy, g⟩
theorem unchained2 {x1 a : Addr} {yo : Option Addr} {Q : Value → Shared → Prop} (t : Ch A x1 yo s.heap) (na : ∀ y, yo = some y → y ≠ a) (q : Q .none s) :
    wpAny (model prog w) A (holding [Value.ref a] (runValue (.builtin "proto.unchain" ⟨[.ref a, .ref x1, .ref x1, .bool false], []⟩))) Q E s := by
  obtain ⟨_, o1, vs1, h1, d1, c⟩ := t
  rcases c with ⟨_, c1⟩ | ⟨y, ey, c1, yx, oy, ws, hy, dy, cy⟩
  · exact unchained h1 d1 c1 q
  · have ya := na y ey
    refine wpAny_holding (wpAny_runValue (codeAny_builtin HotX.entry_unchain ?_))
    show wpAny _ _ (field (.ref x1) 2 >>= _) _ _ s
    refine wpAny_bind (wpAny_field h1 d1 c1 ?_)
    have n1 : (Value.ref y == Value.none) = false := rfl
    have n2 : (Value.ref y == Value.ref a) = false := by simp [ya]
    have n3 : (Value.ref y == Value.ref x1) = false := by simp [yx]
    simp only [n1, n2, n3, Bool.false_eq_true, if_false]
    refine wpAny_bind (wpAny_pure (wpAny_pure ⟨Code.quiet_builtin _ (by decide +kernel), codeAny_builtin HotX.entry_unchain ?_⟩))
    show wpAny _ _ (field (.ref y) 2 >>= _) _ _ s
    refine wpAny_bind (wpAny_field hy dy cy ?_)
    rw [if_pos (show (Value.none == Value.none) = true from rfl)]
    first
      | exact wpAny_bind (wpAny_pure (wpAny_pure q))
      | exact wpAny_pure q
theorem raiseNew2 {α : Type} {a x1 : Addr} {yo : Option Addr} {oe : Obj} {vs : Array Value} {Q : α → Shared → Prop} (hot : Ch A x1 yo s.heap) (hne : x1 ≠ a) (na : ∀ y, yo = some y → y ≠ a) (ha : s.heap.get? a = some oe) (da : oe.data = .fields vs) (hi : 2 < vs.size)
    (hE : E (.ref a) { s with heap := s.heap.update a (Obj.mapFields (·.setIfInBounds 2 (.ref x1))) }) : wpAny (model prog w) A (raiseNew (.ref a) : Sem α) Q E s := by
  have hh := hot.1
  unfold raiseNew
  refine wpAny_bind (wpAny_handled ?_)
  rw [hh]
  have hb : (Value.ref x1 != Value.ref a) = true := ref_bne hne
  first
  | (show wpAny _ _ (if (Value.ref x1 != Value.ref a) = true then _ else _) _ _ _
     rw [if_pos hb]
     first
     | exact wpAny_bind (unchained2 hot na (wpAny_bind (chained ha da hi (wpAny_throw hE))))
     | exact wpAny_bind (wpAny_bind (unchained2 hot na (chained ha da hi (wpAny_throw hE)))))
  | (refine wpAny_bind ?_
     show wpAny _ _ (if (Value.ref x1 != Value.ref a) = true then _ else _) _ _ _
     rw [if_pos hb]
     exact wpAny_bind (unchained2 hot na (chained ha da hi (wpAny_throw hE))))
/-- a new StopIteration -/
theorem stop_made2 {x : Addr} {yo : Option Addr} {Q : Value → Shared → Prop} (t : Ch A x yo s.heap)
    (q : ∀ h' e oe vs, Kp s.heap h' → h'.get? e = some oe → oe.cls = .type "StopIteration" → oe.data = .fields vs → 2 < vs.size → x ≠ e → (∀ y, yo = some y → y ≠ e) → Ch A x yo h' → (∀ b o, s.heap.get? b = some o → b ≠ e) → Q (.ref e) { s with heap := h' }) : wpAny (model prog w) A (newExc (.type "StopIteration") []) Q E s := by
  simp only [newExc, newTuple]
  refine wpAny_bind (wpAny_newObj_type ?_ (by size_fits))
  refine wpAny_bind (m := firstArgMember _ _) (wpAny_of_eq (a := Value.none) (by first | rfl | (simp only [firstArgMember]; rfl)) ?_)
  refine wpAny_newObj_type ?_ (by size_fits)
  obtain ⟨ox, zx⟩ := t.there
  exact q _ _ _ _ (fun b o z => Heap.get?_push_of_some _ (Heap.get?_push_of_some _ z)) (Heap.get?_push_size _ rfl) rfl rfl (by first | (simp; done) | (simp; omega) | (simp only [Array.size_append]; simp; omega)) (Nat.ne_of_lt (Heap.lt_size (Heap.get?_push_of_some _ zx))) (fun y e => by obtain ⟨oy, zy⟩ := t.thereY e; exact Nat.ne_of_lt (Heap.lt_size (Heap.get?_push_of_some _ zy))) (Ch.kp t (fun o z => Heap.get?_push_of_some _ (Heap.get?_push_of_some _ z)) (fun y _ o z => Heap.get?_push_of_some _ (Heap.get?_push_of_some _ z))) (fun b o z => Nat.ne_of_lt (Heap.lt_size (Heap.get?_push_of_some _ z)))
/-- and raised -/
theorem stop_raised2 {α : Type} {x e : Addr} {yo : Option Addr} {oe : Obj} {vs : Array Value} {Q : α → Shared → Prop} (t : Ch A x yo s.heap) (n : x ≠ e) (ny : ∀ y, yo = some y → y ≠ e) (g : s.heap.get? e = some oe) (c : oe.cls = .type "StopIteration") (d : oe.data = .fields vs) (l : 2 < vs.size)
    (q : ∀ h', (∀ b o, b ≠ e → s.heap.get? b = some o → h'.get? b = some o) → (∃ o, h'.get? e = some o ∧ o.cls = .type "StopIteration") → E (.ref e) { s with heap := h' }) : wpAny (model prog w) A (raiseNew (.ref e) : Sem α) Q E s := by
  refine raiseNew2 t n ny g d l (q _ (fun b o nb z => ?_) ⟨_, Heap.get?_update_self _ g (Obj.isFreed_of_fields (Obj.data_mapFields d _)), (Obj.cls_mapFields ..).trans c⟩)
  rw [Heap.get?_update_other _ _ nb.symm]; exact z
/-- a tuple's iterator at its end -/
theorem tup_end2 {yo : Option Addr} {it t x : Addr} {i : Nat} {items : Array Value} {Q : Option Value → Shared → Prop} (hot : Ch A x yo s.heap) (nx : x ≠ it) (ny : ∀ y, yo = some y → y ≠ it) (hit : IsTupIter s.heap it t i) (ht : IsTup s.heap t items) (no : items[i]? = none)
    (q : ∀ h', Heap.ExtBut it s.heap h' → Q none { s with heap := h' }) : wpAny (model prog w) A (pyNext (.ref it)) Q E s := by
  obtain ⟨o1, g1, _, d1⟩ := id hit
  obtain ⟨o2, g2, _, _, d2⟩ := ht
  unfold pyNext
  refine wpAny_bind (wpAny_attempt (wpAny_callSpecial?_slot (name := Str.ofString "__next__") hit.typeIs slot_tupleiter_next (wpAny_call_entry slot_tupleiter_next hit.typeIs entry_tupleiter_next ?_ (args_tupleiter_next _))))
  show wpAny _ _ (field (.ref it) 0 >>= _) _ _ s
  refine wpAny_bind (wpAny_field g1 d1 (x := .ref t) rfl ?_)
  show wpAny _ _ (if (Value.ref t == Value.none) = true then _ else _) _ _ s
  rw [if_neg (fun z : (Value.ref t == Value.none) = true => Bool.false_ne_true z)]
  show wpAny _ _ (field (.ref it) 1 >>= _) _ _ s
  refine wpAny_bind (wpAny_field g1 d1 (x := .int i 0) rfl ?_)
  show wpAny _ _ (seqItems? (.ref t) >>= _) _ _ s
  refine wpAny_bind (wpAny_seqItems g2 d2 ?_)
  simp only [Int.toNat_natCast, no]
  refine wpAny_bind (wpAny_rule (wpAny_bind (wpAny_setField g1 d1 (by simp) ?_)))
  show wpAny _ _ (newExc (.type "StopIteration") [] >>= _) _ _ _
  have ext := (Heap.SameBut.update s.heap it (Obj.mapFields (·.setIfInBounds 0 Value.none))).extBut
  refine wpAny_bind (stop_made2 (Ch.kp hot (fun o z => ext _ _ nx z) (fun y e o z => ext _ _ (ny y e) z)) fun h1 e oe vs kp g c d l ne ne2 hot1 old => ?_)
  refine stop_raised2 hot1 ne ne2 g c d l fun h2 k2 he => ?_
  obtain ⟨o, ho, hc⟩ := he
  refine wpAny_bind (wpAny_isInstance (T := "StopIteration") (b := true) ⟨o, ho, hc⟩ isSubtype_stop ?_)
  refine wpAny_pure (q _ fun b o nb z => ?_)
  exact k2 b o (old b o (ext b o nb z)) (kp b o (ext b o nb z))
/-- a list's iterator at its end, within zip -/
theorem list_end2 {yo : Option Addr} {it t x : Addr} {i : Nat} {items : Array Value} {Q : Value → Shared → Prop} (hot : Ch A x yo s.heap) (nx : x ≠ it) (ny : ∀ y, yo = some y → y ≠ it) (hit : s.heap.IsListIter it t i) (ht : s.heap.IsList t items) (no : items[i]? = none)
    (q : ∀ h' e, Heap.ExtBut it s.heap h' → (∃ o, h'.get? e = some o ∧ o.cls = .type "StopIteration") → E (.ref e) { s with heap := h' }) : wpAny (model prog w) A (Builtin.SmallTypes.nextOf (.ref it)) Q E s := by
  obtain ⟨o1, g1, _, d1⟩ := id hit
  obtain ⟨o2, g2, _, _, d2⟩ := ht
  unfold Builtin.SmallTypes.nextOf
  refine wpAny_bind (wpAny_callSpecial?_slot (name := Str.ofString "__next__") hit.typeIs slot_listiter_next (wpAny_call_entry slot_listiter_next hit.typeIs entry_listiter_next ?_ (args_listiter_next _)))
  show wpAny _ _ (field (.ref it) 0 >>= _) _ _ s
  refine wpAny_bind (wpAny_field g1 d1 (x := .ref t) rfl ?_)
  show wpAny _ _ (if (Value.ref t == Value.none) = true then _ else _) _ _ s
  rw [if_neg (fun z : (Value.ref t == Value.none) = true => Bool.false_ne_true z)]
  show wpAny _ _ (field (.ref it) 1 >>= _) _ _ s
  refine wpAny_bind (wpAny_field g1 d1 (x := .int i 0) rfl ?_)
  show wpAny _ _ (seqItems? (.ref t) >>= _) _ _ s
  refine wpAny_bind (wpAny_seqItems g2 d2 ?_)
  simp only [Int.toNat_natCast, no]
  refine wpAny_bind (wpAny_rule (wpAny_bind (wpAny_setField g1 d1 (by simp) ?_)))
  show wpAny _ _ (newExc (.type "StopIteration") [] >>= _) _ _ _
  have ext := (Heap.SameBut.update s.heap it (Obj.mapFields (·.setIfInBounds 0 Value.none))).extBut
  refine wpAny_bind (stop_made2 (Ch.kp hot (fun o z => ext _ _ nx z) (fun y e o z => ext _ _ (ny y e) z)) fun h1 e oe vs kp g c d l ne ne2 hot1 old => ?_)
  exact stop_raised2 hot1 ne ne2 g c d l fun h2 k2 he => q _ _ (fun b o nb z => k2 b o (old b o (ext b o nb z)) (kp b o (ext b o nb z))) he
/-- a tuple of so many, taken apart -/
theorem apart_tuple2 {yo : Option Addr} {env : Env} {elts : List Expr} {kk} {pos : Pos} {t x : Addr} {items : Array Value} {Q : Unit → Shared → Prop} (hot : Ch A x yo s.heap) (ht : IsTup s.heap t items) (hn : (assignEach elts env).length = items.size) (hst : (assignEach elts env).findIdx? (·.1) = none)
    (q : ∀ h', Heap.ExtBut s.heap.objs.size s.heap h' → wpAny (model prog w) A (assignInOrder ((assignEach elts env).map (·.2)) items.toList) Q E { s with heap := h' }) : wpAny (model prog w) A (assign (.Tuple elts kk pos) env (.ref t)) Q E s := by
  have ne : t ≠ s.heap.objs.size := by obtain ⟨o, z, _⟩ := ht; exact Nat.ne_of_lt (Heap.lt_size z)
  have nx : x ≠ s.heap.objs.size := by obtain ⟨o, z⟩ := hot.there; exact Nat.ne_of_lt (Heap.lt_size z)
  have ny : ∀ y, yo = some y → y ≠ s.heap.objs.size := fun y e => by obtain ⟨o, z⟩ := hot.thereY e; exact Nat.ne_of_lt (Heap.lt_size z)
  rw [assign_Tuple]
  refine wpAny_bind (wpAny_standAt ?_)
  unfold unpack
  rw [hn, hst]
  refine wpAny_bind (wpAny_holding ?_)
  unfold unpackItems notIterableAtAll
  refine wpAny_bind (wpAny_bind (wpAny_specialOf ht.typeIs slot_tuple_iter.lookup (wpAny_pure ?_)))
  simp only [Bool.false_eq_true, if_false]
  refine wpAny_bind (wpAny_holding (iter_tuple ht ?_))
  refine wpAny_bind (wpAny_holding (draw_tuple ne items.size 0 _ _ ⟨_, Heap.get?_push_size _ rfl, rfl, rfl⟩ (ht.push _) (by omega) fun h1 it1 s1 => ?_))
  rw [show List.take items.size (List.drop 0 items.toList) = items.toList by rw [List.drop_zero]; exact List.take_of_length_le (by simp), if_neg (by simp)]
  have hot1 : Ch A x yo h1 := Ch.kp hot (fun o z => s1.extBut _ _ nx (Heap.get?_push_of_some _ z)) (fun y e o z => s1.extBut _ _ (ny y e) (Heap.get?_push_of_some _ z))
  refine wpAny_bind (wpAny_holding (tup_end2 hot1 nx ny it1 ((ht.push _).extBut s1.extBut ne) (by simp) fun h2 e2 => ?_))
  simp only [Option.isSome_none, Bool.false_eq_true, if_false]
  exact wpAny_pure (q h2 fun b o nb z => e2 b o nb (s1.extBut b o nb (Heap.get?_push_of_some _ z)))
/-- zip of two lists at its end -/
theorem zip_end02 {yo : Option Addr} {z TI TO i1 i2 l1 l2 x : Addr} {k1 k2 : Nat} {xs ys : Array Value} {a b : Value} {Q : Fin → Shared → Prop} (hot : Ch A x yo s.heap) (nz : x ≠ z) (nO : x ≠ TO) (n1 : x ≠ i1) (n2 : x ≠ i2) (mz : ∀ y, yo = some y → y ≠ z) (mO : ∀ y, yo = some y → y ≠ TO) (m1 : ∀ y, yo = some y → y ≠ i1) (m2 : ∀ y, yo = some y → y ≠ i2) (D : ZipApart z TI TO i1 i2 l1 l2)
    (hz : IsZip s.heap z TI TO .none) (hTI : IsPair s.heap TI (.ref i1) (.ref i2)) (hTO : IsPair s.heap TO a b) (h1 : s.heap.IsListIter i1 l1 k1) (h2 : s.heap.IsListIter i2 l2 k2) (hl1 : s.heap.IsList l1 xs) (hl2 : s.heap.IsList l2 ys) (no : xs[k1]? = none ∨ ys[k2]? = none)
    (fin : ∀ (h' : Heap) (e : Addr), (∀ c o, c ≠ z → c ≠ TO → c ≠ i1 → c ≠ i2 → s.heap.get? c = some o → h'.get? c = some o) → (∃ o, h'.get? e = some o ∧ o.cls = .type "StopIteration") → E (.ref e) { s with heap := h' }) : wpAny (model prog w) A (Builtin.«zip.__next__» ⟨[.ref z], []⟩) Q E s := by
  show wpAny _ _ (field (.ref z) 2 >>= _) _ _ _
  refine wpAny_bind (wpAny_field hz rfl (x := .bool false) rfl ?_)
  show wpAny _ _ (field (.ref z) 3 >>= _) _ _ _
  refine wpAny_bind (wpAny_field hz rfl (x := .ref TI) rfl (wpAny_bind (wpAny_seqItems hTI rfl ?_)))
  show wpAny _ _ (Builtin.SmallTypes.ownedTupleIsFree (.ref z) >>= _) _ _ _
  unfold Builtin.SmallTypes.ownedTupleIsFree
  refine wpAny_bind (wpAny_bind (wpAny_field hz rfl (x := .none) rfl (wpAny_pure ?_)))
  simp only [if_true]
  refine wpAny_bind (wpAny_rule (wpAny_bind (wpAny_field hz rfl (x := .ref TO) rfl ?_)))
  refine wpAny_bind (wpAny_setField_rec hz (by simp) fun g1 zz1 e1 => ?_)
  replace zz1 : IsZip g1 z TI TO .ellipsis := zz1
  have hot1 : Ch A x yo g1 := Ch.kp hot (fun o v => e1.extBut _ _ nz v) (fun y e o v => e1.extBut _ _ (mz y e) v)
  refine wpAny_bind ?_
  simp only [List.zipIdx_cons, List.zipIdx_nil, List.forIn_cons, List.forIn_nil]
  refine wpAny_bind (wpAny_bind (wpAny_onRaise ?_))
  show wpAny _ _ (Builtin.SmallTypes.nextOf (.ref i1) >>= _) _ _ _
  cases hx : xs[k1]? with
  | none =>
    refine wpAny_bind (list_end2 hot1 n1 m1 (h1.extBut e1.extBut D.i1z) (hl1.extBut e1.extBut D.l1z) hx fun g2 e e2 he => ?_)
    obtain ⟨oe, ge, ce⟩ := he
    have zz2 : IsZip g2 z TI TO .ellipsis := e2 _ _ D.i1z.symm zz1
    have ez : e ≠ z := fun v => by subst v; rw [zz2] at ge; cases ge; simp at ce
    exact wpAny_setField_rec zz2 (by simp) fun g3 _ e3 => fin g3 e (fun c o c1 _ c3 _ v => e3.extBut _ _ c1 (e2 _ _ c3 (e1.extBut _ _ c1 v))) ⟨oe, e3.extBut _ _ ez ge, ce⟩
  | some v1 =>
    have hy : ys[k2]? = none := no.resolve_left (by rw [hx]; simp)
    refine wpAny_bind (wpAny_nextOf_list_item (h1.extBut e1.extBut D.i1z) (hl1.extBut e1.extBut D.l1z) hx fun g2 _ e2 => wpAny_pure ?_)
    have pO : IsPair g2 TO a b := e2.extBut _ _ D.TOi1 (e1.extBut _ _ D.TOz hTO)
    refine wpAny_bind (wpAny_seqItems pO rfl (wpAny_bind (wpAny_updateSeq_pair pO fun g3 _ e3 => ?_)))
    have hot3 : Ch A x yo g3 := Ch.kp hot1 (fun o v => e3.extBut _ _ nO (e2.extBut _ _ n1 v)) (fun y e o v => e3.extBut _ _ (mO y e) (e2.extBut _ _ (m1 y e) v))
    refine wpAny_bind (wpAny_letGo (wpAny_pure (wpAny_bind (wpAny_bind (wpAny_onRaise ?_)))))
    show wpAny _ _ (Builtin.SmallTypes.nextOf (.ref i2) >>= _) _ _ _
    refine wpAny_bind (list_end2 hot3 n2 m2 (((h2.extBut e1.extBut D.i2z).extBut e2.extBut D.i12.symm).extBut e3.extBut D.TOi2.symm) (((hl2.extBut e1.extBut D.l2z).extBut e2.extBut D.l2i1).extBut e3.extBut D.l2TO) hy fun g4 e e4 he => ?_)
    obtain ⟨oe, ge, ce⟩ := he
    have zz4 : IsZip g4 z TI TO .ellipsis := e4 _ _ D.i2z.symm (e3.extBut _ _ D.TOz.symm (e2.extBut _ _ D.i1z.symm zz1))
    have ez : e ≠ z := fun v => by subst v; rw [zz4] at ge; cases ge; simp at ce
    exact wpAny_setField_rec zz4 (by simp) fun g5 _ e5 => fin g5 e (fun c o c1 c2 c3 c4 v => e5.extBut _ _ c1 (e4 _ _ c4 (e3.extBut _ _ c2 (e2.extBut _ _ c3 (e1.extBut _ _ c1 v))))) ⟨oe, e5.extBut _ _ ez ge, ce⟩
theorem zip_end2 {yo : Option Addr} {z TI TO i1 i2 l1 l2 x : Addr} {k1 k2 : Nat} {xs ys : Array Value} {a b : Value} {Q : Option Value → Shared → Prop} (hot : Ch A x yo s.heap) (nz : x ≠ z) (nO : x ≠ TO) (n1 : x ≠ i1) (n2 : x ≠ i2) (mz : ∀ y, yo = some y → y ≠ z) (mO : ∀ y, yo = some y → y ≠ TO) (m1 : ∀ y, yo = some y → y ≠ i1) (m2 : ∀ y, yo = some y → y ≠ i2) (D : ZipApart z TI TO i1 i2 l1 l2)
    (hz : IsZip s.heap z TI TO .none) (hTI : IsPair s.heap TI (.ref i1) (.ref i2)) (hTO : IsPair s.heap TO a b) (h1 : s.heap.IsListIter i1 l1 k1) (h2 : s.heap.IsListIter i2 l2 k2) (hl1 : s.heap.IsList l1 xs) (hl2 : s.heap.IsList l2 ys) (no : xs[k1]? = none ∨ ys[k2]? = none)
    (q : ∀ h', (∀ c o, c ≠ z → c ≠ TO → c ≠ i1 → c ≠ i2 → s.heap.get? c = some o → h'.get? c = some o) → Q none { s with heap := h' }) : wpAny (model prog w) A (pyNext (.ref z)) Q E s := by
  have hT : s.TypeIs (.ref z) "zip" := ⟨_, hz, rfl⟩
  unfold pyNext
  refine wpAny_bind (wpAny_attempt (wpAny_callSpecial?_slot (name := Str.ofString "__next__") hT F.slot_zip_next (wpAny_call_entry F.slot_zip_next hT F.entry_zip_next (zip_end02 hot nz nO n1 n2 mz mO m1 m2 D hz hTI hTO h1 h2 hl1 hl2 no fun h' e kp he => ?_) (F.args_zip_next_1 _))))
  obtain ⟨o, ho, hc⟩ := he
  exact wpAny_bind (wpAny_isInstance (T := "StopIteration") (b := true) ⟨o, ho, hc⟩ isSubtype_stop (wpAny_pure (q _ kp)))
end
end RepHot2
/-! rules for the callee of a suite whose exception has a context: pins L -/
namespace RepHot2
open PySem PySem.Spec PyProof.Rows L2 L2H HotX RepHot
abbrev St := L2.St
/-- L bears the handled exception and its context, if it has one -/
def Hot2 (A : Around) (L : List (Addr × Obj)) : Prop := ∃ p ∈ L, ∃ vs : Array Value, A.handled = some (.ref p.1) ∧ p.2.data = .fields vs ∧ (vs[2]? = some .none ∨ ∃ q ∈ L, q.1 ≠ p.1 ∧ vs[2]? = some (.ref q.1) ∧ ∃ ws : Array Value, q.2.data = .fields ws ∧ ws[2]? = some .none)
theorem Hot2.one {A : Around} {p : Addr × Obj} (h : Hot1 A p) : Hot2 A [p] := by
  obtain ⟨e, vs, d, c⟩ := h
  exact ⟨p, List.mem_singleton.mpr rfl, vs, e, d, .inl c⟩
theorem Hot2.ch {A : Around} {L : List (Addr × Obj)} {h : Heap} (t : Hot2 A L) (g : ∀ r ∈ L, h.get? r.1 = some r.2) : ∃ (x : Addr) (yo : Option Addr), Ch A x yo h ∧ (∃ r ∈ L, r.1 = x) ∧ ∀ y, yo = some y → ∃ r ∈ L, r.1 = y := by
  obtain ⟨p, hp, vs, e, d, c⟩ := t
  rcases c with c | ⟨q, hq, n, c, ws, dq, cq⟩
  · exact ⟨p.1, none, ⟨e, p.2, vs, g p hp, d, .inl ⟨rfl, c⟩⟩, ⟨p, hp, rfl⟩, fun y z => nomatch z⟩
  · exact ⟨p.1, some q.1, ⟨e, p.2, vs, g p hp, d, .inr ⟨q.1, rfl, c, n, q.2, ws, g q hq, dq, cq⟩⟩, ⟨p, hp, rfl⟩, fun y z => by cases z; exact ⟨q, hq, rfl⟩⟩
/-- the context bears them -/
def HotD (X : Cx) : Prop := ∃ L, Hot2 X.A L ∧ ∀ r ∈ L, r ∈ X.pn
theorem HotD.at {X : Cx} {pins : List (Addr × Obj)} {σ : St} {H : Hp} {s : Shared} (c : HotD X) (I : Inv X pins σ H s) : ∃ (x : Addr) (yo : Option Addr), Ch X.A x yo s.heap ∧ (∃ r ∈ X.pn ++ pins, r.1 = x) ∧ ∀ y, yo = some y → ∃ r ∈ X.pn ++ pins, r.1 = y := by
  obtain ⟨L, h, m⟩ := c
  obtain ⟨x, yo, q, ⟨r, hr, er⟩, n⟩ := h.ch (h := s.heap) fun r hr => (I.pin r (List.mem_append_left _ (m r hr))).1
  exact ⟨x, yo, q, ⟨r, List.mem_append_left _ (m r hr), er⟩, fun y e => by obtain ⟨r, hr, er⟩ := n y e; exact ⟨r, List.mem_append_left _ (m r hr), er⟩⟩
section
variable {X : Cx}
theorem pg_tupQ {es : List Expr} {k : Nat} {t : TGs} {n : Nat} {pos : Pos} (hc : HotD X) (h : PGs X es t) (hn : (assignEach es X.env).length = n := by rfl) (hst : (assignEach es X.env).findIdx? (·.1) = none := by rfl) : PG X (.Tuple es k pos) (gTup X.K n t) := by
  refine ⟨fun ps s σ H v u Q I r hw => ?_⟩
  obtain ⟨a, xs, rfl, hq, hl, hw⟩ := hw
  cases r
  obtain ⟨vals, rel, tp, _⟩ := I.tuple hq
  obtain ⟨x, yo, hot, _⟩ := hc.at I
  refine apart_tuple2 hot tp (by simp [hn, ← hl, rel.length]) hst fun h' ext => ?_
  have I' : Inv X ps σ H { s with heap := h' } := I.kept (t' := s.toks) fun b o z => ext b o (Nat.ne_of_lt (Heap.lt_size z)) z
  exact h.run ps _ σ H xs _ Q I' (by simpa using rel) hw
end
structure TurnQ (P : Program) (w : World) (K : PySem.W.Frag) (tg : Expr) (J : It) (fp : List Addr) (it : Addr) (tn : Nat → Heap → Prop) : Prop where
  mem : it ∈ fp
  obj : ∀ i h, tn i h → ∀ b ∈ fp, ∃ o, h.get? b = some o ∧ ∀ v, o.data ≠ .cell v
  keep : ∀ i h h', tn i h → (∀ b ∈ fp, ∀ o, h.get? b = some o → h'.get? b = some o) → tn i h'
  item : ∀ (X : Cx), X.prog = P → X.w = w → X.K = K → HotD X → ∀ (i : Nat) (pins : List (Addr × Obj)) (s : Shared) (σ : St) (H : Hp) (E : Value → Shared → Prop), Inv X pins σ H s → (∀ b ∈ fp, FpOk X pins H b) → tn i s.heap → J.go i H →
    wpAny (model P w) X.A (pyNext (.ref it)) (fun r s1 => ∃ u, r = some u ∧
      wpAny (model P w) X.A (letOwnedTupleGo tg (.ref it) u) (fun _ s2 => ∃ x H', Inv X pins σ H' s2 ∧ RelV x u ∧ J.yld i H x H' ∧ tn (i + 1) s2.heap ∧ ∀ b ∈ fp, H' b = none) E s1) E s
  done : ∀ (X : Cx), X.prog = P → X.w = w → X.K = K → HotD X → ∀ (i : Nat) (pins : List (Addr × Obj)) (s : Shared) (σ : St) (H : Hp) (E : Value → Shared → Prop), Inv X pins σ H s → (∀ b ∈ fp, FpOk X pins H b) → tn i s.heap → J.stop i H →
    wpAny (model P w) X.A (pyNext (.ref it)) (fun r s1 => r = none ∧ Inv X pins σ H s1) E s
  self : ∀ (A : Around) (i : Nat) (s : Shared) (Q : Value → Shared → Prop) (E : Value → Shared → Prop), tn i s.heap → Q (.ref it) s → wpAny (model P w) A (pyIter (.ref it)) Q E s
def PIEQ (X : Cx) (pins : List (Addr × Obj)) (σ : St) (tg : Expr) (R : It → Hp → Prop) (itv : Value) (s2 : Shared) : Prop :=
  ∃ (it : Addr) (fp : List Addr) (tn : Nat → Heap → Prop) (J : It) (H' : Hp), itv = .ref it ∧ Inv X pins σ H' s2 ∧ TurnQ X.prog X.w X.K tg J fp it tn ∧ tn 0 s2.heap ∧ (∀ b ∈ fp, FpOk X pins H' b) ∧ R J H'
structure PIQ (X : Cx) (tg iter : Expr) (wi : TI) : Prop where
  run : ∀ (pins : List (Addr × Obj)) (s : Shared) (σ : St) (H : Hp) (R : It → Hp → Prop), Inv X pins σ H s → wi σ H R →
    wpAny (model X.prog X.w) X.A (eval iter X.env) (fun v s1 => wpAny (model X.prog X.w) X.A (pyIter v) (PIEQ X pins σ tg R) X.xe s1) X.xe s
theorem turn_zipQ {P : Program} {w : World} {K : PySem.W.Frag} {elts : List Expr} {kk : Nat} {tpos : Pos} {a b z TI TO i1 i2 : Addr} (D : ZipApart z TI TO i1 i2 a b) :
    TurnQ P w K (.Tuple elts kk tpos) (Itz K a b) [z, TI, TO, i1, i2] z (fun i h => IsZip h z TI TO .none ∧ IsPair h TI (.ref i1) (.ref i2) ∧ (∃ x y, IsPair h TO x y) ∧ h.IsListIter i1 a i ∧ h.IsListIter i2 b i) where
  mem := (turn_zip (P := P) (w := w) (K := K) (elts := elts) (kk := kk) (tpos := tpos) D).mem
  obj := (turn_zip (P := P) (w := w) (K := K) (elts := elts) (kk := kk) (tpos := tpos) D).obj
  keep := (turn_zip (P := P) (w := w) (K := K) (elts := elts) (kk := kk) (tpos := tpos) D).keep
  item := by
    intro X eP ew eK _ i ps s σ H E I fr stt go
    subst eP ew eK
    obtain ⟨sz, sI, ⟨q1, q2, sO⟩, s1, s2⟩ := stt
    obtain ⟨xs, ys, v1, v2, lx, ly, gx, gy⟩ := go
    obtain ⟨us, ru, pu, _⟩ := I.list lx
    obtain ⟨ws, rw', pw, _⟩ := I.list ly
    obtain ⟨u, hu, vu⟩ := ru.get gx
    obtain ⟨u', hu', vu'⟩ := rw'.get gy
    have lz : z < s.heap.objs.size := Heap.lt_size sz
    refine wpAny_pyNext_zip_item D sz sI sO s1 s2 pu.isList pw.isList (x := u) (y := u') (by simpa using hu) (by simpa using hu') fun g zz pO n1 n2 pT _ kp => ⟨_, rfl, wpAny_letOwnedTupleGo_zip (s := { s with heap := g }) zz fun g' zz' sb => ?_⟩
    have pT' : g'.get? s.heap.objs.size = some { cls := .type "tuple", data := .seq #[u, u'] } := (sb.2 _ (Nat.ne_of_gt lz)).trans pT
    have ok : ObjOk X.prog X.w (upd H s.heap.objs.size (.tup [v1, v2])) g' s.heap.objs.size (.tup [v1, v2]) := ⟨by show 2 ≤ sizeLine; decide, [u, u'], .cons vu (.cons vu' .nil), ⟨_, pT', rfl, _, rfl⟩⟩
    have I' : Inv X ps σ (upd H s.heap.objs.size (.tup [v1, v2])) { s with heap := g' } := I.turnedNew (t' := s.toks) (ch := [z, TI, TO, i1, i2]) (fun c o hb q => (sb.2 c (fun e => hb (by simp [e]))).trans (kp c o (fun e => hb (by simp [e])) (fun e => hb (by simp [e])) (fun e => hb (by simp [e])) (fun e => hb (by simp [e])) q)) fr (Nat.le_refl _) ok
    have eqx : ∀ l, SqL X.K H a l → l[i]? = some v1 := fun l hl => by rw [I.list_inj hl lx]; exact gx
    have eqy : ∀ l, SqL X.K H b l → l[i]? = some v2 := fun l hl => by rw [I.list_inj hl ly]; exact gy
    refine ⟨.ref s.heap.objs.size, _, I', rfl, ⟨_, v1, v2, rfl, I.hok.fresh (Nat.le_refl _), rfl, eqx, eqy⟩, ⟨zz', (sb.2 _ D.TIz).trans (kp _ _ D.TIz D.TITO D.TIi1 D.TIi2 sI), ⟨u, u', (sb.2 _ D.TOz).trans pO⟩, n1.at fun o q => (sb.2 _ D.i1z).trans q, n2.at fun o q => (sb.2 _ D.i2z).trans q⟩, fun c hc => ?_⟩
    have lt : c < s.heap.objs.size := by
      rcases five hc with e | e | e | e | e
      · rw [e]; exact lz
      · rw [e]; exact Heap.lt_size sI
      · rw [e]; exact Heap.lt_size sO
      · rw [e]; obtain ⟨_, e1, _⟩ := s1; exact Heap.lt_size e1
      · rw [e]; obtain ⟨_, e2, _⟩ := s2; exact Heap.lt_size e2
    rw [upd_ne (Nat.ne_of_lt lt)]
    exact (fr c hc).1
  done := by
    intro X eP ew eK hot i ps s σ H E I fr stt stop
    subst eP ew eK
    obtain ⟨sz, sI, ⟨q1, q2, sO⟩, s1, s2⟩ := stt
    obtain ⟨xs, ys, lx, ly, no⟩ := stop
    obtain ⟨us, ru, pu, _⟩ := I.list lx
    obtain ⟨ws, rw', pw, _⟩ := I.list ly
    have e1 := ru.length
    have e2 := rw'.length
    obtain ⟨x, yo, hA, ⟨r, hr, er⟩, hy⟩ := hot.at I
    have np : ∀ c, c ∈ [z, TI, TO, i1, i2] → x ≠ c := fun c hc => by rw [← er]; exact (fr c hc).2.2.2.2.2 r hr
    have nq : ∀ c, c ∈ [z, TI, TO, i1, i2] → ∀ y, yo = some y → y ≠ c := fun c hc y e => by
      obtain ⟨r2, hr2, e2⟩ := hy y e
      rw [← e2]; exact (fr c hc).2.2.2.2.2 r2 hr2
    have no' : us.toArray[i]? = none ∨ ws.toArray[i]? = none := no.imp (fun q => by simp; omega) (fun q => by simp; omega)
    exact zip_end2 hA (np z (by simp)) (np TO (by simp)) (np i1 (by simp)) (np i2 (by simp)) (nq z (by simp)) (nq TO (by simp)) (nq i1 (by simp)) (nq i2 (by simp)) D sz sI sO s1 s2 pu.isList pw.isList no' fun g kp => ⟨rfl, I.turnedL (t' := s.toks) (ch := [z, TI, TO, i1, i2]) (fun c o hb q => kp c o (fun e => hb (by simp [e])) (fun e => hb (by simp [e])) (fun e => hb (by simp [e])) (fun e => hb (by simp [e])) q) fr⟩
  self := (turn_zip (P := P) (w := w) (K := K) (elts := elts) (kk := kk) (tpos := tpos) D).self
theorem pi_zipQ {X : Cx} {e e2 : Expr} {ta : TA} {p pos tpos : Pos} {elts : List Expr} {kk : Nat} (hg : Gl X "zip") (hm : X.mg "zip" = none) (ha : PA X [e, e2] ta) (hs : starEach [e, e2] X.env = (false, eval e X.env) :: starEach [e2] X.env := by rfl) (hpl : (backTo pos (starEach [e2] X.env)).any (·.1) = false := by rfl) :
    PIQ X (.Tuple elts kk tpos) (.Call (.Name "zip" p) [e, e2] [] pos) (iZip X.K ta) := by
  refine ⟨fun ps s σ H R I h => Call_ (ld_blt I hg hm PyProof.Rows.boot_zip (PyProof.Rows.callWith_type1 (thn (ha.run pos ps s σ H _ I h) fun us s1 ⟨vs, H1, I1, r1, q1⟩ => ?_) hs hpl))⟩
  obtain ⟨a, b, xs, ys, ev, lx, ly, q⟩ := q1
  subst ev
  cases r1 with
  | cons ra rr =>
    cases rr with
    | cons rb rr =>
      cases rr
      cases ra
      cases rb
      obtain ⟨_, _, pa, _⟩ := I1.list lx
      obtain ⟨_, _, pb, _⟩ := I1.list ly
      refine call_zip_2 pa.isList pb.isList fun g hz hI hO h1 h2 _ kp => wpAny_pyIter_zip hz ?_
      refine ⟨s1.heap.objs.size + 4, [s1.heap.objs.size + 4, s1.heap.objs.size + 2, s1.heap.objs.size + 3, s1.heap.objs.size, s1.heap.objs.size + 1], _, _, H1, rfl, I1.kept (t' := s1.toks) kp, turn_zipQ (PySem.W.ktu_apart s1.heap.objs.size a b pa.lt pb.lt), ⟨hz, hI, ⟨_, _, hO⟩, h1, h2⟩, fun c hc => ?_, q⟩
      have le : s1.heap.objs.size ≤ c := by
        rcases five hc with e | e | e | e | e
        · rw [e]; exact Nat.le_add_right ..
        · rw [e]; exact Nat.le_add_right ..
        · rw [e]; exact Nat.le_add_right ..
        · rw [e]; exact Nat.le_refl _
        · rw [e]; exact Nat.le_add_right ..
      exact I1.fpOk le (I1.hok.fresh le)
/-! the comprehension: as the layer's own, the handled exception stays pinned in its block -/
abbrev blkQ (X : Cx) (s : Shared) (H : Hp) (scope : Scope) (ce : Env) (fp : List Addr) (L : List (Addr × Obj)) : Cx := { X.blk s H scope ce fp with pn := L }
section
variable {X : Cx}
theorem inv_pinQ {s0 : Shared} {H0 : Hp} {scope : Scope} {ce : Env} {fp : List Addr} {L : List (Addr × Obj)} {σ : St} {H : Hp} {s : Shared} (I : Inv (X.blk s0 H0 scope ce fp) [] σ H s) (h : ∀ p ∈ L, s.heap.get? p.1 = some p.2 ∧ H p.1 = none ∧ p.1 ≠ ce.locals ∧ p.1 ∉ frs X.stack ∧ ∀ v, p.2.data ≠ .cell v) : Inv (blkQ X s0 H0 scope ce fp L) [] σ H s :=
  ⟨⟨I.ok.mod, I.ok.kind, I.ok.glob, I.ok.blt, I.ok.above, I.ok.inj, I.ok.has, I.ok.cab, I.ok.hd, I.ok.frames, I.ok.stk, I.ok.exf, I.ok.bs, I.ok.bsz, I.ok.noex, I.ok.exfs, I.ok.funs, I.ok.frf⟩, I.os, I.bare, I.base, I.loc, I.cell, I.free, I.freeC, fun q hq => by
    exact h q (by simpa using hq), I.hok, I.len⟩
theorem pe_lcQ {elt tg iter : Expr} {ifs : List Expr} {scope : Scope} {own : List (Str × Nat)} {pos : Pos} {wi : TI} {g : TG} {tt : TT} {te : TE} {L : List (Addr × Obj)} (hot : Hot2 X.A L) (hp : ∀ r ∈ L, r ∈ X.pn) (hN : X.N.Nodup) (hi : PIQ X tg iter wi) (ok : BlkOk X.N X.env.scope scope own)
    (hg : ∀ (s : Shared) (H : Hp) (C : Addr) (cl : List (Str × Addr)) (fp : List Addr), PG (blkQ X s H scope (compEnvC scope cl C X.env) fp L) tg g) (ht : ∀ (s : Shared) (H : Hp) (C : Addr) (cl : List (Str × Addr)) (fp : List Addr), PTs (blkQ X s H scope (compEnvC scope cl C X.env) fp L) ifs tt)
    (he : ∀ (s : Shared) (H : Hp) (C : Addr) (cl : List (Str × Addr)) (fp : List Addr), PE (blkQ X s H scope (compEnvC scope cl C X.env) fp L) elt te) (hs : ∀ x, foldedSetIterable iter X.env x = pure x := by intro _; rfl) : PE X (.ListComp elt [⟨tg, iter, ifs, 0⟩] scope pos) (tLc wi g tt te (own.map (·.2))) := by
  refine ⟨fun ps s σ H Q I h => ?_⟩
  rw [eval_ListComp]
  have hfr : ∀ y ∈ scope.names, y.2 = .free → ∃ c, X.env.cells.lookup y.1 = some c := fun y hy e => I.ok.has _ (ok.free y hy e)
  refine wpAny_comprehension_free (use := none) rfl hs (closure_ok hfr) ok.kind (fun y hy e => by rw [ok.uniq y hy, e]) (thn (hi.run ps s σ H _ I h) fun xv s1 hx => thn hx fun itv s2 h2 => ?_)
  obtain ⟨it, fp, tn, J, H2, e, I2, T, t2, f2, q⟩ := h2
  subst e
  refine wpAny_newObj_type (newEnv_comp ?_) (by show 0 ≤ sizeLine; decide)
  generalize eD : s2.heap.objs.size = D
  have nD : H2 D = none := I2.hok.fresh (Nat.le_of_eq eD)
  obtain ⟨W, ⟨m0, w0⟩, turn⟩ := q D nD
  generalize e3 : ({ s2 with heap := s2.heap.push { cls := .type "list", data := .seq ([] : List Value).toArray } } : Shared) = s3
  have h3 : s3.heap = s2.heap.push { cls := .type "list", data := .seq ([] : List Value).toArray } := by rw [← e3]
  have I3 : Inv X ps σ (upd H2 D (.lst [])) s3 := by
    rw [← e3]
    refine I2.laid (t' := s2.toks) (fun b o z => Heap.get?_push_of_some _ z) (Nat.le_of_eq eD) ⟨Nat.zero_le _, [], 0, .nil, ?_⟩
    rw [← eD]; exact Heap.get?_push_size _ rfl
  have lt2 : ∀ b ∈ fp, b < s2.heap.objs.size := fun b hb => by
    obtain ⟨o, z, _⟩ := T.obj _ _ t2 b hb
    exact Heap.lt_size z
  have f3 : ∀ b ∈ fp, FpOk X ps (upd H2 D (.lst [])) b ∧ b < s3.heap.objs.size := fun b hb => by
    refine ⟨⟨?_, (f2 b hb).2⟩, by rw [h3, Heap.size_push]; exact Nat.lt_succ_of_lt (lt2 b hb)⟩
    rw [upd_ne (by rw [← eD]; exact Nat.ne_of_lt (lt2 b hb))]
    exact (f2 b hb).1
  have t3 : tn 0 s3.heap := T.keep _ _ _ t2 fun b _ o z => by rw [h3]; exact Heap.get?_push_of_some _ z
  have I4 := block_start I3 ok hN f3
  have kg := hg s3 (upd H2 D (.lst [])) s3.heap.objs.size (cellsFrom (s3.heap.objs.size + 1) scope.names (cloFrom X.env.cells scope.names [])) fp
  have kt := ht s3 (upd H2 D (.lst [])) s3.heap.objs.size (cellsFrom (s3.heap.objs.size + 1) scope.names (cloFrom X.env.cells scope.names [])) fp
  have ke := he s3 (upd H2 D (.lst [])) s3.heap.objs.size (cellsFrom (s3.heap.objs.size + 1) scope.names (cloFrom X.env.cells scope.names [])) fp
  have n3 : ∀ b ∈ fp, (upd H2 D (.lst [])) b = none := fun b hb => (f3 b hb).1.1
  have P3 : ∀ p ∈ L, _ := fun p hL => I3.pin p (List.mem_append_left _ (hp p hL))
  have pst : ∀ p ∈ L, p.1 ∉ frs X.stack := fun p hL hm => (List.mem_cons.mp (I3.stkSub p.1 hm)).elim (P3 p hL).2.2.1 (P3 p hL).2.2.2.1
  show codeAny _ _ (.compStart (.ListComp elt [⟨tg, iter, ifs, 0⟩] scope pos) 0 (.ref it) (.ref D) (compEnvC scope (cellsFrom (s3.heap.objs.size + 1) scope.names (cloFrom X.env.cells scope.names [])) s3.heap.objs.size X.env)) (compPost (model X.prog X.w) X.A X.xe none (EP X ps σ Q) (.ref D) s3.heap.objs.size) { s3 with heap := pushCells (s3.heap.push { cls := .type "dict", data := .dict #[] }) scope.names }
  generalize hce : compEnvC scope (cellsFrom (s3.heap.objs.size + 1) scope.names (cloFrom X.env.cells scope.names [])) s3.heap.objs.size X.env = ce at I4 kg kt ke ⊢
  have cL : ce.locals = s3.heap.objs.size := by subst hce; rfl
  generalize hH3 : upd H2 D (.lst []) = H3 at I3 I4 kg kt ke w0 n3 f3 P3
  generalize hs4 : ({ s3 with heap := pushCells (s3.heap.push { cls := .type "dict", data := .dict #[] }) scope.names } : Shared) = s4 at I4 ⊢
  have kp4 : ∀ b o, s3.heap.get? b = some o → s4.heap.get? b = some o := fun b o z => by rw [← hs4]; exact pushCells_keeps _ _ _ _ (Heap.get?_push_of_some _ z)
  have t4 : tn 0 s4.heap := T.keep _ _ _ t3 fun b _ o z => kp4 b o z
  have J4 := inv_pinQ (L := L) I4 fun p hL => ⟨kp4 _ _ (P3 p hL).1, (P3 p hL).2.1, (by rw [cL]; exact Nat.ne_of_lt (Heap.lt_size (P3 p hL).1)), pst p hL, (P3 p hL).2.2.2.2⟩
  have hc : HotD (blkQ X s3 H3 scope ce fp L) := ⟨L, hot, fun r h => h⟩
  have npf : ∀ p ∈ L, ∀ b ∈ fp, p.1 ≠ b := fun p hL b hb => (f3 b hb).1.2.2.2.2.2 p (List.mem_append_left _ (hp p hL))
  have stat : ∀ {σ' : St} {H' : Hp} {s' : Shared}, Inv (blkQ X s3 H3 scope ce fp L) [] σ' H' s' → (∀ b ∈ fp, H' b = none) → ∀ b ∈ fp, FpOk (blkQ X s3 H3 scope ce fp L) [] H' b := fun {σ' H' s'} K' hn b hb =>
    ⟨hn b hb, (K'.ok.exf b hb).1, K'.ok.exfs b hb, .inl hb, fun x c z => (K'.ok.exf b hb).2 x c z, fun q hq => by
      exact npf q (by simpa using hq) b hb⟩
  have loop : codeAny (model X.prog X.w) X.A (.compLoop (.ListComp elt [⟨tg, iter, ifs, 0⟩] scope pos) 0 (.ref it) (.ref D) ce) (compPost (model X.prog X.w) X.A X.xe none (EP X ps σ Q) (.ref D) s3.heap.objs.size) s4 := by
    refine compLoop_any (fun n s' => ∃ i H', Inv (blkQ X s3 H3 scope ce fp L) [] (wipe σ (own.map (·.2))) H' s' ∧ tn i s'.heap ∧ (∀ b ∈ fp, H' b = none) ∧ W i n H') ?_ m0 ⟨0, H3, J4, t4, n3, w0⟩
    rintro n s5 ⟨i, H5, I5, t5, n5, w5⟩
    rcases turn i n H5 w5 with ⟨stop, qq⟩ | ⟨go, Nx, hNx, step⟩
    · refine thnF (T.done (blkQ X s3 H3 scope ce fp L) rfl rfl rfl hc i [] s5 _ H5 (fun _ _ => False) I5 (stat I5 n5) t5 stop) fun r s6 ⟨hr, I6⟩ => ?_
      subst hr
      have I7 : Inv X ps σ H5 s6 := I3.call' (ch := fp) I6.os I6.base I6.hok I6.bare fun b hb => ⟨(f3 b hb).1.2.2.2.1, (f3 b hb).1.2.1, (f3 b hb).1.2.2.2.2.1, (f3 b hb).1.2.2.2.2.2⟩
      have nC : H5 s3.heap.objs.size = none := by
        have z : H5 ce.locals = none := I6.free
        rwa [cL] at z
      obtain ⟨m, hm, _⟩ := I6.loc
      have hm : s6.heap.Ns ce.locals m := hm
      rw [cL] at hm
      obtain ⟨f0, f1, _, f3', f4, f5⟩ := I3.fpOk (b := s3.heap.objs.size) (Nat.le_refl _) nC
      exact ⟨m, hm, fun h'' sb => ⟨.ref D, H5, I7.turned (t' := s6.toks) (fun b o hb z => (sb.2 b hb).trans z) f0 f1 f3' f4 f5, rfl, qq⟩⟩
    · refine thnF (T.item (blkQ X s3 H3 scope ce fp L) rfl rfl rfl hc i [] s5 _ H5 (fun _ _ => False) I5 (stat I5 n5) t5 go) fun r s6 ⟨u, hr, h6⟩ => ?_
      subst hr
      refine thnF h6 fun _ s7 ⟨x, H7, I7, r7, y7, t7, n7⟩ => ?_
      refine thnF (kg.run _ s7 _ H7 x u _ (I7.pinned (stat I7 n7) (T.obj _ _ t7)) r7 (step x H7 y7)) fun _ s8 ⟨σ8, H8, I8, hw8, q8⟩ => ?_
      refine thnF (kt.run _ s8 σ8 H8 _ I8 q8) fun b s9 ⟨H9, I9, q9⟩ => ?_
      have fin : ∀ {s' : Shared} {H' : Hp}, Inv (blkQ X s3 H3 scope ce fp L) ([] ++ pinsAt fp s7.heap) σ8 H' s' → Nx H' → ∃ m, m < n ∧ ∃ i H', Inv (blkQ X s3 H3 scope ce fp L) [] (wipe σ (own.map (·.2))) H' s' ∧ tn i s'.heap ∧ (∀ b ∈ fp, H' b = none) ∧ W i m H' := fun {s' H'} I' nx => by
        obtain ⟨m', hm, w'⟩ := hNx H' nx
        have pp : ∀ b ∈ fp, ∀ o, s7.heap.get? b = some o → s'.heap.get? b = some o ∧ H' b = none := fun b hb o z =>
          have v := I'.pin (b, o) (List.mem_append_right _ (List.mem_append_right _ (mem_pinsAt hb z)))
          ⟨v.1, v.2.1⟩
        have hl : (wipe σ (own.map (·.2))).length = σ8.length := by rw [← hw8, wipe_length]
        refine ⟨m', hm, i + 1, H', (I'.unpinned (pins := [])).weak hl (fun j v z => ?_), T.keep _ _ _ t7 fun b hb o z => (pp b hb o z).1, fun b hb => ?_, w'⟩
        · rw [← hw8] at z; exact (wipe_some z).1
        · obtain ⟨o, z, _⟩ := T.obj _ _ t7 b hb
          exact (pp b hb o z).2
      cases b with
      | false =>
        simp only [Bool.false_eq_true, if_false] at q9 ⊢
        exact fin I9 q9
      | true =>
        simp only [if_true] at q9 ⊢
        refine thnF (ke.run _ s9 σ8 H9 _ I9 q9) fun z s10 ⟨yv, H10, I10, r10, acc, hD10, hz10, nx⟩ => ?_
        exact app_ok (X := blkQ X s3 H3 scope ce fp L) I10 hD10 hz10 r10 fun s11 I11 => fin I11 nx
  exact codeAny_compStart_list loop (T.self X.A 0 _ _ _ t4 loop)
end
end RepHot2
/-! defs called with the handled exception, whose context may be another -/
namespace RepHot2
open PySem PySem.Spec PyProof.Rows L2 L2H HotX RepHot
/-- what a pin must be -/
abbrev PinAt (X : Cx) (H : Hp) (s : Shared) (p : Addr × Obj) : Prop := s.heap.get? p.1 = some p.2 ∧ H p.1 = none ∧ p.1 ≠ X.env.locals ∧ p.1 ∉ X.fs ∧ ∀ v, p.2.data ≠ .cell v
/-- other pins -/
theorem pins_to {X : Cx} {p0 p1 : List (Addr × Obj)} {σ : L2.St} {H : Hp} {s : Shared} (I : Inv { X with pn := p0 } [] σ H s) (g : ∀ q ∈ p1, PinAt X H s q) : Inv { X with pn := p1 } [] σ H s :=
  ⟨⟨I.ok.mod, I.ok.kind, I.ok.glob, I.ok.blt, I.ok.above, I.ok.inj, I.ok.has, I.ok.cab, I.ok.hd, I.ok.frames, I.ok.stk, I.ok.exf, I.ok.bs, I.ok.bsz, I.ok.noex, I.ok.exfs, I.ok.funs, I.ok.frf⟩, I.os, I.bare, I.base, I.loc, I.cell, I.free, I.freeC, fun q hq => g q (by simpa using hq), I.hok, I.len⟩
section
variable {P : Program} {w : World} {K : PySem.W.Frag} {mg : Str → Option Value} {base : Heap}
abbrev cxQ (CX : CXT) (P : Program) (w : World) (K : PySem.W.Frag) (mg : Str → Option Value) (base : Heap) (N : List Str) (qual : Str) (scope : Scope) (f : Addr) (cd : Value) (A : Around) (outer : List Env) (s : Shared) (H : Hp) (E : XK) (L : List (Addr × Obj)) : Cx :=
  { cxOf CX P w K mg base N qual scope f cd A outer s H E with calm := false, pn := L }
theorem inv_startQ {CX : CXT} {N ps : List Str} {qual : Str} {scope : Scope} {f : Addr} {cd : Value} {A : Around} {outer : List Env} {s s1 : Shared} {H : Hp} {E : XK} {us : List Value} {vs : List V} {L : List (Addr × Obj)} {p : Addr × Obj}
    (S : FnScope N ps scope) (hp : p ∈ L) (hpin : ∀ q ∈ L, PinOk outer H s q) (e0 : Env0 P w K mg base A outer s H) (hl : vs.length = ps.length) (r : Vals vs us)
    (x : InCallC s s.heap.objs.size (bindL (envOfC qual scope s.heap.objs.size f cd).kindOf (ps.zip us) fun _ => none) (cellsFrom (s.heap.objs.size + 1) scope.names []) (bindC (envOfC qual scope s.heap.objs.size f cd).kindOf (ps.zip us) fun _ => none) s1) :
    Inv (cxQ CX P w K mg base N qual scope f cd A outer s H E L) [] (L2.start N vs) H s1 := by
  have J : ∀ q ∈ L, Inv (cxH CX P w K mg base N qual scope f cd A outer s H E q) [] (L2.start N vs) H s1 := fun q hq => inv_startH S (hpin q hq) e0 hl r x
  exact pins_to (X := cxQ CX P w K mg base N qual scope f cd A outer s H E L) (p0 := [p]) (J p hp) fun q hq => (J q hq).pin q (List.mem_append_left _ (List.mem_singleton.mpr rfl))
/-- what a def promises that is called with the exception that is handled: sp speaks of its address, its class and its dict -/
structure FnQ (P : Program) (w : World) (K : PySem.W.Frag) (mg : Str → Option Value) (base : Heap) (CX : CXT) (k : Nat) (f : Addr) (fd : FuncData) (ps : List Str) (sp : Addr → Value → Option Addr → Sp) : Prop where
  len : ∀ a c d vs H Q E, sp a c d vs H Q E → vs.length = ps.length
  run : ∀ (A : Around) (outer : List Env) (s : Shared) (H : Hp) (args : Args) (us : List Value) (vs : List V) (Q : VK) (E : XK) (L : List (Addr × Obj)) (p : Addr × Obj) (c : Value) (d : Option Addr), RoomH k A → Hot2 A L → (∀ q ∈ L, PinOk outer H s q) → p ∈ L → (∃ fs, p.2.data = .fields fs) → Zc c d p.2 → Env0 P w K mg base A outer s H → BindsTo s fd args (ps.zip us) → Vals vs us → sp p.1 c d vs H Q E →
    codeAny (model P w) A (.call (.ref f) args) (CR CX outer P w H s Q E) s
theorem okQ {x qual : Str} {st : Stmt} {f : Addr} {fd : FuncData} {N ps : List Str} {k : Nat} {CX : CXT} {sp : Addr → Value → Option Addr → Sp} (F : Fun K x qual st f fd) (S : FnScope N ps (defScope st)) (len : ∀ a c d vs H Q E, sp a c d vs H Q E → vs.length = ps.length)
    (hb : ∀ (cdv : Value) (A : Around) (outer : List Env) (s : Shared) (H : Hp) (vs : List V) (Q : VK) (E : XK) (L : List (Addr × Obj)) (p : Addr × Obj) (c : Value) (d : Option Addr), Hot2 A L → p ∈ L → (∃ fs, p.2.data = .fields fs) → Zc c d p.2 → RoomH k (A.deeper (envOfC qual (defScope st) s.heap.objs.size f cdv)) → sp p.1 c d vs H Q E →
      ∃ t, PSs (cxQ CX P w K mg base N qual (defScope st) f cdv A outer s H E L) (defBody st) t ∧ t { nx := fun _ H' => Q .non H', rt := Q } (L2.start N vs) H) : FnQ P w K mg base CX (k + 1) f fd ps sp := by
  obtain ⟨_, _, _, _, _, _, cdv, _, _, rfl, lk, hcd⟩ := F.ex
  refine ⟨len, fun A outer s H args us vs Q E L p c d hr hot hpin hp hf hz e0 bt r h => ?_⟩
  have kin : K.In s.heap := e0.mod.kin.keeps fun b o z => (e0.bs b o z).1
  have nol : s.heap.NoLimit := e0.mod.nolimit.keeps fun b o z => (e0.bs b o z).1
  have hk : ∀ y ∈ ps.zip us, (defScope st).names.lookup y.1 = some .local ∨ ((defScope st).names.lookup y.1 = some .cell ∧ ((cellsFrom (s.heap.objs.size + 1) (defScope st).names []).lookup y.1).isSome = true) := fun y hy =>
    (S.par y.1 (List.of_mem_zip (show (y.1, y.2) ∈ ps.zip us from hy)).1).imp id fun q => ⟨q, PySem.W.cellsFrom_some _ _ _ (.inl q)⟩
  refine codeAny_call_function hr.depth (kin _ _ lk) rfl S.co S.gen rfl (PySem.W.codeRec_of kin hcd) (bt _ _ _ _ (wpAny_newFunctionEnv_cells S.kind hk fun env he s1 x1 => ?_))
  subst he
  refine ⟨nol.keeps x1.toInCall.keep, codeAny_func ?_⟩
  obtain ⟨t, ht, hq⟩ := hb cdv A outer s H vs Q E L p c d hot hp hf hz (hr.deeper _) h
  refine wpAny_mono (ht.run [] s1 (L2.start N vs) H _ (inv_startQ S hp hpin e0 (len _ _ _ _ _ _ _ h) r x1) hq) (fun fl s' hs => ?_) fun e s' hs => hs
  cases fl with
  | ret u =>
    obtain ⟨v, σ', H', J, rv, q⟩ := hs
    exact ⟨v, H', J.os, J.bare, J.base, J.hok, rv, q⟩
  | next =>
    obtain ⟨σ', H', J, q⟩ := hs
    exact ⟨.non, H', J.os, J.bare, J.base, J.hok, rfl, q⟩
  | brk => obtain ⟨_, _, _, q⟩ := hs; exact q.elim
  | cont => obtain ⟨_, _, _, q⟩ := hs; exact q.elim
end
section
variable {X : Cx} {CX : CXT} {k : Nat} {f C : Addr} {fd : FuncData} {ps : List Str} {x m : Str} {q pos apos : Pos} {e o : Expr} {es : List Expr} {ta : TE} {t : TA}
/-- f(e, ..) where an exception is handled -/
theorem pe_callQ {sp : Addr → Value → Option Addr → Sp} {L : List (Addr × Obj)} {a : Addr} {oe : Obj} {c : Value} {d : Option Addr} (F : FnQ X.prog X.w X.K X.mg X.base CX0 k f fd ps sp) (hr : RoomH k X.A) (hot : Hot2 X.A L) (hL : ∀ r ∈ L, r ∈ X.pn) (hp : (a, oe) ∈ L) (hf : ∃ fs, oe.data = .fields fs) (hz : Zc c d oe) (hg : Gl X x) (hm : X.mg x = some (.ref f)) (hk : PySem.W.keepIn X.K (.ref f) = true) (hb : Binds X.K fd ps [])
    (ha : PA X (e :: es) t) (hdb : (x == ("__debug__" : Str)) = false := by decide) (he : starEach (e :: es) X.env = (false, eval e X.env) :: starEach es X.env := by rfl) (hpl : (backTo pos (starEach es X.env)).any (·.1) = false := by rfl) :
    PE X (.Call (.Name x q) (e :: es) [] pos) (tCallS (sp a c d) (fun _ _ _ _ => False) t) := by
  refine ⟨fun pins s σ H Q I h => wpAny_Call_Name_kw (ld_glob I hg hm (PySem.W.callWith_K (h₀ := X.base) I.ok.mod.kin hk (thn (ha.run pos pins s σ H _ I h) fun us s1 ⟨vs, H1, I1, r, q⟩ => ⟨I1.kIn, ?_⟩) he hpl) hdb)⟩
  have hl : us.length = ps.length := by rw [← r.length]; exact F.len _ _ _ _ _ _ _ q
  have b := hb s1 us I1.kIn (by rw [List.append_nil]; exact hl)
  rw [List.append_nil] at b
  have hpin : ∀ r ∈ L, PinOk X.stack H1 s1 r := fun r hr2 => by
    have P1 := I1.pin r (List.mem_append_left _ (hL r hr2))
    exact ⟨P1.1, P1.2.1, fun hm => (List.mem_cons.mp (I1.stkSub r.1 hm)).elim P1.2.2.1 P1.2.2.2.1, P1.2.2.2.2⟩
  refine wpAny_call (codeAny_mono (F.run X.A X.stack s1 H1 ⟨us, []⟩ us vs Q _ L (a, oe) c d hr hot hpin hp hf hz I1.env0 b r q) fun r s' hq => ?_)
  cases r with
  | error e => exact hq.elim
  | ok fl =>
    cases fl with
    | ret u => exact I1.after hq
    | next => exact hq.elim
    | brk => exact hq.elim
    | cont => exact hq.elim
end
end RepHot2
namespace RepHot2
open PySem PySem.Spec PySem.Calls PySem.W PyProof.Rows
section
variable {prog : Program} {w : World} {A : Around} {E : Value → Shared → Prop} {s : Shared} {K : Frag} {x D : Addr} {ox : Obj} {od : Option Obj}
theorem cls_there (h : hasDictIn K D = true) : ∃ (d : Option Addr) (cd : ClassData) (c : Value) (sl : Array (Option Value)), K.lookup D = some ⟨c, d, .cls cd, sl⟩ := by
  obtain ⟨cd, e, _⟩ := any_some h
  unfold clsIn at e
  split at e
  · rename_i c d cd' sl q
    exact ⟨d, cd', c, sl, q⟩
  · cases e
/-- e.__class__, whatever dict e has -/
theorem cls_of_exc {Q : Option Value → Shared → Prop} (C : L2.ExcC K D) (X : K.In s.heap) (I : PySem.W.InstAt s.heap x ox D (some (od.getD ox))) (q : Q (some (.ref D)) { s with toks := s.toks + 1 }) : wpAny (model prog w) A (getAttr? (.ref x) "__class__") Q E s := by
  have ic : (clsIn K D).isSome = true := by obtain ⟨cd, e, _⟩ := any_some C.hd; rw [e]; rfl
  have way : findObj K D (some (od.getD ox)) "__class__" = some (.bind (.builtin "getset_descriptor.__get__") (.builtin "object.__class__")) := findObj_data ic C.ha C.hn C.ht
  obtain ⟨hp, g, dr, t, os⟩ := s
  have T := I.type (M := model prog w)
  have ga := looks_findIn (M := model prog w) X C.hg
  have gt := looks_findIn (M := model prog w) X C.hk
  have fd := looks_find (M := model prog w) X I way
  have isx : Looks (model prog w) hp (isInstance (.ref x) (.type "BaseException")) true := T.andThen (looks_subIn X C.hs)
  have other : (onTheHeap (Value.ref D) && Value.builtin "BaseException.__getattribute__" == Value.builtin "object.__getattribute__") = false := by
    have : (Value.builtin "BaseException.__getattribute__" == Value.builtin "object.__getattribute__") = false := by decide +kernel
    rw [this]; rfl
  unfold getAttr? getAttrBy? getAttrBy
  refine wpAny_bind (wpAny_mkText (wpAny_bind (wpAny_attempt (wpAny_holding (wpAny_bind (T.at (wpAny_bind (ga.at ?_))))))))
  show wpAny _ _ (if (onTheHeap (Value.ref D) && Value.builtin "BaseException.__getattribute__" == Value.builtin "object.__getattribute__") = true then _ else _) _ _ _
  rw [other, if_neg Bool.false_ne_true]
  unfold getAttrByItsOwn hookBefore
  refine wpAny_bind ?_
  rw [if_pos (show onTheHeap (Value.ref D) = true from rfl)]
  refine gt.at (wpAny_bind (wpAny_attempt (wpAny_holding ?_)))
  unfold callGetattribute
  rw [show (false && onTheHeap (Value.builtin "BaseException.__getattribute__")) = false from rfl, if_neg Bool.false_ne_true]
  unfold boundAndCalled
  rw [PySem.F.excAttr_ValueError.ga.bind (.ref x)]
  refine wpAny_bind (wpAny_pure ?_)
  show wpAny _ _ (call (.builtin "BaseException.__getattribute__") [.ref x, .str "__class__" t]) _ _ _
  refine wpAny_call (codeAny_call_builtin PySem.F.excAttr_ValueError.ga.plain PySem.F.entry_bexc_ga ?_)
  refine @check_slot (model prog w) _ _ ⟨hp, g, dr, t + 1, os⟩ "BaseException.__getattribute__" "BaseException" "__getattribute__" (.ref x) [.str "__class__" t] [] _ (by decide +kernel) (by decide +kernel) isx (PySem.F.args_bexc_ga (.ref x) (.str "__class__" t)) ?_
  unfold Builtin.«object.__getattribute__»
  refine wpAny_bind (wpAny_of_eq (a := ((Value.ref x : Value), [Value.str "__class__" t])) (by first | rfl | (simp only [slotArgs]; rfl)) (wpAny_bind (wpAny_pure (wpAny_bind (T.at (wpAny_bind (fd.at ?_)))))))
  show wpAny _ _ (holding [Value.builtin "object.__class__"] (call (.builtin "getset_descriptor.__get__") [.builtin "object.__class__", .ref x, .ref D]) >>= ret) _ _ _
  refine wpAny_bind (wpAny_holding (wpAny_call (class_get (s := ⟨hp, g, dr, t + 1, os⟩) (ox := ox) (od := some (od.getD ox)) X I C.hm (wpAny_pure ?_))))
  show wpAny _ _ (handedOut (.ref D)) _ _ _
  rw [handedOut_of (v := .ref D) rfl]
  first
    | exact wpAny_pure (wpAny_pure q)
    | exact wpAny_pure q
    | exact wpAny_pure (wpAny_bind (wpAny_pure (wpAny_pure q)))
theorem kitx_excQ {o : Obj} (C : L2.ExcC K D) : KitX K (.ref x) (.ref D) (fun h => PySem.W.InstAt h x ox D (some o)) where
  ty := fun _ _ _ I => I.type
  it := fun _ _ X _ => by
    obtain ⟨d, cd, c, sl, e⟩ := cls_there C.hd
    intro A' Q' E' s' k q
    unfold isType loadHead
    exact wpAny_bind (wpAny_loadPart (k _ _ (X _ _ e)) (wpAny_pure q))
  ne := fun h tp dd its n sl X htp => by
    obtain ⟨d, cd, c, sl', e⟩ := cls_there C.hd
    refine Bool.eq_false_iff.mpr fun q => ?_
    obtain rfl : D = tp := Value.ref.inj (beq_iff_eq.mp q)
    have z := (X _ _ e).symm.trans htp
    cases z
  ca := fun X I k => cls_of_exc (od := some o) C X I k
end
end RepHot2
namespace RepHot2
open PySem PySem.Spec PyProof.Rows L2 L2H HotX RepHot
/-- isinstance(e, c), e pinned, whatever dict it has -/
def rIsQ (K : PySem.W.Frag) (D a : Addr) (d : Option Addr) : List V → Hp → VK → Prop := fun xs H Q => (∀ dx, d = some dx → ∃ fs, H dx = some (.xd fs)) ∧ rIsE K D a xs H Q
theorem call_isQ {X : Cx} {a D : Addr} {oe : Obj} {d : Option Addr} (hp : (a, oe) ∈ X.pn) (C : ExcC X.K D) (hz : Zc (.ref D) d oe) (hf : ∃ vs, oe.data = .fields vs) : CallR X (.builtin "isinstance") (rIsQ X.K D a d) := by
  intro pins s σ H xs us Q I r h
  obtain ⟨hd, c, cv, b, rfl, hcv, e, q⟩ := h
  match us, r with
  | [_, _], .cons rx (.cons rt .nil) =>
    cases rx
    obtain rfl := hcv _ rt
    obtain ⟨g, _⟩ := I.pin (a, oe) (List.mem_append_left _ hp)
    obtain ⟨vs, hv⟩ := hf
    have fin : ∀ tk, EP X pins σ Q (.bool b) { s with toks := tk } := fun tk => ⟨.bl b, H, I.kept (t' := tk) fun _ _ z => z, rfl, q⟩
    obtain ⟨oc, od, oda, osl⟩ := oe
    obtain ⟨h1, h2⟩ := hz
    dsimp only at h1 h2 hv
    subst h1 h2 hv
    cases od with
    | none => exact PySem.W.kia_one (PySem.W.handS_kitx_exc C.hg C.hk C.hs C.hd C.ha C.hn C.ht C.hm) I.kIn (show PySem.W.InstAt s.heap a _ D none from ⟨g, rfl, rfl, trivial⟩) e (fun z => nomatch z) fin
    | some dx =>
      obtain ⟨fs, ed⟩ := hd dx rfl
      obtain ⟨mA, hns, hr⟩ := (show ObjOk X.prog X.w H s.heap dx (.xd fs) from I.hok dx _ ed)
      obtain ⟨ob, ho, hl⟩ := lookIn_ns hns
      exact PySem.W.kia_one (kitx_excQ (o := ob) C) I.kIn (show PySem.W.InstAt s.heap a _ D (some ob) from ⟨g, rfl, rfl, ho⟩) e (fun z => nomatch z) fin
end RepHot2
namespace Rep
open PySem L2 L2H RepHot RepHot2
/-! which refusal it is, where the exception may have fields and a context -/
def spKinQ (K : PySem.W.Frag) (cs : List Addr) : Addr → Value → Option Addr → Sp := fun a c d vs H Q _ => ∃ (D : Addr) (j : Nat), c = .ref D ∧ (∀ dx, d = some dx → ∃ fs, H dx = some (.xd fs)) ∧ KinD K cs D j ∧ vs = [.ref a] ∧ ∀ H', Same H H' → Q (.str (kinWord j)) H'
section
variable {P : Program} {w : World} {K : PySem.W.Frag} {mg : Str → Option Value} {base : Heap}
theorem ok_kinQ {f c0 c1 c2 c3 c4 c5 c6 c7 c8 : Addr} {fd : FuncData} {k : Nat} (F : Fun K "_law_kin" "_law_kin" s_law_kin f fd) (M : KinM mg [c0, c1, c2, c3, c4, c5, c6, c7, c8]) (mi : mg "isinstance" = none) (mV : mg "ValueError" = none) (mz : mg "zip" = none) :
    FnQ P w K mg base CX0 (k + 1) f fd ["_law_e"] (spKinQ K [c0, c1, c2, c3, c4, c5, c6, c7, c8]) := by
  refine okQ F scKin (fun a c d vs H Q E h => ?_) (fun cdv A outer s H vs Q E L p c d hot hp hf hz hr h => ?_)
  · obtain ⟨D, j, _, _, _, rfl, _⟩ := h; rfl
  obtain ⟨D, j, rfl, hd, kd, rfl, q⟩ := h
  have g0 : mg "BadLength" = some (.ref c0) := M.at_ 0 c0 rfl
  have g1 : mg "BadStretch" = some (.ref c1) := M.at_ 1 c1 rfl
  have g2 : mg "NoPlace" = some (.ref c2) := M.at_ 2 c2 rfl
  have g3 : mg "NoNumber" = some (.ref c3) := M.at_ 3 c3 rfl
  have g4 : mg "BadLetter" = some (.ref c4) := M.at_ 4 c4 rfl
  have g5 : mg "Full" = some (.ref c5) := M.at_ 5 c5 rfl
  have g6 : mg "InUse" = some (.ref c6) := M.at_ 6 c6 rfl
  have g7 : mg "NothingLeft" = some (.ref c7) := M.at_ 7 c7 rfl
  have g8 : mg "BadPage" = some (.ref c8) := M.at_ 8 c8 rfl
  refine ⟨_, (pss_cons (ps_set (i := 1) scKin.nd rfl (.inl rfl) (pe_lst (pa_cons (pe_callB (call_isQ (X := cxQ CX0 P w K mg base nKin "_law_kin" (defScope s_law_kin) f cdv A outer s H E L) (a := p.1) (oe := p.2) hp kd.ex hz hf) (by rfl) mi PyProof.Rows.boot_isinstance (pa_cons (pv 0) (pa_cons (pe_glob (v := .ref c0) (by rfl) g0 rfl) pa_nil))) (pa_cons (pe_callB (call_isQ (X := cxQ CX0 P w K mg base nKin "_law_kin" (defScope s_law_kin) f cdv A outer s H E L) (a := p.1) (oe := p.2) hp kd.ex hz hf) (by rfl) mi PyProof.Rows.boot_isinstance (pa_cons (pv 0) (pa_cons (pe_glob (v := .ref c1) (by rfl) g1 rfl) pa_nil))) (pa_cons (pe_callB (call_isQ (X := cxQ CX0 P w K mg base nKin "_law_kin" (defScope s_law_kin) f cdv A outer s H E L) (a := p.1) (oe := p.2) hp kd.ex hz hf) (by rfl) mi PyProof.Rows.boot_isinstance (pa_cons (pv 0) (pa_cons (pe_glob (v := .ref c2) (by rfl) g2 rfl) pa_nil))) (pa_cons (pe_callB (call_isQ (X := cxQ CX0 P w K mg base nKin "_law_kin" (defScope s_law_kin) f cdv A outer s H E L) (a := p.1) (oe := p.2) hp kd.ex hz hf) (by rfl) mi PyProof.Rows.boot_isinstance (pa_cons (pv 0) (pa_cons (pe_glob (v := .ref c3) (by rfl) g3 rfl) pa_nil))) pa_nil))))))
    (pss_cons (ps_set (i := 1) scKin.nd rfl (.inl rfl) (pe_op op_cat (pv 1) (pe_lst (pa_cons (pe_callB (call_isQ (X := cxQ CX0 P w K mg base nKin "_law_kin" (defScope s_law_kin) f cdv A outer s H E L) (a := p.1) (oe := p.2) hp kd.ex hz hf) (by rfl) mi PyProof.Rows.boot_isinstance (pa_cons (pv 0) (pa_cons (pe_glob (v := .ref c4) (by rfl) g4 rfl) pa_nil))) (pa_cons (pe_callB (call_isQ (X := cxQ CX0 P w K mg base nKin "_law_kin" (defScope s_law_kin) f cdv A outer s H E L) (a := p.1) (oe := p.2) hp kd.ex hz hf) (by rfl) mi PyProof.Rows.boot_isinstance (pa_cons (pv 0) (pa_cons (pe_glob (v := .ref c5) (by rfl) g5 rfl) pa_nil))) (pa_cons (pe_callB (call_isQ (X := cxQ CX0 P w K mg base nKin "_law_kin" (defScope s_law_kin) f cdv A outer s H E L) (a := p.1) (oe := p.2) hp kd.ex hz hf) (by rfl) mi PyProof.Rows.boot_isinstance (pa_cons (pv 0) (pa_cons (pe_glob (v := .ref c6) (by rfl) g6 rfl) pa_nil))) pa_nil))))))
    (pss_cons (ps_set (i := 1) scKin.nd rfl (.inl rfl) (pe_op op_cat (pv 1) (pe_lst (pa_cons (pe_callB (call_isQ (X := cxQ CX0 P w K mg base nKin "_law_kin" (defScope s_law_kin) f cdv A outer s H E L) (a := p.1) (oe := p.2) hp kd.ex hz hf) (by rfl) mi PyProof.Rows.boot_isinstance (pa_cons (pv 0) (pa_cons (pe_glob (v := .ref c7) (by rfl) g7 rfl) pa_nil))) (pa_cons (pe_callB (call_isQ (X := cxQ CX0 P w K mg base nKin "_law_kin" (defScope s_law_kin) f cdv A outer s H E L) (a := p.1) (oe := p.2) hp kd.ex hz hf) (by rfl) mi PyProof.Rows.boot_isinstance (pa_cons (pv 0) (pa_cons (pe_glob (v := .ref c8) (by rfl) g8 rfl) pa_nil))) (pa_cons (pe_not (pe_callB (call_isQ (X := cxQ CX0 P w K mg base nKin "_law_kin" (defScope s_law_kin) f cdv A outer s H E L) (a := p.1) (oe := p.2) hp kd.ex hz hf) (by rfl) mi PyProof.Rows.boot_isinstance (pa_cons (pv 0) (pa_cons (pe_bltn (v := .ty "ValueError") (by rfl) mV (by decide +kernel) rfl) pa_nil)))) pa_nil))))))
    (pss_cons (ps_set (i := 2) scKin.nd rfl (.inl rfl) (pe_lst (pa_cons pe_str (pa_cons pe_str (pa_cons pe_str (pa_cons pe_str (pa_cons pe_str (pa_cons pe_str (pa_cons pe_str (pa_cons pe_str (pa_cons pe_str pa_nil)))))))))))
    (pss_one (ps_ret (pe_join pe_str (pe_lcQ (own := [("_law_word", 3), ("_law_kin_here", 4)]) (g := gTup K 2 (gCons (gName 3) (gCons (gName 4) gNil))) (tt := tTest (tVar 4)) (te := tVar 3) (L := L) hot (fun r h => h) scKin.nd (pi_zipQ (by rfl) mz (pa_cons (pe_op op_cat (pv 2) (pe_lst (pa_cons pe_str pa_nil))) (pa_cons (pv 1) pa_nil))) (blkOk_by (N := nKin) (sc := defScope s_law_kin) (by decide +kernel)) (fun _ _ _ _ _ => pg_tupQ ⟨L, hot, fun r h => h⟩ (pgs_cons (pg_name (i := 3) scKin.nd rfl (.inl rfl)) (pgs_cons (pg_name (i := 4) scKin.nd rfl (.inl rfl)) pgs_nil))) (fun _ _ _ _ _ => pts_one (pt_val (pv 4))) (fun _ _ _ _ _ => pv 3))))))))), ?_⟩
  have o0 := kd.own 0 c0 rfl
  have o1 := kd.own 1 c1 rfl
  have o2 := kd.own 2 c2 rfl
  have o3 := kd.own 3 c3 rfl
  have o4 := kd.own 4 c4 rfl
  have o5 := kd.own 5 c5 rfl
  have o6 := kd.own 6 c6 rfl
  have o7 := kd.own 7 c7 rfl
  have o8 := kd.own 8 c8 rfl
  refine ⟨.ref p.1, rfl, hd, .ref c0, _, _, rfl, (fun u e => e), o0, .ref p.1, rfl, hd, .ref c1, _, _, rfl, (fun u e => e), o1, .ref p.1, rfl, hd, .ref c2, _, _, rfl, (fun u e => e), o2, .ref p.1, rfl, hd, .ref c3, _, _, rfl, (fun u e => e), o3, (by show 4 ≤ sizeLine; decide), fun l1 n1 => ?_⟩
  have s1 : Same H (upd H l1 (.lst [.bl (decide (0 = j)), .bl (decide (1 = j)), .bl (decide (2 = j)), .bl (decide (3 = j))])) := same_upd n1
  have z1 : (upd H l1 (.lst [.bl (decide (0 = j)), .bl (decide (1 = j)), .bl (decide (2 = j)), .bl (decide (3 = j))])) l1 = some (.lst [.bl (decide (0 = j)), .bl (decide (1 = j)), .bl (decide (2 = j)), .bl (decide (3 = j))]) := upd_same
  generalize upd H l1 (.lst [.bl (decide (0 = j)), .bl (decide (1 = j)), .bl (decide (2 = j)), .bl (decide (3 = j))]) = H1 at s1 z1 ⊢
  have hd1 : ∀ dx, d = some dx → ∃ fs, H1 dx = some (.xd fs) := fun dx e => by obtain ⟨fs, z⟩ := hd dx e; exact ⟨fs, s1 _ _ z⟩
  refine ⟨.ref l1, rfl, .ref p.1, rfl, hd1, .ref c4, _, _, rfl, (fun u e => e), o4, .ref p.1, rfl, hd1, .ref c5, _, _, rfl, (fun u e => e), o5, .ref p.1, rfl, hd1, .ref c6, _, _, rfl, (fun u e => e), o6, (by show 3 ≤ sizeLine; decide), fun l2 n2 => ?_⟩
  have s2 : Same H1 (upd H1 l2 (.lst [.bl (decide (4 = j)), .bl (decide (5 = j)), .bl (decide (6 = j))])) := same_upd n2
  have z2 : (upd H1 l2 (.lst [.bl (decide (4 = j)), .bl (decide (5 = j)), .bl (decide (6 = j))])) l2 = some (.lst [.bl (decide (4 = j)), .bl (decide (5 = j)), .bl (decide (6 = j))]) := upd_same
  generalize upd H1 l2 (.lst [.bl (decide (4 = j)), .bl (decide (5 = j)), .bl (decide (6 = j))]) = H2 at s2 z2 ⊢
  refine ⟨l1, l2, _, _, rfl, rfl, s2 _ _ z1, z2, (by show 4 + 3 ≤ sizeLine; decide), fun l3 n3 => ?_⟩
  have s3 := same_upd (o := .lst ([.bl (decide (0 = j)), .bl (decide (1 = j)), .bl (decide (2 = j)), .bl (decide (3 = j))] ++ [.bl (decide (4 = j)), .bl (decide (5 = j)), .bl (decide (6 = j))])) n3
  have z3 : (upd H2 l3 (.lst ([.bl (decide (0 = j)), .bl (decide (1 = j)), .bl (decide (2 = j)), .bl (decide (3 = j))] ++ [.bl (decide (4 = j)), .bl (decide (5 = j)), .bl (decide (6 = j))]))) l3 = some (.lst ([.bl (decide (0 = j)), .bl (decide (1 = j)), .bl (decide (2 = j)), .bl (decide (3 = j))] ++ [.bl (decide (4 = j)), .bl (decide (5 = j)), .bl (decide (6 = j))])) := upd_same
  generalize upd H2 l3 (.lst ([.bl (decide (0 = j)), .bl (decide (1 = j)), .bl (decide (2 = j)), .bl (decide (3 = j))] ++ [.bl (decide (4 = j)), .bl (decide (5 = j)), .bl (decide (6 = j))])) = H3 at s3 z3 ⊢
  have hd3 : ∀ dx, d = some dx → ∃ fs, H3 dx = some (.xd fs) := fun dx e => by obtain ⟨fs, z⟩ := hd1 dx e; exact ⟨fs, s3 _ _ (s2 _ _ z)⟩
  refine ⟨.ref l3, rfl, .ref p.1, rfl, hd3, .ref c7, _, _, rfl, (fun u e => e), o7, .ref p.1, rfl, hd3, .ref c8, _, _, rfl, (fun u e => e), o8, .ref p.1, rfl, hd3, .ty "ValueError", .type "ValueError", true, rfl, (fun u e => e), kd.val, _, rfl, (by show 3 ≤ sizeLine; decide), fun l4 n4 => ?_⟩
  have s4 : Same H3 (upd H3 l4 (.lst [.bl (decide (7 = j)), .bl (decide (8 = j)), .bl (!true)])) := same_upd n4
  have z4 : (upd H3 l4 (.lst [.bl (decide (7 = j)), .bl (decide (8 = j)), .bl (!true)])) l4 = some (.lst [.bl (decide (7 = j)), .bl (decide (8 = j)), .bl (!true)]) := upd_same
  generalize upd H3 l4 (.lst [.bl (decide (7 = j)), .bl (decide (8 = j)), .bl (!true)]) = H4 at s4 z4 ⊢
  refine ⟨l3, l4, _, _, rfl, rfl, s4 _ _ z3, z4, (by show 7 + 3 ≤ sizeLine; decide), fun l5 n5 => ?_⟩
  have ef : ([.bl (decide (0 = j)), .bl (decide (1 = j)), .bl (decide (2 = j)), .bl (decide (3 = j))] ++ [.bl (decide (4 = j)), .bl (decide (5 = j)), .bl (decide (6 = j))]) ++ [.bl (decide (7 = j)), .bl (decide (8 = j)), .bl (!true)] = (kinFlags j).map V.bl := by
    have h9 : decide (9 = j) = false := decide_eq_false (by have := kd.lt; omega)
    show _ = [V.bl (decide (0 = j)), V.bl (decide (1 = j)), V.bl (decide (2 = j)), V.bl (decide (3 = j)), V.bl (decide (4 = j)), V.bl (decide (5 = j)), V.bl (decide (6 = j)), V.bl (decide (7 = j)), V.bl (decide (8 = j)), V.bl (decide (9 = j))]
    rw [h9]; rfl
  rw [ef]
  have s5 := same_upd (o := .lst ((kinFlags j).map V.bl)) n5
  have z5 : (upd H4 l5 (.lst ((kinFlags j).map V.bl))) l5 = some (.lst ((kinFlags j).map V.bl)) := upd_same
  generalize upd H4 l5 (.lst ((kinFlags j).map V.bl)) = H5 at s5 z5 ⊢
  refine ⟨(by show 9 ≤ sizeLine; decide), fun l6 n6 => ?_⟩
  generalize e6 : upd H5 l6 _ = H6
  have s6 : Same H5 H6 := by rw [← e6]; exact same_upd n6
  have z6 : H6 l6 = some (.lst ((kinWords.take 9).map V.str)) := by rw [← e6]; exact upd_same
  refine ⟨⟨_, rfl⟩, .ref l6, rfl, (by show 1 ≤ sizeLine; decide), fun l7 n7 => ?_⟩
  generalize e7 : upd H6 l7 _ = H7
  have s7 : Same H6 H7 := by rw [← e7]; exact same_upd n7
  have z7 : H7 l7 = some (.lst [V.str "odd"]) := by rw [← e7]; exact upd_same
  refine ⟨l6, l7, _, _, rfl, rfl, s7 _ _ z6, z7, (by show 9 + 1 ≤ sizeLine; decide), fun l8 n8 => ?_⟩
  generalize e8 : upd H7 l8 _ = H8
  have s8 : Same H7 H8 := by rw [← e8]; exact same_upd n8
  have z8 : H8 l8 = some (.lst (kinWords.map V.str)) := by rw [← e8]; exact upd_same
  have w5 : H8 l5 = some (.lst ((kinFlags j).map V.bl)) := s8 _ _ (s7 _ _ (s6 _ _ z5))
  have sAll : Same H H8 := s1.trans (s2.trans (s3.trans (s4.trans (s5.trans (s6.trans (s7.trans s8))))))
  refine ⟨.ref l5, rfl, l8, l5, kinWords.map V.str, (kinFlags j).map V.bl, rfl, .inl (.inl z8), .inl (.inl w5), fun D nD => ?_⟩
  refine lc_it (walk_zip (K := K) (a := l8) (b := l5) (xs := kinWords.map V.str) (ys := (kinFlags j).map V.bl) (n := 10) rfl) (fun i H9 => Same H8 H9 ∧ H9 D = some (.lst ((if j < i then [kinWord j] else []).map V.str))) ⟨same_upd nD, ?_⟩ (fun i H9 _ hP => ⟨.inl (.inl (hP.1 _ _ z8)), .inl (.inl (hP.1 _ _ w5))⟩) (fun i v H9 HA hi hP hy => ?_) (fun H9 hP => ?_)
  · rw [if_neg (Nat.not_lt_zero j)]; exact upd_same
  · obtain ⟨sm, eD⟩ := hP
    obtain ⟨t, u1, u2, rfl, nt, rfl, g1, g2⟩ := hy
    have g1 : (kinWords.map V.str)[i]? = some u1 := g1
    have g2 : ((kinFlags j).map V.bl)[i]? = some u2 := g2
    have e1 : u1 = .str (kinWord i) := by
      rw [List.getElem?_map] at g1
      have hi : i < kinWords.length := hi
      rw [List.getElem?_eq_getElem hi] at g1
      cases g1
      show V.str kinWords[i] = V.str (kinWords.getD i "")
      rw [List.getD_eq_getElem?_getD, List.getElem?_eq_getElem hi]; rfl
    have e2 : u2 = .bl (decide (i = j)) := by
      unfold kinFlags at g2
      rw [List.getElem?_map, List.getElem?_map, List.getElem?_range hi] at g2
      cases g2; rfl
    subst e1 e2
    have sA := same_upd (o := .tup [.str (kinWord i), .bl (decide (i = j))]) nt
    refine ⟨t, [.str (kinWord i), .bl (decide (i = j))], rfl, .inl (.inl upd_same), rfl, _, _, rfl, _, _, rfl, rfl, rfl, ?_⟩
    refine ⟨.bl (decide (i = j)), rfl, decide (i = j), rfl, ite2 (fun c => ?_) (fun c => ?_)⟩
    · have c : i = j := of_decide_eq_true c
      subst c
      rw [if_neg (Nat.lt_irrefl i)] at eD
      refine ⟨.str (kinWord i), rfl, [], sA _ _ eD, (by show 0 < sizeLine; decide), same_over (sm.trans sA) nD, ?_⟩
      rw [if_pos (Nat.lt_succ_self i)]; exact upd_same
    · have c : ¬ i = j := fun z => c (decide_eq_true z)
      refine ⟨sm.trans sA, ?_⟩
      rw [show (if j < i + 1 then [kinWord j] else []) = (if j < i then [kinWord j] else []) from by
        by_cases h : j < i
        · rw [if_pos h, if_pos (by omega)]
        · rw [if_neg h, if_neg (by omega)]]
      exact sA _ _ eD
  · obtain ⟨sm, eD⟩ := hP
    rw [if_pos (by have := kd.lt; omega)] at eD
    refine ⟨"", D, [kinWord j], rfl, rfl, .inl (.inl (.inl eD)), ?_, ?_⟩
    · have hl : ∀ j < 9, (([kinWord j] : List Str).map (·.length)).sum + ([kinWord j] : List Str).length * (("" : Str).length) ≤ 16777216 := by decide +kernel
      exact hl j kd.lt
    · exact q H9 (sAll.trans sm)
end
end Rep
/-! exceptions in flight whose context is none or an exception that stands (its own context none) -/
namespace L2K
open PySem PySem.Spec PyProof.Rows L2
abbrev St := L2.St
abbrev ctxV : Option Addr → Value
  | none => .none
  | some y => .ref y
/-- class, dict and context -/
def Zk (cls : Value) (d yo : Option Addr) : Obj → Prop := fun o => Zc cls d o ∧ ∀ vs : Array Value, o.data = .fields vs → vs[2]? = some (ctxV yo)
theorem Zk.steady {cls : Value} {d yo : Option Addr} : PXN.Steady1 (Zk cls d yo) := fun o v h => ⟨⟨PXN.steady_cls o v h.1.1, PXN.steady_dict o v h.1.2⟩, fun vs e => by
  obtain ⟨c, dd, dt, sl⟩ := o
  cases dt with
  | fields v0 =>
    obtain rfl : v0.setIfInBounds 1 v = vs := Data.fields.inj e
    rw [show (v0.setIfInBounds 1 v)[2]? = v0[2]? from by simp [Array.getElem?_setIfInBounds]]
    exact h.2 v0 rfl
  | _ => cases e⟩
theorem Zk.of_n {cls : Value} {d : Option Addr} {o : Obj} (h : L2N.Zn cls d o) : Zk cls d none o := ⟨⟨h.1, h.2.1⟩, h.2.2⟩
/-- the context stands in the ground, untracked -/
def Yok (B : Heap) (H : Hp) (yo : Option Addr) : Prop := ∀ y, yo = some y → H y = none ∧ ∃ (oy : Obj) (ws : Array Value), B.get? y = some oy ∧ oy.data = .fields ws ∧ ws[2]? = some .none
theorem Yok.no {B : Heap} {H : Hp} : Yok B H none := fun _ e => nomatch e
theorem sky_imp {B : Heap} {l : List Env} {a L : Addr} {Z Z' : Obj → Prop} {h : Heap} (z : ∀ o, Z o → Z' o) (x : Sky B l a Z L h) : Sky B l a Z' L h := by
  rcases x with ⟨x1, x2, x3, oe, vs, x4, x5, x6⟩ | x | x
  · exact .inl ⟨x1, x2, x3, oe, vs, x4, z _ x5, x6⟩
  · exact .inr (.inl (L2H.flyingZ_imp z x))
  · exact .inr (.inr ⟨x.1, x.2.1, x.2.2.1, L2H.tracedZ_imp z x.2.2.2⟩)
/-- an exception in the air of X -/
def XE (X : Cx) (W : WX) (u : Value) (s' : Shared) : Prop :=
  ∃ (a : Addr) (B : Heap) (sI : Shared) (pins : List (Addr × Obj)) (σ : St) (H : Hp) (cls : Value) (d yo : Option Addr),
    u = .ref a ∧ Inv X pins σ H sI ∧ (∀ b o, sI.heap.get? b = some o → b ∉ frs X.stack → B.get? b = some o) ∧ sI.heap.UpToSlots s'.heap ∧
      Sky B X.stack a (Zk cls d yo) X.env.locals s'.heap ∧ H a = none ∧ s'.os = sI.os ∧ AllBare s'.gens ∧ Yok B H yo ∧ W cls d σ H
def Takes (X : Cx) (W : WX) : Prop := ∀ u s', XE X W u s' → X.xe u s'
theorem XE.imp {X : Cx} {W W' : WX} (h : ∀ c d σ H, W c d σ H → W' c d σ H) {u : Value} {s' : Shared} (x : XE X W u s') : XE X W' u s' := by
  obtain ⟨a, B, sI, pins, σ, H, cls, d, yo, e, I, nb, up, sky, na, os, ag, y, w⟩ := x
  exact ⟨a, B, sI, pins, σ, H, cls, d, yo, e, I, nb, up, sky, na, os, ag, y, h _ _ _ _ w⟩
theorem Takes.imp {X : Cx} {W W' : WX} (t : Takes X W) (h : ∀ c d σ H, W' c d σ H → W c d σ H) : Takes X W' := fun u s' x => t u s' (x.imp h)
theorem XE.of_n {X : Cx} {W : WX} {u : Value} {s' : Shared} (x : L2N.XE X W u s') : XE X W u s' := by
  obtain ⟨a, B, sI, pins, σ, H, cls, d, e, I, nb, up, sky, na, os, ag, w⟩ := x
  exact ⟨a, B, sI, pins, σ, H, cls, d, none, e, I, nb, up, sky_imp (fun _ => Zk.of_n) sky, na, os, ag, .no, w⟩
/-- who takes these takes those without a context -/
theorem Takes.toN {X : Cx} {W : WX} (t : Takes X W) : L2N.Takes X W := fun u s' x => t u s' (.of_n x)
/-- behind a call that let an exception out -/
def CX (P : Program) (w : World) (outer : List Env) (H : Hp) (s : Shared) (E : XK) (u : Value) (s' : Shared) : Prop :=
  ∃ (a : Addr) (B : Heap) (H' : Hp) (cls : Value) (d yo : Option Addr), u = .ref a ∧ HandSPX.FlyingZ B outer a (Zk cls d yo) s'.heap ∧ HOk P w H' B ∧ UB (frs outer) H H' s.heap B s'.heap ∧ H' a = none ∧ s'.os = s.os ∧ AllBare s'.gens ∧ Yok B H' yo ∧ E cls d H'
section
variable {X : Cx} {pins : List (Addr × Obj)} {σ : St} {H : Hp} {sI s s' : Shared} {B : Heap} {W : WX} {E : XK}
/-- a call's exception is in the caller's air: the state without it has the ground and the frames -/
theorem XE.of_call (I : Inv X pins σ H s) (hW : ∀ cls d H', E cls d H' → W cls d σ H') {u : Value} (c : CX X.prog X.w X.stack H s E u s') : XE X W u s' := by
  obtain ⟨a, B, H', cls, d, yo, rfl, fl, hok, ub, na, os, ag, y, hE⟩ := c
  obtain ⟨G, in_, out⟩ := restrict s'.heap fun b => (B.get? b).isSome || decide (b ∈ frs X.stack)
  have ofB : ∀ b o, B.get? b = some o → G.get? b = some o := fun b o e => (in_ b (by simp [e])).trans (fl.1 b o e)
  have ofF : ∀ b, b ∈ frs X.stack → G.get? b = s'.heap.get? b := fun b m => in_ b (by simp [m])
  have back : ∀ b o, G.get? b = some o → s'.heap.get? b = some o ∧ ((∃ o', B.get? b = some o') ∨ b ∈ frs X.stack) := fun b o e => by
    by_cases q : ((B.get? b).isSome || decide (b ∈ frs X.stack)) = true
    · refine ⟨by rw [← in_ b q]; exact e, ?_⟩
      rcases Bool.or_eq_true_iff.mp q with q | q
      · exact .inl (Option.isSome_iff_exists.mp q)
      · exact .inr (of_decide_eq_true q)
    · rw [out b (by simpa using q)] at e; cases e
  have J : Inv X pins σ H' { s with heap := G, gens := s'.gens, drawn := s'.drawn, toks := s'.toks } := by
    refine I.call (ch := []) ⟨fun b o e n m _ => ofB b o (ub.keep b o e n m), fun b o e n m _ => ?_, fun b o e n _ => ub.free b o e n, fun b o e _ => ?_, ub.tups, ub.frzs, ub.tbls⟩ (hok.kept ofB) ag (fun _ z => nomatch z)
    · obtain ⟨sl, q⟩ := ub.slot b o e m
      exact ⟨sl, (ofF b m).trans q⟩
    · by_cases m : b ∈ frs X.stack
      · obtain ⟨sl, q⟩ := ub.slot b o e m
        exact ⟨_, (ofF b m).trans q⟩
      · obtain ⟨o', q⟩ := ub.there b o e m
        exact ⟨o', ofB b o' q⟩
  refine ⟨a, B, _, pins, σ, H', cls, d, yo, rfl, J, fun b o e m => ?_, Heap.UpToSlots.of_keeps fun b o e => (back b o e).1, .inr (.inl fl), na, os, ag, y, hW _ _ _ hE⟩
  obtain ⟨e', ⟨o', q⟩ | h⟩ := back b o e
  · have z := (fl.1 b o' q).symm.trans e'
    cases z; exact q
  · exact absurd h m
/-- a new exception, its context the one that is handled -/
theorem XE.new {a : Addr} {oe : Obj} {vs : Array Value} {cls : Value} {d yo : Option Addr} (I : Inv X pins σ H sI) (k : ∀ b o, sI.heap.get? b = some o → s'.heap.get? b = some o) (hne : sI.heap.get? a = none) (he : s'.heap.get? a = some oe)
    (hz : Zk cls d yo oe) (hd : oe.data = .fields vs) (h1 : vs[1]? = some .none) (na : H a = none) (os : s'.os = sI.os) (ag : AllBare s'.gens)
    (hy : ∀ y, yo = some y → y ∉ frs X.stack ∧ H y = none ∧ ∃ (oy : Obj) (ws : Array Value), sI.heap.get? y = some oy ∧ oy.data = .fields ws ∧ ws[2]? = some .none) (w : W cls d σ H) : XE X W (.ref a) s' := by
  refine ⟨a, PySem.W.hideAll sI.heap (frs X.stack), sI, pins, σ, H, cls, d, yo, rfl, I, fun b o e hb => PySem.W.hideAll_get _ e hb, Heap.UpToSlots.of_keeps k,
    .inl ⟨fun b o e => k b o (PySem.W.of_hideAll _ e), ?_, ?_, oe, vs, he, hz, hd, h1⟩, na, os, ag, fun y e => ?_, w⟩
  · cases q : (PySem.W.hideAll sI.heap (frs X.stack)).get? a with
    | none => rfl
    | some o => rw [PySem.W.of_hideAll _ q] at hne; cases hne
  · exact Heap.FunFrames.of_keeps (fun b o e _ => ⟨o, k b o e, rfl⟩) (funFrames_none I.stack fun b hb => PySem.W.hideAll_none _ hb)
  · obtain ⟨y1, y2, oy, ws, y3, y4⟩ := hy y e
    exact ⟨y2, oy, ws, PySem.W.hideAll_get _ y3 y1, y4⟩
/-- it leaves the def -/
theorem XE.leave (hs : X.stack = X.env :: X.outer) (hf : X.env.frame = some X.env.locals) (hex : X.ex = []) {E₁ : Value → Shared → Prop} (hW : ∀ cls d σ H, W cls d σ H → E cls d H) {u : Value} (x : XE X W u s') :
    wpAny (model X.prog X.w) X.A (leaving X.env u) (fun _ s'' => CX X.prog X.w X.outer X.H_0 X.s_0 E u s'') E₁ s' := by
  obtain ⟨a, B, sI, pins, σ, H, cls, d, yo, rfl, I, nb, up, sky, na, os, ag, y, w⟩ := x
  have fs : X.A.frames = some (X.env :: X.outer) := by rw [I.ok.frames, hs]
  have none_ex : ∀ b, b ∉ X.ex := fun b m => by rw [hex] at m; cases m
  have away : ∀ b o, X.s_0.heap.get? b = some o → b ∉ X.fs → b ∉ frs X.stack := fun b o e m q => by
    rcases List.mem_cons.mp (I.stkSub b q) with z | z
    · have h1 := Heap.lt_size e
      rw [z] at h1
      exact absurd (Nat.lt_of_lt_of_le h1 I.ok.above) (Nat.lt_irrefl _)
    · exact m z
  have fin : ∀ h', HandSPX.FlyingZ B X.outer a (Zk cls d yo) h' → s'.heap.UpToSlots h' → CX X.prog X.w X.outer X.H_0 X.s_0 E (.ref a) { s' with heap := h' } := fun h' fl up' => by
    refine ⟨a, B, H, cls, d, yo, rfl, fl, I.inGround nb, ⟨fun b o e n m => nb b o (I.base.keep b o e n m (none_ex b)) (away b o e m), fun b o e m => ?_, fun b o e n => I.base.free b o e n (none_ex b), fun b o e m => ?_, I.base.tups, I.base.frzs, I.base.tbls⟩,
      na, os.trans I.os, ag, y, hW _ _ _ _ w⟩
    · obtain ⟨_, o₀, e₀, nf⟩ := I.ok.funs.mem m
      rw [e] at e₀; cases e₀
      obtain ⟨l1, e1⟩ := I.base.slot b o e (I.ok.frf b m) m (none_ex b)
      obtain ⟨l2, e2⟩ := up b _ e1 nf
      obtain ⟨l3, e3⟩ := up' b _ e2 nf
      exact ⟨l3, e3⟩
    · obtain ⟨o', e1⟩ := I.base.there b o e (none_ex b)
      exact ⟨o', nb b o' e1 (away b o e m)⟩
  rw [hs] at sky
  rcases sky with ⟨g, n, l, oe, vs, he, hz, hd, h1⟩ | fl | hd
  · exact PXN.leaving_firstZ Zk.steady fs l hf he g n hd h1 hz fin
  · exact PXN.leaves_onZ Zk.steady fs hf fl fin
  · exact HandSPX.leaves_heldZ hf hd fin
theorem takes_of (hs : X.stack = X.env :: X.outer) (hf : X.env.frame = some X.env.locals) (hex : X.ex = []) {E₁ : Value → Shared → Prop}
    (hx : X.xe = fun e s' => wpAny (model X.prog X.w) X.A (leaving X.env e) (fun _ s'' => CX X.prog X.w X.outer X.H_0 X.s_0 E e s'') E₁ s') : Takes X (fun cls d _ H => E cls d H) := fun u s' x => by
  rw [hx]
  exact XE.leave (W := fun cls d _ H => E cls d H) hs hf hex (fun _ _ _ _ h => h) x
theorem passes_call (tk : Takes X W) (hW : ∀ cls d σ H, E cls d H → W cls d σ H) : ∀ (pins : List (Addr × Obj)) (σ : St) (H : Hp) (s : Shared) (e : Value) (s' : Shared), Inv X pins σ H s → CX X.prog X.w X.stack H s E e s' → X.xe e s' :=
  fun _ σ _ _ e s' I c => tk e s' (XE.of_call I (fun cls d H' h => hW cls d σ H' h) c)
end
end L2K
namespace RepTry
open PySem PySem.Spec PyProof.Rows L2 L2H
/-! try: .. except (C, D): a suite that may raise; whatever the body raises is one of the two -/
def wTup (K : PySem.W.Frag) (c1 c2 : Value) (ts : Addr → Value → Option Addr → TS) (D : Ends) : WX := fun cls d σ H => PySem.W.exmAny K cls [c1, c2] = some true ∧ ∀ a, H a = none → ts a cls d D σ H
theorem fly_on {h g B : Heap} {es : List Env} {e : Addr} {Z : Obj → Prop} (f : HandSPX.FlyingZ B es e Z h) (k : ∀ b o, h.get? b = some o → g.get? b = some o) : HandSPX.FlyingZ B es e Z g := by
  obtain ⟨f1, f2, f3, x, ws, R, oR, rs, y1, y2, y3, y4, y5, y6, y7, y8, y9⟩ := f
  exact ⟨fun b o z => k b o (f1 b o z), f2, f3.of_keeps fun b o z _ => ⟨o, k b o z, rfl⟩, x, ws, R, oR, rs, k _ _ y1, y2, y3, y4, y5, y6, k _ _ y7, y8, y9⟩
section
variable {X : Cx} {x1 x2 : Str} {c1 c2 : Value} {body suite : List Stmt} {b₀ : Stmt} {q1 q2 tp pos pos' : Pos} {kk : Nat} {tb : WX → TS} {ts : Addr → Value → Option Addr → TS} {Wo : WX}
theorem name_on {σ : L2.St} {H : Hp} {s : Shared} {a : Addr} {pn p0 : List (Addr × Obj)} {x : Str} {c : Value} {qp : Pos} {Q : Value → Shared → Prop} {E : Value → Shared → Prop} (I : Inv (X.suite a pn) p0 σ H s) (n : Names X x c) (q : Q c s) :
    wpAny (model X.prog X.w) (X.A.mark (some (.ref a))) (eval (.Name x qp) X.env) Q E s := by
  obtain ⟨g, db, m | ⟨m, v, nn⟩⟩ := n
  · exact ld_glob (X := X.suite a pn) I g m q db
  · exact ld_blt (X := X.suite a pn) I g m v q nn db
theorem ps_tryT (st : X.stack = X.env :: X.outer) (fr : X.env.frame = some X.env.locals) (n1 : Names X x1 c1) (n2 : Names X x2 c2) (pa : ∀ e : Option Value, PassesOwnAt (model X.prog X.w) (X.A.mark e) X.A X.env X.xe) (tk : L2.Takes X Wo)
    (hb : ∀ (W : WX) (pn : List (Addr × Obj)) (xe : Value → Shared → Prop), L2N.Takes (X.tr pn xe) W → PassesOwn (model X.prog X.w) X.A X.env xe → PSs (X.tr pn xe) body (tb W))
    (hu : ∀ (a : Addr) (oe : Obj) (cls : Value) (d : Option Addr) (pn : List (Addr × Obj)), L2.Takes (suiteX X a ((a, oe) :: pn)) Wo → HotC (suiteX X a ((a, oe) :: pn)) → PSs (suiteX X a ((a, oe) :: pn)) (b₀ :: suite) (ts a cls d)) :
    PS X (.Try body [.ExceptHandler (some (.Tuple [.Name x1 q1, .Name x2 q2] kk tp)) none (b₀ :: suite) pos'] [] [] pos) (fun D σ H => tb (wTup X.K c1 c2 ts D) D σ H) := by
  refine ⟨fun pins s σ H D I h => ?_⟩
  have good := I.ok
  have fs : X.A.frames = some (X.env :: X.outer) := by rw [good.frames, st]
  refine wpAny_Try_except ?_
  let after : Value → Shared → Prop := fun e s₁ => wpAny (model X.prog X.w) X.A (noteFrame e X.env) (fun _ s₂ => wpAny (model X.prog X.w) X.A (setFlight e none)
    (fun _ s₃ => wpAny (model X.prog X.w) X.A (handleBy e X.env [.ExceptHandler (some (.Tuple [.Name x1 q1, .Name x2 q2] kk tp)) none (b₀ :: suite) pos']) (SP X pins D) X.xe s₃) X.xe s₂) X.xe s₁
  have caught : L2N.Takes (X.tr (X.pn ++ pins) after) (wTup X.K c1 c2 ts D) := by
    rintro u s1 ⟨a, B, s0, p1, τ, G, cls, d, rfl, J0, kB, u1, sk, an, eo, bare, xm, go⟩
    have J : Inv X pins τ G s0 := J0.ofTry good
    have sk2 : Sky B (X.env :: X.outer) a (L2N.Zn cls d) X.env.locals s1.heap := by rw [← st]; exact sk
    show wpAny _ X.A (noteFrame (.ref a) X.env) _ _ _
    refine L2N.Sky.land L2N.Zn.steady fs fr sk2 fun g f2 u2 => ?_
    obtain ⟨o2, v2, a2, z2, d2⟩ := f2.there
    have away : ∀ {g : Heap} {o : Obj} {v : Array Value}, g.FunFrames B (X.env :: X.outer) → g.get? a = some o → o.data = .fields v → a ∉ frs (X.env :: X.outer) := fun ff e dd mem => by
      obtain ⟨_, o', e', no⟩ := ff.mem mem
      rw [e] at e'
      exact no _ (by cases e'; exact dd)
    have far := away f2.2.2.1 a2 d2
    have aL : a ≠ X.env.locals := fun z => far (List.mem_filterMap.mpr ⟨X.env, .head _, by rw [fr, z]⟩)
    have aF : a ∉ X.fs := fun mem => by
      obtain ⟨e, e1, e2⟩ := List.mem_filterMap.mp mem
      exact far (List.mem_filterMap.mpr ⟨e, .tail _ e1, e2⟩)
    have J2 : Inv X pins τ G { s1 with heap := g } := J.landed kB f2.1 (u1.trans u2) eo bare
    have S2 := J2.suite a2 d2 an aL aF
    refine wpAny_handleBy_cons (codeAny_handlers_test ?_) (fun z => by cases z)
    refine wpAny_Tuple (wpAny_items_cons (name_on S2 n1 (wpAny_items_cons (name_on S2 n2 (wpAny_items_nil ⟨by size_fits, ?_⟩)))))
    have kp : ∀ b o, g.get? b = some o → (g.push { cls := .type "tuple", data := .seq [c1, c2].toArray }).get? b = some o := fun _ _ z => Heap.get?_push_of_some _ z
    have lt : PySem.W.Looks (model X.prog X.w) g (typeOf (.ref a)) cls := fun A Q E s k q => wpAny_typeOf_ref (k _ _ a2) (by rw [z2.1]; exact q)
    refine (PySem.W.exm_tup2 (M := model X.prog X.w) (J2.kIn.keeps kp) (lt.keeps kp) (Heap.get?_push_size g rfl) xm).here ?_
    refine codeAny_handlers_suite (HandSPX.lands_againZ (fly_on f2 kp) fun g4 f4 u4 => ?_)
    have J4 : Inv X pins τ G { s1 with heap := g4 } := J.landed kB f4.1 (((u1.trans u2).trans (Heap.UpToSlots.of_keeps kp)).trans u4) eo bare
    obtain ⟨o4, v4, a4, z4, d4⟩ := f4.there
    have S4 := J4.suite a4 d4 an aL aF
    have tkS : L2.Takes (suiteX X a ((a, o4) :: (X.pn ++ pins))) Wo := fun u5 s5 y => by
      obtain ⟨y1, y2, y3, y4, y5, y6, y7, y8, y9, ya, yb⟩ := y
      exact tk u5 s5 ⟨y1, y2, y3, pins, y5, y6, y7, y8, y9, unsuiteX ya good, yb⟩
    refine wpAny_mono ((hu a o4 cls d (X.pn ++ pins) tkS ⟨(a, o4), ⟨rfl, v4, d4, z4.2.2 v4 d4⟩, .head _⟩).run [] _ τ G _ (suiteX_of S4) (go a an)) (fun f s6 y => ?_) fun e s6 y => pa (some (.ref a)) e s6 y
    cases f with
    | ret u6 => obtain ⟨v6, τ6, G6, S6, r6, y6⟩ := y; exact ⟨v6, τ6, G6, unsuiteX S6 good, r6, y6⟩
    | next => obtain ⟨τ6, G6, S6, y6⟩ := y; exact ⟨τ6, G6, unsuiteX S6 good, y6⟩
    | brk => obtain ⟨τ6, G6, S6, y6⟩ := y; exact ⟨τ6, G6, unsuiteX S6 good, y6⟩
    | cont => obtain ⟨τ6, G6, S6, y6⟩ := y; exact ⟨τ6, G6, unsuiteX S6 good, y6⟩
  refine wpAny_mono ((hb _ (X.pn ++ pins) after caught PassesOwn.looking).run [] s σ H D (I.toTry _) h) (fun f s1 y => ?_) fun e s1 y => y
  cases f with
  | ret u6 => obtain ⟨v6, τ6, G6, S6, r6, y6⟩ := y; exact ⟨v6, τ6, G6, S6.ofTry good, r6, y6⟩
  | next => obtain ⟨τ6, G6, S6, y6⟩ := y; exact wpAny_execs_nil ⟨τ6, G6, S6.ofTry good, y6⟩
  | brk => obtain ⟨τ6, G6, S6, y6⟩ := y; exact ⟨τ6, G6, S6.ofTry good, y6⟩
  | cont => obtain ⟨τ6, G6, S6, y6⟩ := y; exact ⟨τ6, G6, S6.ofTry good, y6⟩
end
end RepTry
namespace RepTryA
open PySem PySem.Spec PyProof.Rows L2
/-! try: .. except C as n: .. except D as n: .. ; whatever the body raises is caught by one of the two -/
abbrev gone (i : Nat) (D : Ends) : Ends := { nx := fun σ' H' => D.nx (σ'.set i none) H', rt := D.rt, bk := fun σ' H' => D.bk (σ'.set i none) H', ct := fun σ' H' => D.ct (σ'.set i none) H' }
def wTwo (K : PySem.W.Frag) (c1 c2 : Value) (i : Nat) (t1 t2 : Addr → Value → Option Addr → TS) (D : Ends) : WX := fun cls d σ H =>
  (PySem.W.exmOne K cls c1 = some true ∧ ∀ a, H a = none → t1 a cls d (gone i D) (σ.set i (some (.ref a))) H) ∨
    (PySem.W.exmOne K cls c1 = some false ∧ PySem.W.exmOne K cls c2 = some true ∧ ∀ a, H a = none → t2 a cls d (gone i D) (σ.set i (some (.ref a))) H)
section
variable {X : Cx} {x1 x2 n : Str} {c1 c2 : Value} {i : Nat} {body su1 su2 : List Stmt} {b1 b2 : Stmt} {q1 q2 pos p1 p2 : Pos} {tb : WX → TS} {t1 t2 : Addr → Value → Option Addr → TS}
theorem name_at {σ : L2.St} {H : Hp} {s : Shared} {a : Addr} {pn p0 : List (Addr × Obj)} {x : Str} {c : Value} {qp : Pos} {Q : Value → Shared → Prop} {E : Value → Shared → Prop} (I : Inv (X.suite a pn) p0 σ H s) (n : Names X x c) (q : Q c s) :
    wpAny (model X.prog X.w) (X.A.mark (some (.ref a))) (eval (.Name x qp) X.env) Q E s := by
  obtain ⟨g, db, m | ⟨m, v, nn⟩⟩ := n
  · exact ld_glob (X := X.suite a pn) I g m q db
  · exact ld_blt (X := X.suite a pn) I g m v q nn db
theorem ps_try2 (st : X.stack = X.env :: X.outer) (fr : X.env.frame = some X.env.locals) (hN : X.N.Nodup) (hi : X.N[i]? = some n) (hln : X.env.kindOf n = some .local) (n1 : Names X x1 c1) (n2 : Names X x2 c2)
    (hb : ∀ (W : WX) (pn : List (Addr × Obj)) (xe : Value → Shared → Prop), L2N.Takes (X.tr pn xe) W → PassesOwn (model X.prog X.w) X.A X.env xe → PSs (X.tr pn xe) body (tb W))
    (h1 : ∀ (a : Addr) (oe : Obj) (cls : Value) (d : Option Addr) (pn : List (Addr × Obj)), L2N.Zn cls d oe → (∃ vs, oe.data = .fields vs) → PSs (X.suite a ((a, oe) :: pn)) (b1 :: su1) (t1 a cls d))
    (h2 : ∀ (a : Addr) (oe : Obj) (cls : Value) (d : Option Addr) (pn : List (Addr × Obj)), L2N.Zn cls d oe → (∃ vs, oe.data = .fields vs) → PSs (X.suite a ((a, oe) :: pn)) (b2 :: su2) (t2 a cls d)) :
    PS X (.Try body [.ExceptHandler (some (.Name x1 q1)) (some n) (b1 :: su1) p1, .ExceptHandler (some (.Name x2 q2)) (some n) (b2 :: su2) p2] [] [] pos) (fun D σ H => tb (wTwo X.K c1 c2 i t1 t2 D) D σ H) := by
  refine ⟨fun pins s σ H D I h => ?_⟩
  have good := I.ok
  have fs : X.A.frames = some (X.env :: X.outer) := by rw [good.frames, st]
  have hloc : Loc X.env.scope n := .inl hln
  refine wpAny_Try_except ?_
  let after : Value → Shared → Prop := fun e s₁ => wpAny (model X.prog X.w) X.A (noteFrame e X.env) (fun _ s₂ => wpAny (model X.prog X.w) X.A (setFlight e none)
    (fun _ s₃ => wpAny (model X.prog X.w) X.A (handleBy e X.env [.ExceptHandler (some (.Name x1 q1)) (some n) (b1 :: su1) p1, .ExceptHandler (some (.Name x2 q2)) (some n) (b2 :: su2) p2]) (SP X pins D) X.xe s₃) X.xe s₂) X.xe s₁
  have caught : L2N.Takes (X.tr (X.pn ++ pins) after) (wTwo X.K c1 c2 i t1 t2 D) := by
    rintro u s1 ⟨a, B, s0, pp, τ, G, cls, d, rfl, J0, kB, u1, sk, an, eo, bare, way⟩
    have J : Inv X pins τ G s0 := J0.ofTry good
    have sk2 : Sky B (X.env :: X.outer) a (L2N.Zn cls d) X.env.locals s1.heap := by rw [← st]; exact sk
    show wpAny _ X.A (noteFrame (.ref a) X.env) _ _ _
    refine L2N.Sky.land L2N.Zn.steady fs fr sk2 fun g f2 u2 => ?_
    obtain ⟨o2, v2, a2, z2, d2⟩ := f2.there
    have away : ∀ {g : Heap} {o : Obj} {v : Array Value}, g.FunFrames B (X.env :: X.outer) → g.get? a = some o → o.data = .fields v → a ∉ frs (X.env :: X.outer) := fun ff e dd mem => by
      obtain ⟨_, o', e', no⟩ := ff.mem mem
      rw [e] at e'
      exact no _ (by cases e'; exact dd)
    have far := away f2.2.2.1 a2 d2
    have aL : a ≠ X.env.locals := fun z => far (List.mem_filterMap.mpr ⟨X.env, .head _, by rw [fr, z]⟩)
    have aF : a ∉ X.fs := fun mem => by
      obtain ⟨e, e1, e2⟩ := List.mem_filterMap.mp mem
      exact far (List.mem_filterMap.mpr ⟨e, .tail _ e1, e2⟩)
    have J2 : Inv X pins τ G { s1 with heap := g } := J.landed kB f2.1 (u1.trans u2) eo bare
    have S2 := J2.suite a2 d2 an aL aF
    have lt : PySem.W.Looks (model X.prog X.w) g (typeOf (.ref a)) cls := fun A Q E s k q => wpAny_typeOf_ref (k _ _ a2) (by rw [z2.1]; exact q)
    rcases way with ⟨w1, go⟩ | ⟨w0, w1, go⟩
    · refine wpAny_handleBy_cons (codeAny_handlers_test ?_) (fun z => by cases z)
      refine name_at S2 n1 ((PySem.W.exm_one (M := model X.prog X.w) J2.kIn lt w1).here ?_)
      refine codeAny_handlers_suite_as (HandSPX.lands_againZ f2 fun g4 f4 u4 => ?_)
      have J4 : Inv X pins τ G { s1 with heap := g4 } := J.landed kB f4.1 ((u1.trans u2).trans u4) eo bare
      obtain ⟨o4, v4, a4, z4, d4⟩ := f4.there
      have S4 := J4.suite a4 d4 an aL aF
      refine store_ok (X := X.suite a ((a, o4) :: (X.pn ++ pins))) (v := .ref a) S4 hN hi hloc rfl (fun s5 S5 => ?_) (.inr hln)
      refine wpAny_mono ((h1 a o4 cls d (X.pn ++ pins) z4 ⟨_, d4⟩).run [] s5 _ G _ S5 (go a an)) (fun f s6 y => ?_) (fun _ _ z => False.elim z)
      have done : ∀ {τ6 : L2.St} {G6 : Hp} {Q : Shared → Prop}, Inv (X.suite a ((a, o4) :: (X.pn ++ pins))) [] τ6 G6 s6 → (∀ s7, Inv X pins (τ6.set i none) G6 s7 → Q s7) →
          wpAny (model X.prog X.w) X.A (do bindName X.env n .none; unbindBehindTheSuite X.env n p1) (fun _ s7 => Q s7) X.xe s6 := fun S6 hq => gone_ok (S6.unsuite good) hN hi hln hq
      cases f with
      | ret u6 => obtain ⟨v6, τ6, G6, S6, r6, y6⟩ := y; exact done S6 fun s7 J7 => ⟨_, _, _, J7, r6, y6⟩
      | next => obtain ⟨τ6, G6, S6, y6⟩ := y; exact done S6 fun s7 J7 => ⟨_, _, J7, y6⟩
      | brk => obtain ⟨τ6, G6, S6, y6⟩ := y; exact done S6 fun s7 J7 => ⟨_, _, J7, y6⟩
      | cont => obtain ⟨τ6, G6, S6, y6⟩ := y; exact done S6 fun s7 J7 => ⟨_, _, J7, y6⟩
    · refine wpAny_handleBy_cons (codeAny_handlers_test ?_) (fun z => by cases z)
      refine name_at S2 n1 ((PySem.W.exm_one (M := model X.prog X.w) J2.kIn lt w0).here ?_)
      show wpAny _ X.A (handleBy (.ref a) X.env [.ExceptHandler (some (.Name x2 q2)) (some n) (b2 :: su2) p2]) _ _ _
      refine wpAny_handleBy_cons (codeAny_handlers_test ?_) (fun z => by cases z)
      refine name_at S2 n2 ((PySem.W.exm_one (M := model X.prog X.w) J2.kIn lt w1).here ?_)
      refine codeAny_handlers_suite_as (HandSPX.lands_againZ f2 fun g4 f4 u4 => ?_)
      have J4 : Inv X pins τ G { s1 with heap := g4 } := J.landed kB f4.1 ((u1.trans u2).trans u4) eo bare
      obtain ⟨o4, v4, a4, z4, d4⟩ := f4.there
      have S4 := J4.suite a4 d4 an aL aF
      refine store_ok (X := X.suite a ((a, o4) :: (X.pn ++ pins))) (v := .ref a) S4 hN hi hloc rfl (fun s5 S5 => ?_) (.inr hln)
      refine wpAny_mono ((h2 a o4 cls d (X.pn ++ pins) z4 ⟨_, d4⟩).run [] s5 _ G _ S5 (go a an)) (fun f s6 y => ?_) (fun _ _ z => False.elim z)
      have done : ∀ {τ6 : L2.St} {G6 : Hp} {Q : Shared → Prop}, Inv (X.suite a ((a, o4) :: (X.pn ++ pins))) [] τ6 G6 s6 → (∀ s7, Inv X pins (τ6.set i none) G6 s7 → Q s7) →
          wpAny (model X.prog X.w) X.A (do bindName X.env n .none; unbindBehindTheSuite X.env n p2) (fun _ s7 => Q s7) X.xe s6 := fun S6 hq => gone_ok (S6.unsuite good) hN hi hln hq
      cases f with
      | ret u6 => obtain ⟨v6, τ6, G6, S6, r6, y6⟩ := y; exact done S6 fun s7 J7 => ⟨_, _, _, J7, r6, y6⟩
      | next => obtain ⟨τ6, G6, S6, y6⟩ := y; exact done S6 fun s7 J7 => ⟨_, _, J7, y6⟩
      | brk => obtain ⟨τ6, G6, S6, y6⟩ := y; exact done S6 fun s7 J7 => ⟨_, _, J7, y6⟩
      | cont => obtain ⟨τ6, G6, S6, y6⟩ := y; exact done S6 fun s7 J7 => ⟨_, _, J7, y6⟩
  refine wpAny_mono ((hb _ (X.pn ++ pins) after caught PassesOwn.looking).run [] s σ H D (I.toTry _) h) (fun f s1 y => ?_) fun e s1 y => y
  cases f with
  | ret u6 => obtain ⟨v6, τ6, G6, S6, r6, y6⟩ := y; exact ⟨v6, τ6, G6, S6.ofTry good, r6, y6⟩
  | next => obtain ⟨τ6, G6, S6, y6⟩ := y; exact wpAny_execs_nil ⟨τ6, G6, S6.ofTry good, y6⟩
  | brk => obtain ⟨τ6, G6, S6, y6⟩ := y; exact ⟨τ6, G6, S6.ofTry good, y6⟩
  | cont => obtain ⟨τ6, G6, S6, y6⟩ := y; exact ⟨τ6, G6, S6.ofTry good, y6⟩
end
end RepTryA
namespace RepTryK
open PySem PySem.Spec PyProof.Rows L2 L2H RepTry
/-! try: .. except (C, D): a suite that may raise; whatever the body raises is one of the two -/
section
variable {X : Cx} {x1 x2 : Str} {c1 c2 : Value} {body suite : List Stmt} {b₀ : Stmt} {q1 q2 tp pos pos' : Pos} {kk : Nat} {tb : WX → TS} {ts : Addr → Value → Option Addr → TS} {Wo : WX}
theorem ps_tryTK (st : X.stack = X.env :: X.outer) (fr : X.env.frame = some X.env.locals) (n1 : Names X x1 c1) (n2 : Names X x2 c2) (pa : ∀ e : Option Value, PassesOwnAt (model X.prog X.w) (X.A.mark e) X.A X.env X.xe) (tk : L2K.Takes X Wo)
    (hb : ∀ (W : WX) (pn : List (Addr × Obj)) (xe : Value → Shared → Prop), L2N.Takes (X.tr pn xe) W → PassesOwn (model X.prog X.w) X.A X.env xe → PSs (X.tr pn xe) body (tb W))
    (hu : ∀ (a : Addr) (oe : Obj) (cls : Value) (d : Option Addr) (pn : List (Addr × Obj)), L2K.Takes (suiteX X a ((a, oe) :: pn)) Wo → HotC (suiteX X a ((a, oe) :: pn)) → PSs (suiteX X a ((a, oe) :: pn)) (b₀ :: suite) (ts a cls d)) :
    PS X (.Try body [.ExceptHandler (some (.Tuple [.Name x1 q1, .Name x2 q2] kk tp)) none (b₀ :: suite) pos'] [] [] pos) (fun D σ H => tb (wTup X.K c1 c2 ts D) D σ H) := by
  refine ⟨fun pins s σ H D I h => ?_⟩
  have good := I.ok
  have fs : X.A.frames = some (X.env :: X.outer) := by rw [good.frames, st]
  refine wpAny_Try_except ?_
  let after : Value → Shared → Prop := fun e s₁ => wpAny (model X.prog X.w) X.A (noteFrame e X.env) (fun _ s₂ => wpAny (model X.prog X.w) X.A (setFlight e none)
    (fun _ s₃ => wpAny (model X.prog X.w) X.A (handleBy e X.env [.ExceptHandler (some (.Tuple [.Name x1 q1, .Name x2 q2] kk tp)) none (b₀ :: suite) pos']) (SP X pins D) X.xe s₃) X.xe s₂) X.xe s₁
  have caught : L2N.Takes (X.tr (X.pn ++ pins) after) (wTup X.K c1 c2 ts D) := by
    rintro u s1 ⟨a, B, s0, p1, τ, G, cls, d, rfl, J0, kB, u1, sk, an, eo, bare, xm, go⟩
    have J : Inv X pins τ G s0 := J0.ofTry good
    have sk2 : Sky B (X.env :: X.outer) a (L2N.Zn cls d) X.env.locals s1.heap := by rw [← st]; exact sk
    show wpAny _ X.A (noteFrame (.ref a) X.env) _ _ _
    refine L2N.Sky.land L2N.Zn.steady fs fr sk2 fun g f2 u2 => ?_
    obtain ⟨o2, v2, a2, z2, d2⟩ := f2.there
    have away : ∀ {g : Heap} {o : Obj} {v : Array Value}, g.FunFrames B (X.env :: X.outer) → g.get? a = some o → o.data = .fields v → a ∉ frs (X.env :: X.outer) := fun ff e dd mem => by
      obtain ⟨_, o', e', no⟩ := ff.mem mem
      rw [e] at e'
      exact no _ (by cases e'; exact dd)
    have far := away f2.2.2.1 a2 d2
    have aL : a ≠ X.env.locals := fun z => far (List.mem_filterMap.mpr ⟨X.env, .head _, by rw [fr, z]⟩)
    have aF : a ∉ X.fs := fun mem => by
      obtain ⟨e, e1, e2⟩ := List.mem_filterMap.mp mem
      exact far (List.mem_filterMap.mpr ⟨e, .tail _ e1, e2⟩)
    have J2 : Inv X pins τ G { s1 with heap := g } := J.landed kB f2.1 (u1.trans u2) eo bare
    have S2 := J2.suite a2 d2 an aL aF
    refine wpAny_handleBy_cons (codeAny_handlers_test ?_) (fun z => by cases z)
    refine wpAny_Tuple (wpAny_items_cons (name_on S2 n1 (wpAny_items_cons (name_on S2 n2 (wpAny_items_nil ⟨by size_fits, ?_⟩)))))
    have kp : ∀ b o, g.get? b = some o → (g.push { cls := .type "tuple", data := .seq [c1, c2].toArray }).get? b = some o := fun _ _ z => Heap.get?_push_of_some _ z
    have lt : PySem.W.Looks (model X.prog X.w) g (typeOf (.ref a)) cls := fun A Q E s k q => wpAny_typeOf_ref (k _ _ a2) (by rw [z2.1]; exact q)
    refine (PySem.W.exm_tup2 (M := model X.prog X.w) (J2.kIn.keeps kp) (lt.keeps kp) (Heap.get?_push_size g rfl) xm).here ?_
    refine codeAny_handlers_suite (HandSPX.lands_againZ (fly_on f2 kp) fun g4 f4 u4 => ?_)
    have J4 : Inv X pins τ G { s1 with heap := g4 } := J.landed kB f4.1 (((u1.trans u2).trans (Heap.UpToSlots.of_keeps kp)).trans u4) eo bare
    obtain ⟨o4, v4, a4, z4, d4⟩ := f4.there
    have S4 := J4.suite a4 d4 an aL aF
    have tkS : L2K.Takes (suiteX X a ((a, o4) :: (X.pn ++ pins))) Wo := fun u5 s5 y => by
      obtain ⟨y1, y2, y3, y4, y5, y6, y7, y8, yo, y9, ya, yb⟩ := y
      exact tk u5 s5 ⟨y1, y2, y3, pins, y5, y6, y7, y8, yo, y9, unsuiteX ya good, yb⟩
    refine wpAny_mono ((hu a o4 cls d (X.pn ++ pins) tkS ⟨(a, o4), ⟨rfl, v4, d4, z4.2.2 v4 d4⟩, .head _⟩).run [] _ τ G _ (suiteX_of S4) (go a an)) (fun f s6 y => ?_) fun e s6 y => pa (some (.ref a)) e s6 y
    cases f with
    | ret u6 => obtain ⟨v6, τ6, G6, S6, r6, y6⟩ := y; exact ⟨v6, τ6, G6, unsuiteX S6 good, r6, y6⟩
    | next => obtain ⟨τ6, G6, S6, y6⟩ := y; exact ⟨τ6, G6, unsuiteX S6 good, y6⟩
    | brk => obtain ⟨τ6, G6, S6, y6⟩ := y; exact ⟨τ6, G6, unsuiteX S6 good, y6⟩
    | cont => obtain ⟨τ6, G6, S6, y6⟩ := y; exact ⟨τ6, G6, unsuiteX S6 good, y6⟩
  refine wpAny_mono ((hb _ (X.pn ++ pins) after caught PassesOwn.looking).run [] s σ H D (I.toTry _) h) (fun f s1 y => ?_) fun e s1 y => y
  cases f with
  | ret u6 => obtain ⟨v6, τ6, G6, S6, r6, y6⟩ := y; exact ⟨v6, τ6, G6, S6.ofTry good, r6, y6⟩
  | next => obtain ⟨τ6, G6, S6, y6⟩ := y; exact wpAny_execs_nil ⟨τ6, G6, S6.ofTry good, y6⟩
  | brk => obtain ⟨τ6, G6, S6, y6⟩ := y; exact ⟨τ6, G6, S6.ofTry good, y6⟩
  | cont => obtain ⟨τ6, G6, S6, y6⟩ := y; exact ⟨τ6, G6, S6.ofTry good, y6⟩
end
end RepTryK
namespace RepTryK
open PySem PySem.Spec PyProof.Rows L2 L2H HotX
/-- raise C(..) from None in a suite whose exception has no context: the new one's context is that exception -/
theorem ps_raiseHK {X : Cx} {W : WX} {e : Expr} {t : L2.St → Hp → XK → Prop} {j : Nat} {cpos pos : Pos} (hc : HotC X) (tk : L2K.Takes X W) (he : PMk5 X e t) :
    PS X (.Raise (some e) (some (.Constant .none j cpos)) pos) (fun _ σ H => t σ H fun cls d H' => W cls d σ H') := by
  refine ⟨fun pins s σ H D I h => ?_⟩
  obtain ⟨p, ⟨hh, v1, e1, c1⟩, hp⟩ := hc
  show wpAny _ _ (do standAt pos; raiseStmt X.env (some (do let v ← eval e X.env; standAt pos; pure v)) (some (do let v ← eval (.Constant .none j cpos) X.env; standAt pos; pure v))) _ _ _
  refine wpAny_bind (wpAny_standAt (raise_made_hotN (x1 := p.1) (fun s2 Q2 q2 => wpAny_bind (Constant_none (wpAny_bind (wpAny_standAt (wpAny_pure q2))))) (wpAny_bind (wpAny_mono (he pins s σ H _ I h) (fun u s1 hu => wpAny_bind (wpAny_standAt (wpAny_pure ?_))) fun _ _ x => x))))
  obtain ⟨⟨a, oe, vs, sI, H', cls, d, rfl, J, k, new, ha, hz, hd, h1, na, os, ag, r, q⟩, six⟩ := hu
  have big : 4 < vs.size := six a oe vs rfl ha hd
  have apart : ∀ b u, sI.heap.get? b = some u → a ≠ b := fun b u z y => by rw [← y, new] at z; cases z
  have kN : ∀ b u, sI.heap.get? b = some u → (noneFrom s1.heap a).get? b = some u := fun b u z => (noneFrom_other (apart b u z)).trans (k b u z)
  have P := J.pin p (List.mem_append_left _ hp)
  have pst : p.1 ∉ frs X.stack := fun m => (List.mem_cons.mp (J.stkSub p.1 m)).elim P.2.2.1 P.2.2.2.1
  obtain ⟨haN, hdN⟩ := noneFrom_at ha hd
  have hdE := Obj.data_mapFields hdN (·.setIfInBounds 2 (Value.ref p.1))
  refine ⟨a, oe, vs, cls, rfl, ha, hz.1, hd, h1, big, (apart p.1 p.2 P.1).symm, ⟨hh, p.2, v1, k _ _ P.1, e1, c1⟩, (r (model X.prog X.w) s1.heap (J.kIn.keeps k)).1, (r (model X.prog X.w) (noneFrom s1.heap a) (J.kIn.keeps kN)).2,
    tk _ _ (L2K.XE.new (yo := some p.1) J (fun b u z => ?_) new (Heap.get?_update_self _ haN (Obj.isFreed_of_fields hdE)) ⟨⟨?_, ?_⟩, fun ws e => ?_⟩ hdE ?_ na os ag (fun y e => ?_) q)⟩
  · show ((noneFrom s1.heap a).update a (Obj.mapFields (·.setIfInBounds 2 (.ref p.1)))).get? b = some u
    rw [Heap.get?_update_other _ _ (apart b u z)]
    exact kN b u z
  · rw [Obj.cls_mapFields, Obj.cls_mapFields, Obj.cls_mapFields]; exact hz.1
  · rw [HandSPX.dict_mapFields, HandSPX.dict_mapFields, HandSPX.dict_mapFields]; exact hz.2.1
  · rw [hdE] at e
    cases e
    show ((((vs.setIfInBounds 3 Value.none).setIfInBounds 4 (Value.bool true)).setIfInBounds 2 (Value.ref p.1)))[2]? = some (.ref p.1)
    rw [Array.getElem?_setIfInBounds_self_of_lt (by simp; omega)]
  · exact set_other (by decide) (set_other (by decide) (set_other (by decide) h1))
  · cases e
    exact ⟨pst, P.2.1, p.2, v1, P.1, e1, c1⟩
end RepTryK
namespace RepTryK
open PySem PySem.Spec PyProof.Rows L2 RepTryA RepHot2
def wOne (K : PySem.W.Frag) (c1 : Value) (i : Nat) (t1 : Addr → Value → Option Addr → TS) (D : Ends) : WX := fun cls d σ H =>
  PySem.W.exmOne K cls c1 = some true ∧ ∀ a, H a = none → t1 a cls d (gone i D) (σ.set i (some (.ref a))) H
section
variable {X : Cx} {x1 x2 n : Str} {c1 c2 : Value} {i : Nat} {body su1 su2 : List Stmt} {b1 b2 : Stmt} {q1 q2 pos p1 p2 : Pos} {tb : WX → TS} {t1 t2 : Addr → Value → Option Addr → TS}
theorem suite_two {pins : List (Addr × Obj)} {σ : L2.St} {H : Hp} {s : Shared} {a : Addr} {oe : Obj} {vs : Array Value} {B : Heap} {cls : Value} {d yo : Option Addr} (I : Inv X pins σ H s) (f : HandSPX.FlyingZ B (X.env :: X.outer) a (L2K.Zk cls d yo) s.heap) (hz : L2K.Zk cls d yo oe) (ha : s.heap.get? a = some oe) (hd : oe.data = .fields vs) (na : H a = none) (nL : a ≠ X.env.locals) (nF : a ∉ X.fs) (y : L2K.Yok B H yo) (fr : X.env.frame = some X.env.locals) :
    ∃ yl : List (Addr × Obj), Hot2 (X.A.mark (some (.ref a))) ((a, oe) :: yl) ∧ Inv (X.suite a ((a, oe) :: (yl ++ (X.pn ++ pins)))) [] σ H s := by
  have S := I.suite ha hd na nL nF
  have c2 := hz.2 vs hd
  cases yo with
  | none => exact ⟨[], ⟨(a, oe), .head _, vs, rfl, hd, .inl c2⟩, S⟩
  | some b =>
    obtain ⟨hb, ob, ws, gb, db, cb⟩ := y b rfl
    have away : b ∉ frs (X.env :: X.outer) := fun m => by
      obtain ⟨z, _⟩ := f.2.2.1.mem m
      rw [gb] at z; cases z
    have bL : b ≠ X.env.locals := fun z => away (List.mem_filterMap.mpr ⟨X.env, .head _, by rw [fr, z]⟩)
    have bF : b ∉ X.fs := fun m => by
      obtain ⟨e, e1, e2⟩ := List.mem_filterMap.mp m
      exact away (List.mem_filterMap.mpr ⟨e, .tail _ e1, e2⟩)
    have ba : b ≠ a := fun z => by rw [z, f.2.1] at gb; cases gb
    refine ⟨[(b, ob)], ⟨(a, oe), .head _, vs, rfl, hd, .inr ⟨(b, ob), .tail _ (.head _), ba, c2, ws, db, cb⟩⟩, pins_to (X := X.suite a []) S fun q hq => ?_⟩
    rcases List.mem_cons.mp hq with z | hq
    · exact S.pin q (by rw [z]; exact .head _)
    · rcases List.mem_cons.mp (show q ∈ (b, ob) :: (X.pn ++ pins) from hq) with z | hq
      · subst z
        exact ⟨f.1 b ob gb, hb, bL, bF, fun v z => by rw [db] at z; cases z⟩
      · exact S.pin q (List.mem_append_left _ (.tail _ hq))
theorem unsuite_two {pins yl : List (Addr × Obj)} {σ : L2.St} {H : Hp} {s : Shared} {a : Addr} {oe : Obj} (I : Inv (X.suite a ((a, oe) :: (yl ++ (X.pn ++ pins)))) [] σ H s) (ok : X.Ok) : Inv X pins σ H s :=
  Inv.unsuite (X := X) (a := a) (q := (a, oe)) (pn' := []) (pins_to (X := X.suite a []) I fun q hq => I.pin q (List.mem_append_left _ (by
    rcases List.mem_cons.mp hq with z | z
    · rw [z]; exact .head _
    · exact .tail _ (List.mem_append_right _ z)))) ok
theorem ps_try1K (st : X.stack = X.env :: X.outer) (fr : X.env.frame = some X.env.locals) (hN : X.N.Nodup) (hi : X.N[i]? = some n) (hln : X.env.kindOf n = some .local) (n1 : Names X x1 c1)
    (hb : ∀ (W : WX) (pn : List (Addr × Obj)) (xe : Value → Shared → Prop), L2K.Takes (X.tr pn xe) W → PassesOwn (model X.prog X.w) X.A X.env xe → PSs (X.tr pn xe) body (tb W))
    (h1 : ∀ (a : Addr) (oe : Obj) (cls : Value) (d : Option Addr) (L pn : List (Addr × Obj)), Zc cls d oe → (∃ vs, oe.data = .fields vs) → Hot2 (X.A.mark (some (.ref a))) L → (∀ r ∈ L, r ∈ (a, oe) :: pn) → (a, oe) ∈ L → PSs (X.suite a ((a, oe) :: pn)) (b1 :: su1) (t1 a cls d)) :
    PS X (.Try body [.ExceptHandler (some (.Name x1 q1)) (some n) (b1 :: su1) p1] [] [] pos) (fun D σ H => tb (wOne X.K c1 i t1 D) D σ H) := by
  refine ⟨fun pins s σ H D I h => ?_⟩
  have good := I.ok
  have fs : X.A.frames = some (X.env :: X.outer) := by rw [good.frames, st]
  have hloc : Loc X.env.scope n := .inl hln
  refine wpAny_Try_except ?_
  let after : Value → Shared → Prop := fun e s₁ => wpAny (model X.prog X.w) X.A (noteFrame e X.env) (fun _ s₂ => wpAny (model X.prog X.w) X.A (setFlight e none)
    (fun _ s₃ => wpAny (model X.prog X.w) X.A (handleBy e X.env [.ExceptHandler (some (.Name x1 q1)) (some n) (b1 :: su1) p1]) (SP X pins D) X.xe s₃) X.xe s₂) X.xe s₁
  have caught : L2K.Takes (X.tr (X.pn ++ pins) after) (wOne X.K c1 i t1 D) := by
    rintro u s1 ⟨a, B, s0, pp, τ, G, cls, d, yo, rfl, J0, kB, u1, sk, an, eo, bare, yk, way⟩
    have J : Inv X pins τ G s0 := J0.ofTry good
    have sk2 : Sky B (X.env :: X.outer) a (L2K.Zk cls d yo) X.env.locals s1.heap := by rw [← st]; exact sk
    show wpAny _ X.A (noteFrame (.ref a) X.env) _ _ _
    refine L2N.Sky.land L2K.Zk.steady fs fr sk2 fun g f2 u2 => ?_
    obtain ⟨o2, v2, a2, z2, d2⟩ := f2.there
    have away : ∀ {g : Heap} {o : Obj} {v : Array Value}, g.FunFrames B (X.env :: X.outer) → g.get? a = some o → o.data = .fields v → a ∉ frs (X.env :: X.outer) := fun ff e dd mem => by
      obtain ⟨_, o', e', no⟩ := ff.mem mem
      rw [e] at e'
      exact no _ (by cases e'; exact dd)
    have far := away f2.2.2.1 a2 d2
    have aL : a ≠ X.env.locals := fun z => far (List.mem_filterMap.mpr ⟨X.env, .head _, by rw [fr, z]⟩)
    have aF : a ∉ X.fs := fun mem => by
      obtain ⟨e, e1, e2⟩ := List.mem_filterMap.mp mem
      exact far (List.mem_filterMap.mpr ⟨e, .tail _ e1, e2⟩)
    have J2 : Inv X pins τ G { s1 with heap := g } := J.landed kB f2.1 (u1.trans u2) eo bare
    have S2 := J2.suite a2 d2 an aL aF
    have lt : PySem.W.Looks (model X.prog X.w) g (typeOf (.ref a)) cls := fun A Q E s k q => wpAny_typeOf_ref (k _ _ a2) (by rw [z2.1.1]; exact q)
    obtain ⟨w1, go⟩ := way
    · refine wpAny_handleBy_cons (codeAny_handlers_test ?_) (fun z => by cases z)
      refine name_at S2 n1 ((PySem.W.exm_one (M := model X.prog X.w) J2.kIn lt w1).here ?_)
      refine codeAny_handlers_suite_as (HandSPX.lands_againZ f2 fun g4 f4 u4 => ?_)
      have J4 : Inv X pins τ G { s1 with heap := g4 } := J.landed kB f4.1 ((u1.trans u2).trans u4) eo bare
      obtain ⟨o4, v4, a4, z4, d4⟩ := f4.there
      obtain ⟨yl, hot, S4⟩ := suite_two J4 f4 z4 a4 d4 an aL aF yk fr
      refine store_ok (X := X.suite a ((a, o4) :: (yl ++ (X.pn ++ pins)))) (v := .ref a) S4 hN hi hloc rfl (fun s5 S5 => ?_) (.inr hln)
      refine wpAny_mono ((h1 a o4 cls d ((a, o4) :: yl) (yl ++ (X.pn ++ pins)) z4.1 ⟨_, d4⟩ hot (fun r m => by rw [← List.cons_append]; exact List.mem_append_left _ m) (.head _)).run [] s5 _ G _ S5 (go a an)) (fun f s6 y => ?_) (fun _ _ z => False.elim z)
      have done : ∀ {τ6 : L2.St} {G6 : Hp} {Q : Shared → Prop}, Inv (X.suite a ((a, o4) :: (yl ++ (X.pn ++ pins)))) [] τ6 G6 s6 → (∀ s7, Inv X pins (τ6.set i none) G6 s7 → Q s7) →
          wpAny (model X.prog X.w) X.A (do bindName X.env n .none; unbindBehindTheSuite X.env n p1) (fun _ s7 => Q s7) X.xe s6 := fun S6 hq => gone_ok (unsuite_two S6 good) hN hi hln hq
      cases f with
      | ret u6 => obtain ⟨v6, τ6, G6, S6, r6, y6⟩ := y; exact done S6 fun s7 J7 => ⟨_, _, _, J7, r6, y6⟩
      | next => obtain ⟨τ6, G6, S6, y6⟩ := y; exact done S6 fun s7 J7 => ⟨_, _, J7, y6⟩
      | brk => obtain ⟨τ6, G6, S6, y6⟩ := y; exact done S6 fun s7 J7 => ⟨_, _, J7, y6⟩
      | cont => obtain ⟨τ6, G6, S6, y6⟩ := y; exact done S6 fun s7 J7 => ⟨_, _, J7, y6⟩
  refine wpAny_mono ((hb _ (X.pn ++ pins) after caught PassesOwn.looking).run [] s σ H D (I.toTry _) h) (fun f s1 y => ?_) fun e s1 y => y
  cases f with
  | ret u6 => obtain ⟨v6, τ6, G6, S6, r6, y6⟩ := y; exact ⟨v6, τ6, G6, S6.ofTry good, r6, y6⟩
  | next => obtain ⟨τ6, G6, S6, y6⟩ := y; exact wpAny_execs_nil ⟨τ6, G6, S6.ofTry good, y6⟩
  | brk => obtain ⟨τ6, G6, S6, y6⟩ := y; exact ⟨τ6, G6, S6.ofTry good, y6⟩
  | cont => obtain ⟨τ6, G6, S6, y6⟩ := y; exact ⟨τ6, G6, S6.ofTry good, y6⟩
theorem ps_try2K (st : X.stack = X.env :: X.outer) (fr : X.env.frame = some X.env.locals) (hN : X.N.Nodup) (hi : X.N[i]? = some n) (hln : X.env.kindOf n = some .local) (n1 : Names X x1 c1) (n2 : Names X x2 c2)
    (hb : ∀ (W : WX) (pn : List (Addr × Obj)) (xe : Value → Shared → Prop), L2K.Takes (X.tr pn xe) W → PassesOwn (model X.prog X.w) X.A X.env xe → PSs (X.tr pn xe) body (tb W))
    (h1 : ∀ (a : Addr) (oe : Obj) (cls : Value) (d : Option Addr) (L pn : List (Addr × Obj)), Zc cls d oe → (∃ vs, oe.data = .fields vs) → Hot2 (X.A.mark (some (.ref a))) L → (∀ r ∈ L, r ∈ (a, oe) :: pn) → (a, oe) ∈ L → PSs (X.suite a ((a, oe) :: pn)) (b1 :: su1) (t1 a cls d))
    (h2 : ∀ (a : Addr) (oe : Obj) (cls : Value) (d : Option Addr) (L pn : List (Addr × Obj)), Zc cls d oe → (∃ vs, oe.data = .fields vs) → Hot2 (X.A.mark (some (.ref a))) L → (∀ r ∈ L, r ∈ (a, oe) :: pn) → (a, oe) ∈ L → PSs (X.suite a ((a, oe) :: pn)) (b2 :: su2) (t2 a cls d)) :
    PS X (.Try body [.ExceptHandler (some (.Name x1 q1)) (some n) (b1 :: su1) p1, .ExceptHandler (some (.Name x2 q2)) (some n) (b2 :: su2) p2] [] [] pos) (fun D σ H => tb (wTwo X.K c1 c2 i t1 t2 D) D σ H) := by
  refine ⟨fun pins s σ H D I h => ?_⟩
  have good := I.ok
  have fs : X.A.frames = some (X.env :: X.outer) := by rw [good.frames, st]
  have hloc : Loc X.env.scope n := .inl hln
  refine wpAny_Try_except ?_
  let after : Value → Shared → Prop := fun e s₁ => wpAny (model X.prog X.w) X.A (noteFrame e X.env) (fun _ s₂ => wpAny (model X.prog X.w) X.A (setFlight e none)
    (fun _ s₃ => wpAny (model X.prog X.w) X.A (handleBy e X.env [.ExceptHandler (some (.Name x1 q1)) (some n) (b1 :: su1) p1, .ExceptHandler (some (.Name x2 q2)) (some n) (b2 :: su2) p2]) (SP X pins D) X.xe s₃) X.xe s₂) X.xe s₁
  have caught : L2K.Takes (X.tr (X.pn ++ pins) after) (wTwo X.K c1 c2 i t1 t2 D) := by
    rintro u s1 ⟨a, B, s0, pp, τ, G, cls, d, yo, rfl, J0, kB, u1, sk, an, eo, bare, yk, way⟩
    have J : Inv X pins τ G s0 := J0.ofTry good
    have sk2 : Sky B (X.env :: X.outer) a (L2K.Zk cls d yo) X.env.locals s1.heap := by rw [← st]; exact sk
    show wpAny _ X.A (noteFrame (.ref a) X.env) _ _ _
    refine L2N.Sky.land L2K.Zk.steady fs fr sk2 fun g f2 u2 => ?_
    obtain ⟨o2, v2, a2, z2, d2⟩ := f2.there
    have away : ∀ {g : Heap} {o : Obj} {v : Array Value}, g.FunFrames B (X.env :: X.outer) → g.get? a = some o → o.data = .fields v → a ∉ frs (X.env :: X.outer) := fun ff e dd mem => by
      obtain ⟨_, o', e', no⟩ := ff.mem mem
      rw [e] at e'
      exact no _ (by cases e'; exact dd)
    have far := away f2.2.2.1 a2 d2
    have aL : a ≠ X.env.locals := fun z => far (List.mem_filterMap.mpr ⟨X.env, .head _, by rw [fr, z]⟩)
    have aF : a ∉ X.fs := fun mem => by
      obtain ⟨e, e1, e2⟩ := List.mem_filterMap.mp mem
      exact far (List.mem_filterMap.mpr ⟨e, .tail _ e1, e2⟩)
    have J2 : Inv X pins τ G { s1 with heap := g } := J.landed kB f2.1 (u1.trans u2) eo bare
    have S2 := J2.suite a2 d2 an aL aF
    have lt : PySem.W.Looks (model X.prog X.w) g (typeOf (.ref a)) cls := fun A Q E s k q => wpAny_typeOf_ref (k _ _ a2) (by rw [z2.1.1]; exact q)
    rcases way with ⟨w1, go⟩ | ⟨w0, w1, go⟩
    · refine wpAny_handleBy_cons (codeAny_handlers_test ?_) (fun z => by cases z)
      refine name_at S2 n1 ((PySem.W.exm_one (M := model X.prog X.w) J2.kIn lt w1).here ?_)
      refine codeAny_handlers_suite_as (HandSPX.lands_againZ f2 fun g4 f4 u4 => ?_)
      have J4 : Inv X pins τ G { s1 with heap := g4 } := J.landed kB f4.1 ((u1.trans u2).trans u4) eo bare
      obtain ⟨o4, v4, a4, z4, d4⟩ := f4.there
      obtain ⟨yl, hot, S4⟩ := suite_two J4 f4 z4 a4 d4 an aL aF yk fr
      refine store_ok (X := X.suite a ((a, o4) :: (yl ++ (X.pn ++ pins)))) (v := .ref a) S4 hN hi hloc rfl (fun s5 S5 => ?_) (.inr hln)
      refine wpAny_mono ((h1 a o4 cls d ((a, o4) :: yl) (yl ++ (X.pn ++ pins)) z4.1 ⟨_, d4⟩ hot (fun r m => by rw [← List.cons_append]; exact List.mem_append_left _ m) (.head _)).run [] s5 _ G _ S5 (go a an)) (fun f s6 y => ?_) (fun _ _ z => False.elim z)
      have done : ∀ {τ6 : L2.St} {G6 : Hp} {Q : Shared → Prop}, Inv (X.suite a ((a, o4) :: (yl ++ (X.pn ++ pins)))) [] τ6 G6 s6 → (∀ s7, Inv X pins (τ6.set i none) G6 s7 → Q s7) →
          wpAny (model X.prog X.w) X.A (do bindName X.env n .none; unbindBehindTheSuite X.env n p1) (fun _ s7 => Q s7) X.xe s6 := fun S6 hq => gone_ok (unsuite_two S6 good) hN hi hln hq
      cases f with
      | ret u6 => obtain ⟨v6, τ6, G6, S6, r6, y6⟩ := y; exact done S6 fun s7 J7 => ⟨_, _, _, J7, r6, y6⟩
      | next => obtain ⟨τ6, G6, S6, y6⟩ := y; exact done S6 fun s7 J7 => ⟨_, _, J7, y6⟩
      | brk => obtain ⟨τ6, G6, S6, y6⟩ := y; exact done S6 fun s7 J7 => ⟨_, _, J7, y6⟩
      | cont => obtain ⟨τ6, G6, S6, y6⟩ := y; exact done S6 fun s7 J7 => ⟨_, _, J7, y6⟩
    · refine wpAny_handleBy_cons (codeAny_handlers_test ?_) (fun z => by cases z)
      refine name_at S2 n1 ((PySem.W.exm_one (M := model X.prog X.w) J2.kIn lt w0).here ?_)
      show wpAny _ X.A (handleBy (.ref a) X.env [.ExceptHandler (some (.Name x2 q2)) (some n) (b2 :: su2) p2]) _ _ _
      refine wpAny_handleBy_cons (codeAny_handlers_test ?_) (fun z => by cases z)
      refine name_at S2 n2 ((PySem.W.exm_one (M := model X.prog X.w) J2.kIn lt w1).here ?_)
      refine codeAny_handlers_suite_as (HandSPX.lands_againZ f2 fun g4 f4 u4 => ?_)
      have J4 : Inv X pins τ G { s1 with heap := g4 } := J.landed kB f4.1 ((u1.trans u2).trans u4) eo bare
      obtain ⟨o4, v4, a4, z4, d4⟩ := f4.there
      obtain ⟨yl, hot, S4⟩ := suite_two J4 f4 z4 a4 d4 an aL aF yk fr
      refine store_ok (X := X.suite a ((a, o4) :: (yl ++ (X.pn ++ pins)))) (v := .ref a) S4 hN hi hloc rfl (fun s5 S5 => ?_) (.inr hln)
      refine wpAny_mono ((h2 a o4 cls d ((a, o4) :: yl) (yl ++ (X.pn ++ pins)) z4.1 ⟨_, d4⟩ hot (fun r m => by rw [← List.cons_append]; exact List.mem_append_left _ m) (.head _)).run [] s5 _ G _ S5 (go a an)) (fun f s6 y => ?_) (fun _ _ z => False.elim z)
      have done : ∀ {τ6 : L2.St} {G6 : Hp} {Q : Shared → Prop}, Inv (X.suite a ((a, o4) :: (yl ++ (X.pn ++ pins)))) [] τ6 G6 s6 → (∀ s7, Inv X pins (τ6.set i none) G6 s7 → Q s7) →
          wpAny (model X.prog X.w) X.A (do bindName X.env n .none; unbindBehindTheSuite X.env n p2) (fun _ s7 => Q s7) X.xe s6 := fun S6 hq => gone_ok (unsuite_two S6 good) hN hi hln hq
      cases f with
      | ret u6 => obtain ⟨v6, τ6, G6, S6, r6, y6⟩ := y; exact done S6 fun s7 J7 => ⟨_, _, _, J7, r6, y6⟩
      | next => obtain ⟨τ6, G6, S6, y6⟩ := y; exact done S6 fun s7 J7 => ⟨_, _, J7, y6⟩
      | brk => obtain ⟨τ6, G6, S6, y6⟩ := y; exact done S6 fun s7 J7 => ⟨_, _, J7, y6⟩
      | cont => obtain ⟨τ6, G6, S6, y6⟩ := y; exact done S6 fun s7 J7 => ⟨_, _, J7, y6⟩
  refine wpAny_mono ((hb _ (X.pn ++ pins) after caught PassesOwn.looking).run [] s σ H D (I.toTry _) h) (fun f s1 y => ?_) fun e s1 y => y
  cases f with
  | ret u6 => obtain ⟨v6, τ6, G6, S6, r6, y6⟩ := y; exact ⟨v6, τ6, G6, S6.ofTry good, r6, y6⟩
  | next => obtain ⟨τ6, G6, S6, y6⟩ := y; exact wpAny_execs_nil ⟨τ6, G6, S6.ofTry good, y6⟩
  | brk => obtain ⟨τ6, G6, S6, y6⟩ := y; exact ⟨τ6, G6, S6.ofTry good, y6⟩
  | cont => obtain ⟨τ6, G6, S6, y6⟩ := y; exact ⟨τ6, G6, S6.ofTry good, y6⟩
end
end RepTryK
namespace SupX
open PySem PySem.Calls PySem.Spec PyProof.Rows L2 L2H NdefX PySem.W
/-! super().__init__(..) in an own exception's __init__ -/
structure SupC (prog : Program) (K : PySem.W.Frag) (mg : Str → Option Value) (f cc cda C : Addr) (fd : FuncData) (slf : Str) : Prop where
  lk : ∃ oc od osl, K.lookup f = some ⟨oc, od, .func fd, osl⟩
  hp : ∃ ar : Arg, (fd.params.posonlyargs ++ fd.params.args).head? = some ar ∧ ar.arg = slf
  code : ∃ ccl cdd vs ccs file tf, K.lookup cda = some ⟨ccl, cdd, .fields vs, ccs⟩ ∧ vs[2]? = some (.str file tf) ∧ ((prog.main.file : Str) == file) = true
  cell : ∃ cl cld csl, K.lookup cc = some ⟨cl, cld, .cell (some (.ref C)), csl⟩
  sub : mroIn K C (.ref C) = some true
  sup : ks_superIn K C C "__init__" = some (some (.builtin "ValueError.__init__"))
  opq : nsIn K cStatics "thirdparty.any" = some none
  isB : subIn K (.ref C) (.type "ValueError") = some true
  msup : mg "super" = none
  top : (prog.main.scope.names.lookup ("super" : Str)).isSome = false
theorem cw1 {M : Model} {A : Around} {E : Value → Shared → Prop} {s : Shared} {i : String} {x u : Addr} {pos : Pos} {env : Env} {e : Expr} {rest : List Expr} {Q : Value → Shared → Prop}
    (h : wpAny M A (spliced (backTo pos (starEach (e :: rest) env))) (fun vs s₁ => KxsAt i u x s₁.heap ∧ wpAny M A (call (.ref u) vs) Q E s₁) E s)
    (he : starEach (e :: rest) env = (false, eval e env) :: starEach rest env := by rfl) (hplain : (backTo pos (starEach rest env)).any (·.1) = false := by rfl) :
    wpAny M A (callWith pos (.ref u) [] (backTo pos (starEach (e :: rest) env)) []) Q E s := by
  rw [he] at h ⊢
  refine kxs_callWith (i := i) (x := x) (by show (false || (backTo pos (starEach rest env)).any (·.1)) = false; rw [hplain]; rfl) ?_
  exact evalArgs_plain h
theorem call_mw {X : Cx} {A : Around} {E : Value → Shared → Prop} {pins : List (Addr × Obj)} {σ : L2.St} {H : Hp} {s : Shared} {a C u : Addr} {us : List Value} {Q : Value → Shared → Prop} (T : OexC X.K C) (I : Inv X pins σ H s) (ea : H a = some (exo a C none)) (hu : s.heap.get? u = some (kxs_mw "ValueError.__init__" a)) (hl : us.length ≤ sizeLine)
    (h : ∀ s', Inv X pins σ H s' → Q .none s') : wpAny (model X.prog X.w) A (call (.ref u) us) Q E s := by
  obtain ⟨nm, q, N, bs, bm, sn, sub, ab, col, dd, k0, k1, k2, k3, k5, hC, hbm⟩ := T.cls
  obtain ⟨t1, ho⟩ := exo_at I.hok ea
  have hC' := I.kIn _ _ hC
  obtain ⟨hh, g, d, tk, os⟩ := s
  refine wpAny_call (codeAny_of_tree ?_)
  show wpAny _ A.in1 (callAny (.ref u) ⟨us, []⟩) _ _ _
  simp only [callAny]
  refine wpAny_bind (wpAny_load hu ?_)
  simp only [kxs_mw, show (Value.type "method-wrapper" == Value.type "method" || Value.type "method-wrapper" == Value.type "builtin_function_or_method" || Value.type "method-wrapper" == Value.type "method-wrapper") = true by decide, if_true]
  refine KFB.if_so (by decide) ?_
  refine wpAny_bind (check_bound_init F.excBase_ValueError.toExcCallFacts hC' ho rfl ?_)
  refine wpAny_bind (wpAny_pure (wpAny_pure ?_))
  refine ⟨plainId_quiet F.excBase_ValueError.init.plain _, codeAny_builtin F.excBase_ValueError.initEntry ?_⟩
  refine exc_init_tree (cls := .ref C) (t0 := t1) (dv := none) (c2 := .none) (c3 := .none) (b4 := .bool false) ho hl fun h' k hx _ => ?_
  have J := I.write (t' := tk) (x := a) (e := a) (o := exo a C none) (by rw [ea]; exact True.intro) (.inl rfl) k ⟨_, hx⟩ (exo_ok hx)
  have eu : upd H a (exo a C none) = H := by
    funext b
    by_cases hb : b = a
    · rw [hb, upd_same, ea]
    · rw [upd_ne hb]
  rw [eu] at J
  exact h _ J
/-- super().__init__(e) at the head of C's __init__, its own code running -/
theorem sup_init {X : Cx} {body : List Stmt} {f cc cda C a : Addr} {fd : FuncData} {self : Str} {i : Nat} {p0 p1 p2 pos : Pos} {e : Expr} {ta : TA} {pl : Sem Bool} {pins : List (Addr × Obj)} {σ : L2.St} {H : Hp} {s : Shared} {Q : VK}
    (S : SupC X.prog X.K X.mg f cc cda C fd self) (T : OexC X.K C) (hfu : X.env.func = some f) (hco : X.env.code = .ref cda) (hcl : X.env.cells.lookup ("__class__" : Str) = some cc)
    (hks : X.env.kindOf "super" = some .globalImplicit) (hkc : X.env.kindOf "__class__" = some .free) (hka : X.env.kindOf self = some .local)
    (hN : X.N[i]? = some self) (hσ : σ[i]? = some (some (.ref a))) (I : Inv X pins σ H s) (ea : H a = some (exo a C none)) (ha : PA X [e] ta)
    (h : ta σ H fun vs H1 => vs.length ≤ 1000 ∧ H1 a = some (exo a C none) ∧ Q .non H1)
    (he : eval (.Call (.Attribute (.Call (.Name "super" p0) [] [] p1) "__init__" p2) [e] [] pos) X.env = (do
      let ov ← attributeBase (.Call (.Name "super" p0) [] [] p1) "__init__" X.env (eval (.Call (.Name "super" p0) [] [] p1) X.env)
      standAt p2.atName
      let (f, first) ← holding [ov] (getMethod ov "__init__" pl)
      callWith pos f first (backTo pos (starEach [e] X.env)) []) := by rfl)
    (hst : starEach [e] X.env = (false, eval e X.env) :: starEach [] X.env := by rfl) (hpl : (backTo pos (starEach [] X.env)).any (·.1) = false := by rfl) :
    _root_.PySem.wpAt (model X.prog X.w) X.A (.func body X.env) (eval (.Call (.Attribute (.Call (.Name "super" p0) [] [] p1) "__init__" p2) [e] [] pos) X.env) (EP X pins σ Q) X.xe s := by
  obtain ⟨oc, od, osl, lk⟩ := S.lk
  obtain ⟨ar, hp, hself⟩ := S.hp
  obtain ⟨ccl, cdd, cvs, ccs, file, tf, hcode, hvs, hfile⟩ := S.code
  obtain ⟨cl, cld, csl, hcell⟩ := S.cell
  obtain ⟨nm, q, N, bs, bm, sn, sub, ab, col, dd, k0, k1, k2, k3, k5, hC, hbm⟩ := T.cls
  have hclsIn : PySem.W.clsIn X.K C = some { name := nm, bases := bs, mro := .ref C :: bm, ns := N, qualname := q, hasDict := true, slotNames := sn, subclasses := sub, abstract := ab, collection := col, hasDel := false } := by unfold PySem.W.clsIn; rw [hC] <;> rfl
  have hsup := S.sup
  unfold ks_superIn at hsup
  rw [hclsIn] at hsup
  obtain ⟨t1, ho⟩ := exo_at I.hok ea
  have hC' := I.kIn _ _ hC
  obtain ⟨mb, hb1, hb2⟩ := I.mod.blt
  obtain ⟨m, hns, hloc⟩ := I.loc
  obtain ⟨uv, ruv, hlook⟩ := hloc i self (.ref a) hN hσ (.inl hka)
  obtain rfl : uv = Value.ref a := ruv
  have hv : m self = some (.ref a) := by
    rcases hlook with ⟨_, hv⟩ | ⟨hk, _⟩
    · exact hv
    · rcases hk with hk | hk <;> (have := (show X.env.scope.names.lookup self = some .local from hka).symm.trans hk; cases this)
  have IA : PySem.W.InstAt s.heap a { cls := .ref C, dict := none, data := .fields #[.ref t1, .none, .none, .none, .bool false, .none] } C none := ⟨ho, rfl, rfl, trivial⟩
  have hxC : a ≠ C := ks_ne I.kIn IA hclsIn
  have hsC : ("super" : Str) ≠ "__name__" := by decide
  have hfo := I.kIn _ _ lk
  have hco' := I.kIn _ _ hcode
  have hce' := I.kIn _ _ hcell
  have kind := I.ok.kind
  have glob : s.heap.Ns X.env.globals X.mg := by rw [I.ok.glob]; exact I.mod.glob.keeps I.bk
  have blt : s.heap.Ns X.env.builtins mb := by rw [I.ok.blt]; exact hb1.keeps I.bk
  have hsub := looks_mroIn (M := model X.prog X.w) I.kIn S.sub
  have hisI : Looks (model X.prog X.w) s.heap (isInstance (.ref a) (.type "ValueError")) true := IA.type.andThen (looks_subIn I.kIn S.isB)
  obtain ⟨hh, g, d, tk, os⟩ := s
  refine ks_wpAt_MethodCall (pl := pl) ?_ he
  refine ks_wpAt_super_base (f := f) (cc := cda) hks hkc (by decide) hfu hfo rfl hp hco hco' rfl hvs hfile S.top ?_
  refine ks_loadName_global kind hks (loadGlobal_builtin (env := X.env) glob S.msup blt ((hb2 _ hsC).trans (by kernel_rfl)) ⟨rfl, ?_⟩)
  refine wpAny_loadName_free kind hkc hcl ⟨_, hce', rfl⟩ ?_
  rw [hself]
  refine wpAny_loadName_local kind hka hns hv ?_
  refine ks_wpAny_isType_cls hC' rfl ⟨rfl, ?_⟩
  refine ks_wpAny_call_super hC' rfl ho rfl (fun c z => by cases z) hsub (fun h' eso k => ?_)
  have I1 := ClX.pin_new (t' := tk) I k (Nat.le_refl _) eso (fun v z => by cases z)
  refine kxs_getMethod kxs_ValueError (B := "ValueError") (i := "ValueError.__init__") (K := X.K) eso (looks_opaque I1.kIn S.opq) (l₀ := .ref C :: bm) ?_ rfl I1.kIn hsup ?_ hxC (by decide) ?_
  · exact fun A Q E s k q => wpAny_bind ((looks_clsIn I1.kIn hclsIn) A _ E s k (wpAny_pure q))
  · exact hisI.keeps k
  · have I2 := ClX.pin_new (h' := h'.push (kxs_mw "ValueError.__init__" a)) (a := h'.objs.size) (o := kxs_mw "ValueError.__init__" a) (t' := tk + 1) I1 (fun b o z => Heap.get?_push_of_some _ z) (Nat.le_refl _) (Heap.get?_push_at rfl rfl) (fun v z => by cases z)
    refine cw1 (i := "ValueError.__init__") (x := a) (thn (ha.run pos _ _ σ H _ I2 h) fun us s1 ⟨vs, H1, I3, r1, hl, ea1, q⟩ => ?_) hst hpl
    have hu := ClX.pin_at I3
    refine ⟨hu, ?_⟩
    have hlen : us.length ≤ sizeLine := by
      rw [← Paired.length r1, sizeLine_eq]
      omega
    exact call_mw T I3 ea1 hu hlen fun s' J => ⟨.non, H1, ClX.unpin (ClX.unpin J), rfl, q⟩
/-- C.__init__ that begins so, called while p's exception is handled -/
theorem fnh_super {CX : CXT} {P : Program} {w : World} {K : PySem.W.Frag} {mg : Str → Option Value} {base : Heap} {N ps : List Str} {G : NF} {f cc C : Addr} {k : Nat} {sp : Sp} {doc pm ctv oc : Value} {od : Option Addr} {osl : Array (Option Value)} {self : Str} {p0 p1 p2 pos q0 : Pos} {e : Expr} {rest : List Stmt}
    (lk : K.lookup f = some ⟨oc, od, .func (G.fd doc pm ctv), osl⟩) (hcd : PySem.W.codeIn K (.ref G.c) G.qual = true) (S : NScope N ps ["__class__"] G.scope) (hcl : G.cl = [(("__class__" : Str), cc)])
    (SC : SupC P K mg f cc G.c C (G.fd doc pm ctv) self) (T : OexC K C) (hks : G.scope.names.lookup ("super" : Str) = some .globalImplicit) (hself : ps[0]? = some self)
    (hbody : G.body = .Expr (.Call (.Attribute (.Call (.Name "super" p0) [] [] p1) "__init__" p2) [e] [] pos) q0 :: rest)
    {pl : Sem Bool} (he : ∀ env, eval (.Call (.Attribute (.Call (.Name "super" p0) [] [] p1) "__init__" p2) [e] [] pos) env = (do
      let ov ← attributeBase (.Call (.Name "super" p0) [] [] p1) "__init__" env (eval (.Call (.Name "super" p0) [] [] p1) env)
      standAt p2.atName
      let (f, first) ← holding [ov] (getMethod ov "__init__" pl)
      callWith pos f first (backTo pos (starEach [e] env)) []))
    (hst : ∀ env, starEach [e] env = (false, eval e env) :: starEach [] env) (hpl : ∀ env, (backTo pos (starEach [] env)).any (·.1) = false)
    (hsw : ∀ env, swapsWith (.Call (.Attribute (.Call (.Name "super" p0) [] [] p1) "__init__" p2) [e] [] pos) none q0.line env = pure false)
    (len : ∀ vs H Q E, sp vs H Q E → vs.length = ps.length)
    (hrun : ∀ (A : Around) (outer : List Env) (s : Shared) (H : Hp) (vs : List V) (Q : VK) (E : XK) (p : Addr × Obj), Hot1 A p → RoomH k (A.deeper (envF G f s.heap.objs.size)) → sp vs H Q E →
      ∃ a ta t, vs[0]? = some (.ref a) ∧ H a = some (exo a C none) ∧ PA (ncxH CX P w K mg base N G f A outer s H E p) [e] ta ∧ PSs (ncxH CX P w K mg base N G f A outer s H E p) rest t ∧
        ta (startF N vs [none]) H fun us H1 => us.length ≤ 1000 ∧ H1 a = some (exo a C none) ∧ t { nx := fun _ H' => Q .non H', rt := Q } (startF N vs [none]) H1) :
    FnH P w K mg base CX (k + 1) f (G.fd doc pm ctv) ps sp := by
  refine ⟨len, fun A outer s H args us vs Q E p hr hot hpin e0 hb r hsp => ?_⟩
  have hl := len _ _ _ _ hsp
  have KX : K.In s.heap := e0.mod.kin.keeps fun b o e => (e0.bs b o e).1
  have lim : s.heap.NoLimit := e0.mod.nolimit.keeps fun b o e => (e0.bs b o e).1
  obtain ⟨cl, cld, csl, hcell⟩ := SC.cell
  have hcb := e0.mod.kin _ _ hcell
  have CA : CellsAt G.cl ["__class__"] [none] s.heap H := by
    rw [hcl]
    have one : ∀ {y : Str} {c : Addr}, ([(("__class__" : Str), cc)] : List (Str × Addr)).lookup y = some c → y = "__class__" ∧ c = cc := fun {y c} h => by
      rw [List.lookup_cons] at h
      by_cases z : (y == ("__class__" : Str)) = true
      · rw [z] at h
        exact ⟨eq_of_beq z, (Option.some.inj h).symm⟩
      · rw [Bool.eq_false_iff.mpr z] at h
        cases h
    refine ⟨rfl, fun y c h => ?_, fun x y c h1 h2 => (one h1).1.trans (one h2).1.symm, fun i y h => ?_⟩
    · obtain ⟨_, rfl⟩ := one h
      exact ⟨(e0.bs _ _ hcb).2, _, _, (e0.bs _ _ hcb).1, rfl⟩
    · cases i with
      | zero => cases h; exact ⟨cc, rfl, fun v z => by cases z⟩
      | succ i => simp at h
  have hkind : ∀ y ∈ ps.zip us, G.scope.names.lookup y.1 = some .local := fun ⟨n, v⟩ hy => S.par n (List.of_mem_zip hy).1
  refine ks_codeAny_call_defAt (fd := G.fd doc pm ctv) (body := G.body) (binds := ps.zip us) hr.depth (KX _ _ lk) rfl lim (PySem.W.codeRec_of KX hcd) rfl hb S.nocell hkind (fun h₁ hns kp => ?_) S.co S.gen S.kind
  obtain ⟨a, ta, t, hva, ea, hpa, hps, hq⟩ := hrun A outer s H vs Q E p hot (hr.deeper _) hsp
  have I : Inv (ncxH CX P w K mg base N G f A outer s H E p) [] (startF N vs [none]) H { s with heap := h₁, toks := s.toks + (ps.zip us).length } := inv_startNH S hpin e0 hl r CA hns kp
  have hself' : N[0]? = some self := by
    have q := congrArg (fun l : List Str => l[0]?) S.pre
    have l2 : 0 < ps.length := by
      cases ps with
      | nil => simp at hself
      | cons _ _ => simp
    have e1 : (ps ++ ([("__class__" : Str)] : List Str))[0]? = ps[0]? := by rw [List.getElem?_append_left l2]
    have q : (N.take (ps.length + ([("__class__" : Str)] : List Str).length))[0]? = (ps ++ ([("__class__" : Str)] : List Str))[0]? := q
    rw [List.getElem?_take_of_lt (by simp)] at q
    rw [q, e1, hself]
  have hσ : (startF N vs [none])[0]? = some (some (.ref a)) := by
    unfold startF
    cases vs with
    | nil => simp at hva
    | cons v vs => simp at hva ⊢; rw [hva]
  show _root_.PySem.wpAt (model P w) (ncxH CX P w K mg base N G f A outer s H E p).A (.func G.body (ncxH CX P w K mg base N G f A outer s H E p).env) (execs G.body (ncxH CX P w K mg base N G f A outer s H E p).env) _ _ _
  rw [hbody]
  have hint : interactive (ncxH CX P w K mg base N G f A outer s H E p).env = false := by
    have hk : (ncxH CX P w K mg base N G f A outer s H E p).env.scope.kind = .function := S.kind
    unfold interactive
    rw [hk]
    rfl
  have hkc : (ncxH CX P w K mg base N G f A outer s H E p).env.kindOf "__class__" = some .free := S.frk "__class__" (List.mem_singleton.mpr rfl)
  have hcl' : (ncxH CX P w K mg base N G f A outer s H E p).env.cells.lookup ("__class__" : Str) = some cc := by
    show G.cl.lookup ("__class__" : Str) = some cc
    rw [hcl]; rfl
  have hka : (ncxH CX P w K mg base N G f A outer s H E p).env.kindOf self = some .local := S.par self (List.mem_of_getElem? hself)
  refine ks_wpAt_execs_cons (ks_wpAt_Expr_any (ks_wpAt_mono (sup_init (X := ncxH CX P w K mg base N G f A outer s H E p) (i := 0) (pl := pl) (Q := fun v H1 => t { nx := fun _ H' => Q .non H', rt := Q } (startF N vs [none]) H1) SC T rfl rfl hcl' hks hkc hka hself' hσ I ea hpa hq (he _) (hst _) (hpl _)) (fun u s' hu => ?_) fun e s' z => z) hint (hsw _))
  obtain ⟨v, H1, I1, _, q⟩ := hu
  refine wpAt_of_wpAny (wpAny_mono (hps.run [] s' _ H1 _ I1 q) (fun fl s' hs => ?_) fun e s' hs => hs)
  have fin : ∀ {σ' : L2.St} {H' : Hp} {v : V} {u : Value}, Inv (ncxH CX P w K mg base N G f A outer s H E p) [] σ' H' s' → L2.RelV v u → Q v H' → CE outer P w H s Q u s' :=
    fun {σ' H' v u} J rv q => ⟨v, H', J.os, J.bare, J.base, J.hok, rv, q⟩
  cases fl with
  | ret u =>
    obtain ⟨v, σ', H', J, rv, q⟩ := hs
    exact fin J rv q
  | next =>
    obtain ⟨σ', H', J, q⟩ := hs
    exact fin (v := V.non) (u := Value.none) J rfl q
  | brk =>
    obtain ⟨_, _, _, q⟩ := hs
    exact False.elim q
  | cont =>
    obtain ⟨_, _, _, q⟩ := hs
    exact False.elim q
end SupX
namespace Rep
open PySem L2 L2H RepHot NdefX
/-! BadPage(at): its own __init__ -/
def spBpi (C : Addr) : Sp := fun vs H Q _ => ∃ (e : Addr) (i : Int), vs = [.ref e, .int i] ∧ i.natAbs < 10 ^ 40 ∧ H e = some (exo e C none) ∧ ∀ dx, H dx = none → dx ≠ e → Q .non (upd (upd H dx (exd dx [("at", .int i)])) e (exo e C (some dx)))
theorem scBpi : NScope ["self", "at", "__class__"] ["self", "at"] ["__class__"] (defScope sBadPageInit) := nscope_by (by decide +kernel)
theorem text40 {i : Int} (h : i.natAbs < 10 ^ 40) : (Str.ofString (toString i)).length ≤ 41 := by
  have e := PySem.int_text_length_le10 (k := 40) (by decide) h
  rw [PySem.ofString_length]; omega
/-- what the written part says of it -/
structure TBp (Pg : Program) (K : PySem.W.Frag) (mg : Str → Option Value) (C f : Addr) (fd : FuncData) : Prop where
  ex : ∃ (G : NF) (cc : Addr) (doc pm ctv oc : Value) (od : Option Addr) (osl : Array (Option Value)), fd = G.fd doc pm ctv ∧ K.lookup f = some ⟨oc, od, .func (G.fd doc pm ctv), osl⟩ ∧ PySem.W.codeIn K (.ref G.c) G.qual = true ∧ G.body = defBody sBadPageInit ∧ G.scope = defScope sBadPageInit ∧ G.cl = [(("__class__" : Str), cc)] ∧ SupX.SupC Pg K mg f cc G.c C (G.fd doc pm ctv) "self"
  o : OexC K C
  fi : PySem.W.findIn K (.ref C) "at" = some none
section
variable {Pg : Program} {w : World} {K : PySem.W.Frag} {mg : Str → Option Value} {base : Heap} {C : Addr}
theorem ok_bpi {f : Addr} {fd : FuncData} {k : Nat} (T : TBp Pg K mg C f fd) : FnH Pg w K mg base CX0 (k + 1) f fd ["self", "at"] (spBpi C) := by
  obtain ⟨G, cc, doc, pm, ctv, oc, od, osl, rfl, lk, hcd, hb, hs, hc, sc⟩ := T.ex
  refine SupX.fnh_super (self := "self") lk hcd (hs.symm ▸ scBpi) hc sc T.o (by rw [hs]; rfl) rfl (hb.trans rfl) (fun env => by rfl) (fun env => by rfl) (fun env => by rfl) (fun env => by rfl) (fun vs H Q E h => ?_) (fun A outer s H vs Q E p hot hr h => ?_)
  · obtain ⟨e, i, rfl, _⟩ := h; rfl
  obtain ⟨e, i, rfl, hi, he, q⟩ := h
  have k0 : G.scope.names.lookup ("self" : Str) = some .local := by rw [hs]; rfl
  have k1 : G.scope.names.lookup ("at" : Str) = some .local := by rw [hs]; rfl
  refine ⟨e, _, _, rfl, he, pa_cons (pe_joined (.cons pe_str (.cons (pe_fmt (pv 1 (hv := .inl k1))) (.cons pe_str .nil)))) pa_nil, pss_one (ps_ost (pv 0 (hv := .inl k0)) (pv 1 (hv := .inl k1))), ?_⟩
  have l40 := text40 hi
  refine ⟨"row ", rfl, (by decide +kernel), .int i, rfl, .inr ⟨i, rfl, PySem.Flt.log2_lt_of (by decide) (Nat.lt_trans hi (by decide)), ?_⟩⟩
  refine ⟨_, rfl, ?_, " of the page is wrong", rfl, ?_, (by show 1 ≤ 1000; decide), he, .int i, rfl, .ref e, rfl, e, C, rfl, T.o, T.fi, .inl ⟨he, fun dx n ne => q dx n ne⟩⟩
  · rw [PySem.Str.length_append]
    exact Nat.le_trans (Nat.add_le_add (show (Str.empty ++ ("row " : Str)).length ≤ 4 by decide +kernel) l40) (by decide)
  · rw [PySem.Str.length_append, PySem.Str.length_append]
    exact Nat.le_trans (Nat.add_le_add (Nat.add_le_add (show (Str.empty ++ ("row " : Str)).length ≤ 4 by decide +kernel) l40) (show (" of the page is wrong" : Str).length ≤ 40 by decide +kernel)) (by decide)
end
end Rep
namespace RepHot
open PySem PySem.Spec PyProof.Rows L2 L2H HotX
/-- a def that may raise, its exceptions with a context or none -/
theorem okK {P : Program} {w : World} {K : PySem.W.Frag} {mg : Str → Option Value} {base : Heap} {x qual : Str} {st : Stmt} {f : Addr} {fd : FuncData} {N ps : List Str} {k : Nat} {sp : Sp} (F : Fun K x qual st f fd) (S : FnScope N ps (defScope st)) (len : ∀ vs H Q E, sp vs H Q E → vs.length = ps.length)
    (hb : ∀ (cdv : Value) (A : Around) (outer : List Env) (s : Shared) (H : Hp) (vs : List V) (Q : VK) (E : XK), Room k (A.deeper (envOfC qual (defScope st) s.heap.objs.size f cdv)) → sp vs H Q E →
      ∃ t, PSs (cxOf (L2K.CX P w) P w K mg base N qual (defScope st) f cdv A outer s H E) (defBody st) t ∧ t { nx := fun _ H' => Q .non H', rt := Q } (start N vs) H) : FnOk P w K mg base (L2K.CX P w) (k + 1) f fd ps sp := by
  obtain ⟨_, _, _, _, _, _, cdv, _, _, rfl, lk, hcd⟩ := F.ex
  exact fn_of lk hcd S len fun A outer s H vs Q E hr h => hb cdv A outer s H vs Q E hr h
end RepHot
namespace Rep
open PySem L2 L2H RepHot
/-! a page read; where a row is wrong, BadPage tells its place -/
def spReadR (BK S BP : Addr) : Sp := fun vs H Q E => ∃ (x : Str) (N : Addr → Prop), vs = [.str x] ∧ NA N H ∧ x.length ≤ 1000000 ∧ (∀ row ∈ Txt.split x "\n", row.length ≤ RowL) ∧
  (∀ s, Reach (Txt.split x "\n") (Txt.split x "\n").length (some s) → ∀ H' b, Same H H' → H b = none → BkAt BK S N H' b [s] 0 .non .non → Q (.ref b) H') ∧
  (∀ (i : Nat) (o : Option Sht) (row : Str), Reach (Txt.split x "\n") i o → (Txt.split x "\n")[i]? = some row → (¬ ∃ s', StpR row s' o) → ∀ H' d, Same H H' → H' d = some (.xd [("at", .int (i : Int))]) → E (.ref BP) (some d) H')
theorem scReadR : FnScope ["text", "sheet", "at", "row"] ["text"] (defScope sRead) := ⟨rfl, rfl, rfl, by decide +kernel, rfl, by decide +kernel, by decide +kernel⟩
structure TReadR (Pg : Program) (w : World) (K : PySem.W.Frag) (mg : Str → Option Value) (base : Heap) (BK S UF RE BP : Addr) (R : Addr → Prop) (fS fR fB fI : Addr) (fdS fdR fdB fdI : FuncData) : Prop where
  gS : FnOk Pg w K mg base (L2N.CX Pg w) 9 fS fdS ["row"] (spSong S R)
  bS : Binds K fdS ["row"] []
  kS : PySem.W.keepIn K (.ref fS) = true
  mS : mg "first_sheet" = some (.ref fS)
  gR : FnOk Pg w K mg base (L2N.CX Pg w) 10 fR fdR ["sheet", "row"] (spRow S R)
  bR : Binds K fdR ["sheet", "row"] []
  kR : PySem.W.keepIn K (.ref fR) = true
  mR : mg "with_row" = some (.ref fR)
  gB : FnOk Pg w K mg base CX0 11 fB fdB ["sheet"] (spBof BK S)
  bB : Binds K fdB ["sheet"] []
  kB : PySem.W.keepIn K (.ref fB) = true
  mB : mg "book_of" = some (.ref fB)
  mE : mg "enumerate" = none
  gU : mg "Unfit" = some (.ref UF)
  gE : mg "RepriseError" = some (.ref RE)
  gP : mg "BadPage" = some (.ref BP)
  oP : OexC K BP
  iP : PySem.W.findIn K (.ref BP) "__init__" = some (some (.ref fI))
  tP : PySem.W.typeIn K (.ref fI) = some (.type "function")
  gI : FnH Pg w K mg base CX0 9 fI fdI ["self", "at"] (spBpi BP)
  bI : Binds K fdI ["self", "at"] []
  xm : ∀ c, R c → PySem.W.exmAny K (.ref c) [.ref UF, .ref RE] = some true
/-- the page's exception, made and raised: what is left of the walk -/
theorem made_bp {BP : Addr} {H : Hp} {i : Int} {a : Addr} {σ : L2.St} {E : XK} (hi : i.natAbs < 10 ^ 40) (q : ∀ H' d, Same H H' → H' d = some (.xd [("at", .int i)]) → E (.ref BP) (some d) H') :
    ∀ a, H a = none → spBpi BP (.ref a :: ([V.int i] ++ [])) (upd H a (exo a BP none)) (fun v H2 => v = .non ∧ ∃ (d : Addr) (fs : List (Str × V)), H2 a = some (exo a BP (some d)) ∧ H2 d = some (exd d fs) ∧ H d = none ∧ E (.ref BP) (some d) (upd (del H2 a) d (.xd fs))) (fun _ _ _ => False) := fun a na => by
  refine ⟨a, i, rfl, hi, upd_same, fun dx n ne => ⟨rfl, dx, [("at", .int i)], upd_same, ?_, ?_, q _ dx (fun b o e => ?_) upd_same⟩⟩
  · rw [upd_ne ne, upd_same]
  · rwa [upd_ne ne] at n
  · rw [upd_ne ne] at n
    have b1 : b ≠ a := fun z => by rw [z, na] at e; cases e
    have b2 : b ≠ dx := fun z => by rw [z, n] at e; cases e
    rw [upd_ne b2]
    show (if b = a then none else _) = _
    rw [if_neg b1, upd_ne b1, upd_ne b2, upd_ne b1]
    exact e
section
variable {Pg : Program} {w : World} {K : PySem.W.Frag} {mg : Str → Option Value} {base : Heap} {BK S UF RE BP : Addr} {R : Addr → Prop} {fS fR fB fI : Addr} {fdS fdR fdB fdI : FuncData}
theorem ok_readR {f : Addr} {fd : FuncData} (F : Fun K "read" "read" sRead f fd) (T : TReadR Pg w K mg base BK S UF RE BP R fS fR fB fI fdS fdR fdB fdI) : FnOk Pg w K mg base (L2K.CX Pg w) 12 f fd ["text"] (spReadR BK S BP) := by
  refine okK F scReadR (fun vs H Q E h => ?_) (fun cdv A outer s H vs Q E hr h => ?_)
  · obtain ⟨x, N, rfl, _⟩ := h; rfl
  obtain ⟨x, N, rfl, na_, lx, lrow, q, qx⟩ := h
  have r11 : Room 11 _ := hr
  have r10 : Room 10 _ := hr.mono (by decide)
  have r9 : Room 9 _ := hr.mono (by decide)
  refine ⟨_, (pss_cons (ps_set (i := 1) scReadR.nd rfl (.inl rfl) pe_non)
    (pss_cons (ps_for (passes_of rfl) rfl (pi_enum (by rfl) T.mE (pa_cons (pe_split (pv 0) pe_str) pa_nil)) (pg_tup rfl (pgs_cons (pg_name (i := 2) scReadR.nd rfl (.inl rfl)) (pgs_cons (pg_name (i := 3) scReadR.nd rfl (.inl rfl)) pgs_nil)))
      (C8.pss_cut (RepTryK.ps_tryTK rfl rfl ⟨rfl, by decide, .inl T.gU⟩ ⟨rfl, by decide, .inl T.gE⟩ (passesAt_of rfl) (L2K.takes_of rfl rfl rfl rfl)
        (fun W pn xe tk _ => (pss_one (ps_set (i := 1) scReadR.nd rfl (.inl rfl) (pe_ifExp (pt_cmpR op_isN (pv 1) pe_non (nomark _)) (pe_callS T.gS r9 (by rfl) T.mS T.kS T.bS (fun σ => L2N.passAt tk σ) (pa_cons (pv 3) pa_nil)) (pe_callS T.gR r10 (by rfl) T.mR T.kR T.bR (fun σ => L2N.passAt tk σ) (pa_cons (pv 1) (pa_cons (pv 3) pa_nil)))))))
        (fun a oe cls d pn tks hot => pss_one (RepTryK.ps_raiseHK hot tks (pmk5_oexH T.oP T.iP T.tP T.gI (roomH_mark r10 _) hot T.bI pass0 (by rfl) T.gP (pa_cons (pv 2) pa_nil))))) pss_nil))
    (pss_one (ps_ret (pe_call T.gB r11 (by rfl) T.mB T.kB T.bB .nil pass0 (pa_cons (pv 1) pa_nil)))))), ?_⟩
  have ln := (spt_n x).len
  have small : ∀ {i : Nat}, i < (Txt.split x "\n").length → ((i : Int)).natAbs < 10 ^ 40 := fun {i} h => by
    have : i < 10 ^ 40 := Nat.lt_of_lt_of_le h (Nat.le_trans (Nat.le_trans ln (Nat.add_le_add_right lx 1)) (by decide))
    omega
  refine ⟨.str x, rfl, ⟨_, rfl⟩, x, "\n", rfl, rfl, by decide +kernel, Nat.le_trans (show x.length + 2 ≤ 1000002 by omega) (by decide), fun l nl => ?_⟩
  have nel := (spt_n x).ne
  generalize Txt.split x "\n" = rows at lrow ln nel small q qx ⊢
  generalize e_l : upd H l _ = H1
  have s1 := new_same e_l nl
  have z1 := new_at e_l
  clear e_l
  refine ⟨l, rows.map V.str, rfl, .inl (.inl z1), for_it (walk_enum (K := K) (a := l) (xs := rows.map V.str)) (fun j σ' H' => ∃ y1 y2 y3 o, σ' = [some (.str x), some y1, y2, y3] ∧ Same H1 H' ∧ Reach rows j o ∧ (match o with | none => y1 = .non | some s => ShAt S N H' y1 s)) ⟨.non, none, none, none, rfl, Same.refl _, .zero, rfl⟩ (fun j σ' H' _ hP => ?_) (fun i v σ' H2 H2' hi hP hy => ?_) (fun σ' H' hP => ?_)⟩
  · obtain ⟨_, _, _, _, _, sm, _⟩ := hP
    exact .inl (.inl (sm _ _ z1))
  · obtain ⟨y1, y2, y3, o, rfl, s2, rc, hy1⟩ := hP
    obtain ⟨tj, v1, v2, rfl, ntj, rfl, g1, g2⟩ := hy
    have g1 : some (V.int (i : Int)) = some v1 := g1
    cases g1
    have g2 : (rows.map V.str)[i]? = some v2 := g2
    rw [List.getElem?_map] at g2
    obtain ⟨row, hrow, rfl⟩ : ∃ row, rows[i]? = some row ∧ V.str row = v2 := by
      cases e : rows[i]? with
      | none => rw [e] at g2; cases g2
      | some r => rw [e] at g2; exact ⟨r, rfl, Option.some.inj g2⟩
    have hin : i < rows.length := (List.getElem?_eq_some_iff.mp hrow).1
    have sj := same_upd (o := .tup [.int (i : Int), .str row]) ntj
    refine ⟨tj, _, rfl, .inl (.inl upd_same), rfl, _, _, rfl, _, _, rfl, rfl, ?_⟩
    have s3 := s2.trans sj
    generalize upd H2 tj (.tup [.int (i : Int), .str row]) = H3 at s3 sj ⊢
    refine ⟨fun σ' H' => ∃ y s', σ' = [some (.str x), some y, some (.int (i : Int)), some (.str row)] ∧ Same H3 H' ∧ StpR row s' o ∧ ShAt S N H' y s', ?_, ?_⟩
    · have nab := (na_.same s1).same s3
      have lr := lrow row (List.mem_of_getElem? hrow)
      cases o with
      | none =>
        have hy1 : y1 = .non := hy1
        subst hy1
        refine ⟨.non, rfl, rfl, _, rfl, iteT ?_⟩
        refine ⟨.str row, rfl, row, N, rfl, nab, lr, fun s2 h2 H4 p4 s4 sh4 => ?_, fun n c hc H4 s4 => ⟨T.xm c hc, fun a na => ?_⟩⟩
        · exact ⟨_, s2, rfl, s4, h2, sh4⟩
        · exact ⟨.int (i : Int), rfl, (by show 1 ≤ 1000; decide), made_bp (E := E) (σ := []) (a := a) (small hin) fun H5 d s5 e5 => qx i none row rc hrow n H5 d ((s1.trans s3).trans (s4.trans s5)) e5⟩
      | some sc =>
        have hy1 : ShAt S N H2 y1 sc := hy1
        obtain ⟨p, dx, sa, na, xs, ys, e0, h2, _⟩ := id hy1.ex
        subst e0
        refine ⟨.ref p, rfl, rfl, _, rfl, iteF ?_⟩
        refine ⟨.ref p, rfl, .str row, rfl, p, row, N, sc, rfl, hy1.same sj, nab, rc.rd.lens, lr, fun s2 h2 H4 p4 s4 sh4 => ?_, fun n c hc H4 s4 => ⟨T.xm c hc, fun a na => ?_⟩⟩
        · exact ⟨_, s2, rfl, s4, h2, sh4⟩
        · exact ⟨.int (i : Int), rfl, (by show 1 ≤ 1000; decide), made_bp (E := E) (σ := []) (a := a) (small hin) fun H5 d s5 e5 => qx i (some sc) row rc hrow n H5 d ((s1.trans s3).trans (s4.trans s5)) e5⟩
    rintro σ' H' ⟨y, s', rfl, s4, st, sh⟩
    exact ⟨y, some (.int (i : Int)), some (.str row), some s', rfl, s3.trans s4, .next rc hrow st, sh⟩
  · obtain ⟨y1, y2, y3, o, rfl, s2, rc, hy1⟩ := hP
    rw [List.length_map] at rc
    obtain ⟨s_, rfl⟩ : ∃ s_, o = some s_ := by
      cases o with
      | some s_ => exact ⟨s_, rfl⟩
      | none =>
        generalize ez : rows.length = z at rc
        cases rc
        exact absurd (List.length_eq_zero_iff.mp ez) nel
    have hy1 : ShAt S N H' y1 s_ := hy1
    obtain ⟨p, dx, sa, na, xs, ys, e0, h2, _⟩ := id hy1.ex
    subst e0
    have s12 := s1.trans s2
    exact ⟨.ref p, rfl, p, N, s_, rfl, hy1, na_.same s12, rc.rd.e, fun H4 b s4 nb bk => q s_ rc H4 b (s12.trans s4) (Same.free s12 nb) bk⟩
end
end Rep
namespace L2K
open PySem PySem.Spec PyProof.Rows L2
theorem passAt {X : Cx} {W : WX} (tk : Takes X W) (σ : L2.St) : PassesAt (L2K.CX X.prog X.w) X σ (WE W σ) := fun _ _ _ e s' I c => tk e s' (XE.of_call I (fun _ _ _ h => h) c)
end L2K
namespace Rep
open PySem L2 L2H RepHot RepHot2 NdefX
/-! a page read, by the law -/
def spRl (BK S : Addr) : Sp := fun vs H Q _ => ∃ x : Str, vs = [.str x] ∧ x.length ≤ 1000000 ∧
  (∀ s, Reach (Txt.split x "\n") (Txt.split x "\n").length (some s) → ∀ H' b p, Same H H' → H b = none → BkAt BK S N0 H' b [s] 0 .non .non → H' p = some (.tup [.int (-1), .ref b, .str ""]) → Q (.ref p) H') ∧
  (∀ (i : Nat) (o : Option Sht) (row : Str), Reach (Txt.split x "\n") i o → (Txt.split x "\n")[i]? = some row → (¬ ∃ s', StpR row s' o) → ∀ H' p, Same H H' → H' p = some (.tup [.int (i : Int), .non, .str "BadPage"]) → Q (.ref p) H')
abbrev nRl : List Str := ["_law_text", "_law_at", "_law_made", "_law_word", "_law_e"]
theorem scRl : FnScope nRl ["_law_text"] (defScope s_law_read) := ⟨rfl, rfl, rfl, by decide +kernel, rfl, by decide +kernel, by decide +kernel⟩
structure TRl (Pg : Program) (w : World) (K : PySem.W.Frag) (mg : Str → Option Value) (base : Heap) (BK S BP : Addr) (cs : List Addr) (fR fK : Addr) (fdR fdK : FuncData) : Prop where
  gR : FnOk Pg w K mg base (L2K.CX Pg w) 12 fR fdR ["text"] (spReadR BK S BP)
  bR : Binds K fdR ["text"] []
  kR : PySem.W.keepIn K (.ref fR) = true
  mR : mg "read" = some (.ref fR)
  gK : FnQ Pg w K mg base CX0 8 fK fdK ["_law_e"] (spKinQ K cs)
  bK : Binds K fdK ["_law_e"] []
  kK : PySem.W.keepIn K (.ref fK) = true
  mK : mg "_law_kin" = some (.ref fK)
  gP : mg "BadPage" = some (.ref BP)
  kd : KinD K cs BP 8
  x1 : PySem.W.exmOne K (.ref BP) (.ref BP) = some true
  xf : XfC K BP
  nf : PySem.W.findIn K (.ref BP) "at" = some none
section
variable {Pg : Program} {w : World} {K : PySem.W.Frag} {mg : Str → Option Value} {base : Heap} {BK S BP fR fK : Addr} {cs : List Addr} {fdR fdK : FuncData}
theorem ok_rl {f : Addr} {fd : FuncData} (F : Fun K "_law_read" "_law_read" s_law_read f fd) (T : TRl Pg w K mg base BK S BP cs fR fK fdR fdK) : FnOk Pg w K mg base CX0 13 f fd ["_law_text"] (spRl BK S) := by
  refine F.ok scRl (fun vs H Q E h => ?_) (fun cdv A outer s H vs Q E hr h => ?_)
  · obtain ⟨x, rfl, _⟩ := h; rfl
  obtain ⟨x, rfl, lx, q, qx⟩ := h
  have r12 : Room 12 _ := hr
  have r8 : Room 8 _ := hr.mono (by decide)
  refine ⟨_, (pss_cons (ps_set (i := 1) scRl.nd rfl (.inl rfl) (pe_un un_neg pe_int))
    (pss_cons (ps_set (i := 2) scRl.nd rfl (.inl rfl) pe_non)
    (pss_cons (ps_set (i := 3) scRl.nd rfl (.inl rfl) pe_str)
    (C8.pss_cut (RepTryK.ps_try1K (i := 4) rfl rfl scRl.nd rfl rfl ⟨rfl, by decide, .inl T.gP⟩
      (fun W pn xe tk _ => (pss_one (ps_set (i := 2) scRl.nd rfl (.inl rfl) (pe_callS T.gR r12 (by rfl) T.mR T.kR T.bR (fun σ => L2K.passAt tk σ) (pa_cons (pv 0) pa_nil)))))
      (fun a oe cls d L pn hz hf hot hL ha => (pss_cons (ps_set (i := 1) scRl.nd rfl (.inl rfl) (pe_xf T.xf T.nf hz hf (pv 4))) (pss_one (ps_set (i := 3) scRl.nd rfl (.inl rfl) (pe_callQ T.gK (room_suite r8) hot hL ha hf hz (by rfl) T.mK T.kK T.bK (pa_cons (pv 4) pa_nil)))))))
    (pss_one (ps_ret (pe_tup (pa_cons (pv 1) (pa_cons (pv 2) (pa_cons (pv 3) pa_nil)))))))))), ?_⟩
  refine ⟨1, rfl, ?_⟩
  refine ⟨fun σ' H1 => ∃ (i : Int) (v : V) (z : Str) (y4 : Option V), σ' = [some (.str x), some (.int i), some v, some (.str z), y4] ∧ Same H H1 ∧ ((i = -1 ∧ z = "" ∧ ∃ b s_, v = .ref b ∧ H b = none ∧ BkAt BK S N0 H1 b [s_] 0 .non .non ∧ Reach (Txt.split x "\n") (Txt.split x "\n").length (some s_)) ∨ (v = .non ∧ z = "BadPage" ∧ ∃ (k : Nat) (o : Option Sht) (row : Str), i = (k : Int) ∧ Reach (Txt.split x "\n") k o ∧ (Txt.split x "\n")[k]? = some row ∧ ¬ ∃ s', StpR row s' o)), ?_, ?_⟩
  · refine ⟨.str x, rfl, x, N0, rfl, na0 _, lx, fun row hr => Nat.le_trans ((spt_n x).le row hr) lx, fun s_ rc H1 b s1 nb bk => ?_, fun k o row rc hrow nn H1 d s1 hd => ?_⟩
    · exact ⟨_, _, _, _, rfl, s1, .inl ⟨rfl, rfl, b, s_, rfl, nb, bk, rc⟩⟩
    · refine ⟨T.x1, fun a na => ?_⟩
      refine ⟨.ref a, rfl, rfl, rfl, d, _, .int (k : Int), rfl, hd, rfl, ?_⟩
      refine ⟨.ref a, rfl, BP, 8, rfl, fun dx z => ⟨_, by cases z; exact hd⟩, T.kd, rfl, fun H2 s2 => ?_⟩
      exact ⟨_, _, _, _, rfl, s1.trans s2, .inr ⟨rfl, rfl, k, o, row, rfl, rc, hrow, nn⟩⟩
  rintro σ' H1 ⟨i, vv, z, y4, rfl, s1, alt⟩
  refine ⟨.int i, rfl, vv, rfl, .str z, rfl, ?_⟩
  refine ⟨szN 3 rfl, fun t n_t => ?_⟩
  generalize e_t : upd H1 t _ = H2
  have s2 := new_same e_t n_t
  have z2 := new_at e_t
  clear e_t
  rcases alt with ⟨rfl, rfl, b, s_, rfl, nb, bk, rc⟩ | ⟨rfl, rfl, k, o, row, rfl, rc, hrow, nn⟩
  · exact q s_ rc H2 b t (s1.trans s2) nb (bk.same s2) z2
  · exact qx k o row rc hrow nn H2 t (s1.trans s2) z2
end
end Rep
namespace Rep
open PySem L2 L2H RepHot
/-! what a sheet keeps; how long its page is; the law's model alone -/
structure Ng (j : Int) (s : Sht) : Prop where
  c0 : 1 ≤ s.coming
  c1 : s.coming ≤ 1 + j
  nn : ∀ m ∈ s.noted, 0 ≤ m.num
  ns : ∀ r ∈ s.said, 0 ≤ r.num
theorem Ng.mono {j j' : Int} {s : Sht} (h : Ng j s) (k : j ≤ j') : Ng j' s := ⟨h.c0, by have := h.c1; omega, h.nn, h.ns⟩
theorem Ng.step {j : Int} {s s' : Sht} {d : Dd} {o : Option Int} (w : Ng j s) (h : Stp s d (.inr (o, s'))) : Ng (j + 1) s' := by
  have c0 := w.c0
  have c1 := w.c1
  cases d with
  | say y =>
    rcases h with ⟨h1, h2, h⟩ | ⟨_, _, h⟩ | ⟨_, h⟩ <;> cases h
    refine ⟨by show 1 ≤ s.coming + 1; omega, by show s.coming + 1 ≤ 1 + (j + 1); omega, w.nn, fun r hr => ?_⟩
    rcases List.mem_append.mp hr with hr | hr
    · exact w.ns r hr
    · rw [List.mem_singleton.mp hr]; show 0 ≤ s.coming; omega
  | unsay n =>
    rcases h with ⟨k, h1, h⟩ | ⟨_, h⟩ <;> cases h
    exact ⟨c0, by show s.coming ≤ 1 + (j + 1); omega, w.nn, fun r hr => w.ns r (List.mem_of_mem_eraseIdx hr)⟩
  | amend n y =>
    rcases h with ⟨k, h1, h2, h⟩ | ⟨_, _, _, h⟩ | ⟨_, h⟩ <;> cases h
    refine ⟨c0, by show s.coming ≤ 1 + (j + 1); omega, w.nn, fun r hr => ?_⟩
    rcases List.mem_or_eq_of_mem_set hr with hr | hr
    · exact w.ns r hr
    · rw [hr]
      obtain ⟨r', hr', e⟩ := List.mem_map.mp h1.mem
      show 0 ≤ n
      rw [← e]; exact w.ns r' hr'
  | rem z x m =>
    rcases h with ⟨h0, h1, h2, h⟩ | ⟨_, _, _, h⟩ | ⟨_, _, h⟩ | ⟨_, h⟩ <;> cases h
    refine ⟨by show 1 ≤ s.coming + 1; omega, by show s.coming + 1 ≤ 1 + (j + 1); omega, fun m hm => ?_, w.ns⟩
    rcases List.mem_append.mp hm with hm | hm
    · exact w.nn m hm
    · rw [List.mem_singleton.mp hm]; show 0 ≤ s.coming; omega
  | forget n =>
    rcases h with ⟨k, h1, h⟩ | ⟨_, h⟩ <;> cases h
    exact ⟨c0, by show s.coming ≤ 1 + (j + 1); omega, fun m hm => w.nn m (List.mem_of_mem_eraseIdx hm), w.ns⟩
  | longer m =>
    rcases h with ⟨h1, h2, h⟩ | ⟨_, h⟩ <;> cases h
    exact ⟨c0, by show s.coming ≤ 1 + (j + 1); omega, w.nn, w.ns⟩
  | shorter m =>
    rcases h with ⟨h1, h2, h3, h⟩ | ⟨_, _, _, h⟩ | ⟨_, h⟩ <;> cases h
    exact ⟨c0, by show s.coming ≤ 1 + (j + 1); omega, w.nn, w.ns⟩
/-- what each sheet keeps -/
structure Gs (j : Int) (s : Sht) : Prop where
  w : Wf s
  f : Fit s
  g : Ng j s
theorem Gs.mono {j j' : Int} {s : Sht} (h : Gs j s) (k : j ≤ j') : Gs j' s := ⟨h.w, h.f, h.g.mono k⟩
theorem Gs.tl {j : Int} {s : Sht} (h : Gs j s) (hj : j ≤ 100000) : Tl s := .of h.w h.f ⟨by have := h.g.c0; omega, Int.lt_of_le_of_lt (show s.coming ≤ 100001 by have := h.g.c1; omega) (by decide)⟩ h.g.ns h.g.nn
structure GsA (j : Int) (past : List Sht) (now : Sht) (ahead : List Sht) : Prop where
  n : Gs j now
  p : ∀ s ∈ past, Gs j s
  a : ∀ s ∈ ahead, Gs j s
theorem GsA.mono {j j' : Int} {past ahead : List Sht} {now : Sht} (h : GsA j past now ahead) (k : j ≤ j') : GsA j' past now ahead := ⟨h.n.mono k, fun s hs => (h.p s hs).mono k, fun s hs => (h.a s hs).mono k⟩
theorem GsA.step {j : Int} {past ahead : List Sht} {now : Sht} {de : De} {r : Res} (h : GsA j past now ahead) (hr : RStp past now ahead de r) : GsA (j + 1) (resB past now ahead r).1 (resB past now ahead r).2.1 (resB past now ahead r).2.2 := by
  have up : ∀ s : Sht, Gs j s → Gs (j + 1) s := fun s z => z.mono (by omega)
  obtain ⟨a, b, c⟩ := hr.all (P := Gs (j + 1)) (fun d o s' ed st => ⟨h.n.w.step st, h.n.f.step st, h.n.g.step st⟩) (up _ h.n) (fun s hs => up _ (h.p s hs)) (fun s hs => up _ (h.a s hs))
  exact ⟨a, b, c⟩
theorem tot_le {k : Nat} {ws : List Str} (h : ∀ z ∈ ws, z.length ≤ k) : tot ws ≤ (k + 1) * ws.length := by
  induction ws with
  | nil => exact Nat.le_refl _
  | cons a r ih =>
    rw [tot_cons, List.length_cons, Nat.mul_add]
    have h1 := h a List.mem_cons_self
    have h2 := ih fun z hz => h z (List.mem_cons_of_mem _ hz)
    omega
theorem tot_perm {a b : List Str} (h : a.Perm b) : tot a = tot b := by
  induction h with
  | nil => rfl
  | cons x _ ih => rw [tot_cons, tot_cons, ih]
  | swap x y l => rw [tot_cons, tot_cons, tot_cons, tot_cons]; omega
  | trans _ _ h1 h2 => rw [h1, h2]
theorem pg_len {s : Sht} (tl : Tl s) (l1 : s.said.length ≤ 25) (l2 : s.noted.length ≤ 25) (lt : ∀ m ∈ s.noted, m.lt.length ≤ 1) : (pgF s).length ≤ 7880 := by
  have c1 := l_say
  have c2 := l_bl
  have c3 := l_emp
  have c4 := l_note
  have c5 := l_song
  unfold pgF
  refine Nat.le_trans (joinc_len nl_S _) ?_
  rw [tot_cons]
  have hh : (headF s).length ≤ 86 := by
    have k1 := sI_len tl.e
    have k2 := sI_len tl.c
    rw [← out_song]
    simp only [ap_len]; omega
  have ep : tot ((srtF (psF s)).map Prod.snd) = tot ((psF s).map Prod.snd) := tot_perm ((List.mergeSort_perm _ _).map _)
  rw [ep]
  unfold psF
  rw [List.map_append, tot_app, List.map_map, List.map_map]
  have t1 : tot (s.said.map (Prod.snd ∘ fun r => (r.num, rowS r))) ≤ (176 + 1) * (s.said.map (Prod.snd ∘ fun r => (r.num, rowS r))).length := tot_le fun z hz => by
    obtain ⟨r, hr, rfl⟩ := List.mem_map.mp hz
    obtain ⟨tn, t1, t2, t3⟩ := tl.a r hr
    have k0 := sI_len tn
    have k1 := sI_len t1
    have k2 := sI_len t2
    have k3 := sI_len t3
    have k4 := way_le r.sy.t
    show (rowS r).length ≤ 176
    rw [← out_say]
    simp only [ap_len]; omega
  have t2 : tot (s.noted.map (Prod.snd ∘ fun m => (m.num, rowM m))) ≤ (129 + 1) * (s.noted.map (Prod.snd ∘ fun m => (m.num, rowM m))).length := tot_le fun z hz => by
    obtain ⟨m, hm, rfl⟩ := List.mem_map.mp hz
    obtain ⟨tn, t1, t2, k5⟩ := tl.b m hm
    have k0 := sI_len tn
    have k1 := sI_len t1
    have k2 := sI_len t2
    have k3 := lt m hm
    show (rowM m).length ≤ 129
    rw [← out_note]
    simp only [ap_len]; omega
  rw [List.length_map] at t1 t2
  omega
/-- the model, and the script -/
structure M41 (a1 m : Addr) (ns : List Int) (H : Hp) (pa aa : Addr) (past : List Sht) (now : Sht) (ahead : List Sht) (n : Nat) : Prop where
  ea : H a1 = some (.lst (ns.map V.int))
  md : MdAt (fun c => c = a1) pa aa H m past now ahead
  gs : GsA (n : Int) past now ahead
  ln : past.length + ahead.length ≤ n
  x1 : a1 ≠ pa ∧ a1 ≠ aa
section
variable {a1 m pa aa aa' : Addr} {ns : List Int} {H H' : Hp} {past ahead : List Sht} {now : Sht} {n : Nat} {de : De} {r : Res}
theorem M41.same (h : M41 a1 m ns H pa aa past now ahead n) (s : Same H H') : M41 a1 m ns H' pa aa past now ahead n := ⟨s _ _ h.ea, h.md.same s, h.gs, h.ln, h.x1⟩
theorem M41.nx (h : M41 a1 m ns H pa aa past now ahead n) : NX (fun c => c = a1) H := fun c z => ⟨_, (congrArg H (show c = a1 from z)).trans h.ea⟩
theorem M41.step (h : M41 a1 m ns H pa aa past now ahead n) (f : FrM m pa aa H H') (ha : aa' = aa ∨ H aa' = none) (hr : RStp past now ahead de r) (md : MdAt (fun c => c = a1) pa aa' H' m (resB past now ahead r).1 (resB past now ahead r).2.1 (resB past now ahead r).2.2) : M41 a1 m ns H' pa aa' (resB past now ahead r).1 (resB past now ahead r).2.1 (resB past now ahead r).2.2 (n + 1) := by
  obtain ⟨tv, ps, as, h1, h2, h3, h4, h5, h6, h7⟩ := h.md.ex
  have w4 := (hr.wf h.gs.n.w (fun s hs => (h.gs.p s hs).w) (fun s hs => (h.gs.a s hs).w)).2.2.2
  have l := h.ln
  have en : ((n + 1 : Nat) : Int) = (n : Int) + 1 := by omega
  refine ⟨f _ _ h.ea (fun z => ?_) h.x1.1 h.x1.2, md, by rw [en]; exact h.gs.step hr, by omega, h.x1.1, fun z => ?_⟩
  · have e := h.ea; rw [z, h1] at e; cases e
  · rcases ha with e | e
    · exact h.x1.2 (z.trans e)
    · have e1 := h.ea; rw [z, e] at e1; cases e1
end
/-- a state that may be told -/
structure Crd (s : Sht) : Prop where
  tl : Tl s
  l1 : s.said.length ≤ 25
  l2 : s.noted.length ≤ 25
  lt : ∀ m ∈ s.noted, m.lt.length ≤ 1
def bnd : Nat → Nat
  | 0 => 7880
  | n + 1 => 5 * bnd n + 300
theorem bnd_le {j : Nat} (h : j ≤ 2) : bnd j ≤ 199000 := by
  have : ∀ j, j < 3 → bnd j ≤ 199000 := by decide
  exact this j (by omega)
theorem bnd_3 {j : Nat} (h : j ≤ 3) : bnd j ≤ 1000000 := by
  have : ∀ j, j < 4 → bnd j ≤ 1000000 := by decide
  exact this j (by omega)
/-- a whole right page has no wrong row; two first wrong rows are one -/
theorem Reach.no {rows : List Str} {s : Sht} {i : Nat} {o : Option Sht} {row : Str} (h : Reach rows rows.length (some s)) (k : Reach rows i o) (hr : rows[i]? = some row) (nn : ¬ ∃ s', StpR row s' o) : False := nn (h.go k (List.getElem?_eq_some_iff.mp hr).1 hr)
theorem Reach.one {rows : List Str} {i j : Nat} {o p : Option Sht} {row row' : Str} (h : Reach rows i o) (hr : rows[i]? = some row) (nn : ¬ ∃ s', StpR row s' o) (h' : Reach rows j p) (hr' : rows[j]? = some row') (nn' : ¬ ∃ s', StpR row' s' p) : i = j := by
  rcases Nat.lt_trichotomy i j with l | l | l
  · exact (nn (h'.go h l hr)).elim
  · exact l
  · exact (nn' (h.go h' l hr')).elim
theorem RdOk.wf {s : Sht} (h : RdOk s) : Wf s := ⟨List.pairwise_map.mpr h.s1, List.pairwise_map.mpr h.s2, fun r hr => (h.a r hr).2.1, fun m hm => (h.b m hm).2.1, h.l1, h.l2, fun m hm => (h.b m hm).2.2.1, h.e⟩
theorem em_md (tv : V) (pa aa : Addr) : mergeK [] (mdK tv pa aa) = mdK tv pa aa := by
  unfold mergeK mdK
  simp only [List.foldl_cons, List.foldl_nil]
  have p1 : putK ([] : List (Key × V)) (Sum.inr "now") tv = ([((Sum.inr ("now" : Str) : Key), tv)] : List (Key × V)) := rfl
  have p2 : putK ([((Sum.inr ("now" : Str) : Key), tv)] : List (Key × V)) (Sum.inr "past") (V.ref pa) = ([((Sum.inr ("now" : Str) : Key), tv), ((Sum.inr ("past" : Str) : Key), V.ref pa)] : List (Key × V)) := by
    unfold putK
    rw [if_neg (by have := kk.1; simpa using this)]; rfl
  have p3 : putK ([((Sum.inr ("now" : Str) : Key), tv), ((Sum.inr ("past" : Str) : Key), V.ref pa)] : List (Key × V)) (Sum.inr "ahead") (V.ref aa) = ([((Sum.inr ("now" : Str) : Key), tv), ((Sum.inr ("past" : Str) : Key), V.ref pa), ((Sum.inr ("ahead" : Str) : Key), V.ref aa)] : List (Key × V)) := by
    unfold putK
    rw [if_neg (by have h1 := kk.2.1; have h2 := kk.2.2; simp at h1 h2 ⊢; exact ⟨h1, h2⟩)]; rfl
  rw [p1, p2, p3]
theorem md_there {N : Addr → Prop} {H0 H' : Hp} {m pa aa : Addr} {tv : V} {s0 : Sht} (st : StAt N H0 tv s0) (np : H0 pa = none) (na : H0 aa = none) (s : Same H0 H') (hm : H' m = some (.dK (mdK tv pa aa))) (hp : H' pa = some (.lst [])) (ha : H' aa = some (.lst [])) (ne : pa ≠ aa) : MdAt N pa aa H' m [] s0 [] :=
  ⟨tv, [], [], hm, (st.more (M := Nn N pa aa) fun a xs z e => by
    rcases z with z | z | z
    · rw [z, np] at e; cases e
    · rw [z, na] at e; cases e
    · exact z).same s, hp, LL.nil, ha, LL.nil, ne⟩
theorem cut63 {xs : List V} (h : xs.length ≤ 63) : cutV xs none (some 63) = xs := by
  rw [show (63 : Int) = ((63 : Nat) : Int) from rfl, cut_take, List.take_of_length_le h]
/-- crowded rows -/
def rwC (e : Int) (i : Nat) : Rw := ⟨0 + (i : Int) + 1, ⟨0, (0 + (i : Int)) % e, 1, false⟩⟩
def meC (e : Int) (i : Nat) : Me := ⟨0 + (i : Int) + 25, "q", (0 + (i : Int)) % e, 1⟩
theorem len_z : ("z" : Str).length ≤ 1 := by decide +kernel
theorem len_q : ("q" : Str).length ≤ 1 := by decide +kernel
theorem tn_small {i : Int} (h0 : 0 ≤ i) (h1 : i ≤ 1000) : Tn i := ⟨h0, Int.lt_of_le_of_lt h1 (by decide)⟩
theorem crd_of {e c : Int} (he : In40 e) (h1 : 0 < e) (c0 : 0 ≤ c) (c1 : c ≤ 100) {rs : List Rw} {ms : List Me} (hr : rs = [] ∨ rs = [⟨49, ⟨0, 0, 1, true⟩⟩]) (hm : ms = [] ∨ ms = [⟨49, "z", 0, 1⟩]) : Crd ⟨e, c, (List.range 24).map (rwC e) ++ rs, (List.range 24).map (meC e) ++ ms⟩ := by
  have he2 : e < 10 ^ 40 := he.2
  have tm : ∀ i : Nat, Tn ((0 + (i : Int)) % e) := fun i => by
    have q0 := Int.emod_nonneg (0 + (i : Int)) (show e ≠ 0 by omega)
    have q1 := Int.emod_lt_of_pos (0 + (i : Int)) h1
    exact ⟨q0, by omega⟩
  have lr : rs.length ≤ 1 := by rcases hr with rfl | rfl <;> decide
  have lm : ms.length ≤ 1 := by rcases hm with rfl | rfl <;> decide
  refine ⟨⟨he, tn_small c0 (show c ≤ 1000 by omega), fun r hr' => ?_, fun m hm' => ?_⟩, ?_, ?_, fun m hm' => ?_⟩
  · rcases List.mem_append.mp hr' with z | z
    · obtain ⟨i, hi, rfl⟩ := List.mem_map.mp z
      have hi := List.mem_range.mp hi
      exact ⟨tn_small (by show 0 ≤ 0 + (i : Int) + 1; omega) (by show 0 + (i : Int) + 1 ≤ 1000; omega), tn_small (i := 0) (by decide) (by decide), tm i, tn_small (i := 1) (by decide) (by decide)⟩
    · rcases hr with rfl | rfl
      · cases z
      · rw [List.mem_singleton.mp z]
        exact ⟨tn_small (by decide) (by decide), tn_small (by decide) (by decide), tn_small (by decide) (by decide), tn_small (by decide) (by decide)⟩
  · rcases List.mem_append.mp hm' with z | z
    · obtain ⟨i, hi, rfl⟩ := List.mem_map.mp z
      have hi := List.mem_range.mp hi
      exact ⟨tn_small (by show 0 ≤ 0 + (i : Int) + 25; omega) (by show 0 + (i : Int) + 25 ≤ 1000; omega), tm i, tn_small (i := 1) (by decide) (by decide), Nat.le_trans len_q (by decide)⟩
    · rcases hm with rfl | rfl
      · cases z
      · rw [List.mem_singleton.mp z]
        exact ⟨tn_small (by decide) (by decide), tn_small (by decide) (by decide), tn_small (by decide) (by decide), Nat.le_trans len_z (by decide)⟩
  · rw [List.length_append, List.length_map, List.length_range]; omega
  · rw [List.length_append, List.length_map, List.length_range]; omega
  · rcases List.mem_append.mp hm' with z | z
    · obtain ⟨i, hi, rfl⟩ := List.mem_map.mp z
      exact len_q
    · rcases hm with rfl | rfl
      · cases z
      · rw [List.mem_singleton.mp z]; exact len_z
end Rep
namespace Rep
open PySem L2 L2H RepHot
abbrev nLaw : List Str := ["_law_script", "_law_figures", "_law_length", "_law_crowd", "_law_many", "_law_model", "_law_k", "_law_state", "_law_rows", "_law_notes", "_law_more", "_law_text", "_law_due", "_law_at", "_law_made", "_law_word"]
theorem scLaw : FnScope nLaw ["_law_script"] (defScope sLaw) := ⟨rfl, rfl, rfl, by decide +kernel, rfl, by decide +kernel, by decide +kernel⟩
structure TLaw41 (Pg : Program) (w : World) (K : PySem.W.Frag) (mg : Str → Option Value) (base : Heap) (BK S fD fN fLb fDm fGd fLp fSp fDp fRd fE fSt : Addr) (fdD fdN fdLb fdDm fdGd fdLp fdSp fdDp fdRd fdE fdSt : FuncData) : Prop where
  gD : FnOk Pg w K mg base CX0 7 fD fdD ["_law_script", "_law_k", "_law_sizes"] (spDig K)
  bD : Binds K fdD ["_law_script", "_law_k", "_law_sizes"] []
  kD : PySem.W.keepIn K (.ref fD) = true
  mD : mg "_law_digits" = some (.ref fD)
  gN : FnOk Pg w K mg base CX0 7 fN fdN ["_law_figures"] (spTen)
  bN : Binds K fdN ["_law_figures"] []
  kN : PySem.W.keepIn K (.ref fN) = true
  mN : mg "_law_ten" = some (.ref fN)
  gLb : FnOk Pg w K mg base CX0 8 fLb fdLb ["_law_length"] (spLb)
  bLb : Binds K fdLb ["_law_length"] []
  kLb : PySem.W.keepIn K (.ref fLb) = true
  mLb : mg "_law_book" = some (.ref fLb)
  gDm : FnOk Pg w K mg base CX0 10 fDm fdDm ["_law_book_here", "_law_deed_here"] (spDm)
  bDm : Binds K fdDm ["_law_book_here", "_law_deed_here"] []
  kDm : PySem.W.keepIn K (.ref fDm) = true
  mDm : mg "_law_do_model" = some (.ref fDm)
  gGd : FnOk Pg w K mg base CX0 9 fGd fdGd ["_law_script", "_law_k", "_law_state"] (spGd K)
  bGd : Binds K fdGd ["_law_script", "_law_k", "_law_state"] []
  kGd : PySem.W.keepIn K (.ref fGd) = true
  mGd : mg "_law_great_deed" = some (.ref fGd)
  gLp : FnOk Pg w K mg base CX0 8 fLp fdLp ["_law_state"] (spLpt)
  bLp : Binds K fdLp ["_law_state"] []
  kLp : PySem.W.keepIn K (.ref fLp) = true
  mLp : mg "_law_page_text" = some (.ref fLp)
  gSp : FnOk Pg w K mg base CX0 8 fSp fdSp ["_law_script", "_law_k", "_law_text"] (spSpl K)
  bSp : Binds K fdSp ["_law_script", "_law_k", "_law_text"] []
  kSp : PySem.W.keepIn K (.ref fSp) = true
  mSp : mg "_law_spoilt_text" = some (.ref fSp)
  gDp : FnOk Pg w K mg base CX0 11 fDp fdDp ["_law_text"] (spDp)
  bDp : Binds K fdDp ["_law_text"] []
  kDp : PySem.W.keepIn K (.ref fDp) = true
  mDp : mg "_law_due_page" = some (.ref fDp)
  gRd : FnOk Pg w K mg base CX0 13 fRd fdRd ["_law_text"] (spRl BK S)
  bRd : Binds K fdRd ["_law_text"] []
  kRd : PySem.W.keepIn K (.ref fRd) = true
  mRd : mg "_law_read" = some (.ref fRd)
  gE : FnOk Pg w K mg base CX0 7 fE fdE ["_law_told", "_law_due"] (spSame 7)
  bE : Binds K fdE ["_law_told", "_law_due"] []
  kE : PySem.W.keepIn K (.ref fE) = true
  mE : mg "_law_same" = some (.ref fE)
  gSt : FnOk Pg w K mg base CX0 9 fSt fdSt ["_law_book_here", "_law_model"] (spStd BK S)
  bSt : Binds K fdSt ["_law_book_here", "_law_model"] []
  kSt : PySem.W.keepIn K (.ref fSt) = true
  mSt : mg "_law_stands" = some (.ref fSt)
  mR : mg "range" = none
section
variable {Pg : Program} {w : World} {K : PySem.W.Frag} {mg : Str → Option Value} {base : Heap}
theorem ok_law41 {f BK S fD fN fLb fDm fGd fLp fSp fDp fRd fE fSt : Addr} {fd fdD fdN fdLb fdDm fdGd fdLp fdSp fdDp fdRd fdE fdSt : FuncData} (F : Fun K "law" "law" sLaw f fd) (T : TLaw41 Pg w K mg base BK S fD fN fLb fDm fGd fLp fSp fDp fRd fE fSt fdD fdN fdLb fdDm fdGd fdLp fdSp fdDp fdRd fdE fdSt) : FnOk Pg w K mg base CX0 14 f fd ["_law_script"] (spLawB K) := by
  refine F.ok scLaw (fun vs H Q E h => ?_) (fun cdv A outer s H vs Q E hr h => ?_)
  · obtain ⟨a, ns, rfl, _⟩ := h; rfl
  obtain ⟨a, ns, rfl, hS, h63, q⟩ := h
  have r13 : Room 13 _ := hr
  have r11 : Room 11 _ := hr.mono (by decide)
  have r10 : Room 10 _ := hr.mono (by decide)
  have r9 : Room 9 _ := hr.mono (by decide)
  have r8 : Room 8 _ := hr.mono (by decide)
  have r7 : Room 7 _ := hr.mono (by decide)
  have hu := hu_of hr
  refine ⟨_, (C8.pss_cut (ps_set (i := 0) scLaw.nd rfl (.inl rfl) (pe_slice sl_list (pv 0) po_none (po_some pe_int)))
    (C8.pss_cut (ps_asg (pe_call T.gD r7 (by rfl) T.mD T.kD T.bD .nil pass0 (pa_cons (pv 0) (pa_cons pe_int (pa_cons (pe_lst (pa_cons pe_int (pa_cons (pe_op op_pow pe_int pe_int) (pa_cons pe_int (pa_cons pe_int pa_nil))))) pa_nil)))) (pg_lst rfl (pgs_cons (pg_name (i := 1) scLaw.nd rfl (.inl rfl)) (pgs_cons (pg_name (i := 2) scLaw.nd rfl (.inl rfl)) (pgs_cons (pg_name (i := 3) scLaw.nd rfl (.inl rfl)) (pgs_cons (pg_name (i := 4) scLaw.nd rfl (.inl rfl)) pgs_nil))))))
    (C8.pss_cut (ps_set (i := 2) scLaw.nd rfl (.inl rfl) (pe_op op_mod (pv 2) (pe_call T.gN r7 (by rfl) T.mN T.kN T.bN .nil pass0 (pa_cons (pv 1) pa_nil))))
    (C8.pss_cut (ps_set (i := 5) scLaw.nd rfl (.inl rfl) (pe_call T.gLb r8 (by rfl) T.mLb T.kLb T.bLb .nil pass0 (pa_cons (pv 2) pa_nil)))
    (C8.pss_cut (ps_for PassesOwn.never rfl (pi_range1 rfl T.mR (pa_cons pe_int pa_nil)) (pg_name (i := 6) scLaw.nd rfl (.inl rfl))
      (pss_one (ps_expr (pe_call T.gDm r10 (by rfl) T.mDm T.kDm T.bDm .nil pass0 (pa_cons (pv 5) (pa_cons (pe_call T.gGd r9 (by rfl) T.mGd T.kGd T.bGd .nil pass0 (pa_cons (pv 0) (pa_cons (pe_op op_add pe_int (pv 6)) (pa_cons (pe_dget hu (pv 5) pe_str (fun _ _ => rfl)) pa_nil)))) pa_nil))))))
    (C8.pss_cut (ps_set (i := 7) scLaw.nd rfl (.inr rfl) (pe_dget hu (pv 5) pe_str (fun _ _ => rfl)))
    (C8.pss_cut (ps_if (PW.pt (pw_and (pt_cmpR op_lt (pv 3) pe_int (nomark _)) (pw_and1 (pt_cmpR op_gt (pe_ix ix_tup (pv 7) pe_int (fun _ _ => rfl)) pe_int (nomark _))))) (C8.pss_cut (ps_setLc (i := 8) (own := [("_law_k", 6)]) (g := (gName 6)) (tt := tYes) (te := (tTup (tCons (tOp (rI0 fun i j => .int (i + j)) (tVar 6) (tC (.int 1))) (tCons (tC (.int 0)) (tCons (tOp (rI (fun _ j => 0 < j) fun i j => .int (i % j)) (tVar 6) (tOp (rIxT K) (tVar 7) (tC (.int 0)))) (tCons (tC (.int 1)) (tCons (tC (.bl false)) tNil))))))) rfl scLaw.nd rfl rfl (sw_true rfl rfl rfl (by decide +kernel)) (pi_range1 rfl T.mR (pa_cons pe_int pa_nil)) (blkOk_by (N := nLaw) (sc := defScope sLaw) (by decide +kernel)) (fun _ _ _ _ _ => (pg_name (i := 6) scLaw.nd rfl (.inl rfl))) (fun _ _ _ _ _ => pts_nil) (fun _ _ _ _ _ => (pe_tup (pa_cons (pe_op op_add (pv 6) pe_int) (pa_cons pe_int (pa_cons (pe_op op_mod (pv 6) (pe_ix ix_tup (pv 7) pe_int (fun _ _ => rfl))) (pa_cons pe_int (pa_cons pe_bl pa_nil))))))))
    (C8.pss_cut (ps_setLc (i := 9) (own := [("_law_k", 6)]) (g := (gName 6)) (tt := tYes) (te := (tTup (tCons (tOp (rI0 fun i j => .int (i + j)) (tVar 6) (tC (.int 25))) (tCons (tC (.str "q")) (tCons (tOp (rI (fun _ j => 0 < j) fun i j => .int (i % j)) (tVar 6) (tOp (rIxT K) (tVar 7) (tC (.int 0)))) (tCons (tC (.int 1)) tNil)))))) rfl scLaw.nd rfl rfl (sw_true rfl rfl rfl (by decide +kernel)) (pi_range1 rfl T.mR (pa_cons pe_int pa_nil)) (blkOk_by (N := nLaw) (sc := defScope sLaw) (by decide +kernel)) (fun _ _ _ _ _ => (pg_name (i := 6) scLaw.nd rfl (.inl rfl))) (fun _ _ _ _ _ => pts_nil) (fun _ _ _ _ _ => (pe_tup (pa_cons (pe_op op_add (pv 6) pe_int) (pa_cons pe_str (pa_cons (pe_op op_mod (pv 6) (pe_ix ix_tup (pv 7) pe_int (fun _ _ => rfl))) (pa_cons pe_int pa_nil)))))))
    (C8.pss_cut (ps_set (i := 10) scLaw.nd rfl (.inl rfl) (pe_ix ix_list (pe_lst (pa_cons (pe_lst (pa_cons (pe_tup (pa_cons pe_int (pa_cons pe_int (pa_cons pe_int (pa_cons pe_int (pa_cons pe_bl pa_nil)))))) pa_nil)) (pa_cons (pe_lst (pa_cons (pe_tup (pa_cons pe_int (pa_cons pe_str (pa_cons pe_int (pa_cons pe_int pa_nil))))) pa_nil)) pa_nil))) (pv 3) (fun _ _ => rfl)))
    (pss_one (ps_set (i := 7) scLaw.nd rfl (.inr rfl) (pe_tup (pa_cons (pe_ix ix_tup (pv 7) pe_int (fun _ _ => rfl)) (pa_cons (pe_op op_add pe_int (pv 3)) (pa_cons (pe_op op_cat (pv 8) (pe_op op_rep (pv 10) (pe_op op_sub pe_int (pv 3)))) (pa_cons (pe_op op_cat (pv 9) (pe_op op_rep (pv 10) (pv 3))) pa_nil)))))))))) pss_nil)
    (C8.pss_cut (ps_set (i := 11) scLaw.nd rfl (.inl rfl) (pe_call T.gLp r8 (by rfl) T.mLp T.kLp T.bLp .nil pass0 (pa_cons (pv 7) pa_nil)))
    (C8.pss_cut (ps_for PassesOwn.never rfl (pi_range1 rfl T.mR (pa_cons (pv 4) pa_nil)) (pg_name (i := 6) scLaw.nd rfl (.inl rfl))
      (pss_one (ps_set (i := 11) scLaw.nd rfl (.inl rfl) (pe_call T.gSp r8 (by rfl) T.mSp T.kSp T.bSp .nil pass0 (pa_cons (pv 0) (pa_cons (pe_op op_add pe_int (pv 6)) (pa_cons (pv 11) pa_nil)))))))
    (C8.pss_cut (ps_set (i := 12) scLaw.nd rfl (.inl rfl) (pe_call T.gDp r11 (by rfl) T.mDp T.kDp T.bDp .nil pass0 (pa_cons (pv 11) pa_nil)))
    (C8.pss_cut (ps_asg (pe_call T.gRd r13 (by rfl) T.mRd T.kRd T.bRd .nil pass0 (pa_cons (pv 11) pa_nil)) (pg_tup rfl (pgs_cons (pg_name (i := 13) scLaw.nd rfl (.inl rfl)) (pgs_cons (pg_name (i := 14) scLaw.nd rfl (.inl rfl)) (pgs_cons (pg_name (i := 15) scLaw.nd rfl (.inl rfl)) pgs_nil)))))
    (C8.pss_cut (ps_if (PW.pt (pw_or (pt_not (pt_val (pe_call T.gE r7 (by rfl) T.mE T.kE T.bE .nil pass0 (pa_cons (pv 13) (pa_cons (pe_ix ix_tup (pv 12) pe_int (fun _ _ => rfl)) pa_nil))))) (pw_or1 (pt_cmpR op_ne (pe_cmpR op_isN (pv 14) pe_non (nomark _)) (pe_cmpR op_isN (pe_ix ix_tup (pv 12) pe_int (fun _ _ => rfl)) pe_non (nomark _)) (nomark _))))) (pss_one (ps_ret pe_bl)) pss_nil)
    (C8.pss_cut (ps_if (pt_cmpR op_isN (pv 14) pe_non (nomark _)) (pss_one (ps_ret (pe_cmpR op_eq (pv 15) pe_str (nomark _)))) pss_nil)
    (pss_one (ps_ret (pe_call T.gSt r9 (by rfl) T.mSt T.kSt T.bSt .nil pass0 (pa_cons (pv 14) (pa_cons (pe_disp (pps_cons pe_str (pe_ix ix_tup (pv 12) pe_int (fun _ _ => rfl)) (pps_cons pe_str (pe_lst pa_nil) (pps_cons pe_str (pe_lst pa_nil) pps_nil))) rfl rfl (by simp) (by decide)) pa_nil)))))))))))))))))), ?_⟩
  have hlV : (ns.map V.int).length ≤ 63 := by rw [List.length_map]; exact h63
  refine ⟨fun σ' H' => ∃ a1, σ' = [some (.ref a1), none, none, none, none, none, none, none, none, none, none, none, none, none, none, none] ∧ H' a1 = some (.lst (ns.map V.int)), ?_, ?_⟩
  · refine ⟨.ref a, rfl, 63, rfl, a, ns.map V.int, rfl, hS, fun a1 n1 => ?_⟩
    rw [cut63 hlV]
    exact ⟨a1, rfl, upd_same⟩
  rintro σ' H1 ⟨a1, rfl, e1⟩
  -- drawn
  refine ⟨fun σ' H' => ∃ (g : Nat) (l cr mn : Int), σ' = [some (.ref a1), some (.int (g : Int)), some (.int l), some (.int cr), some (.int mn), none, none, none, none, none, none, none, none, none, none, none] ∧ H' a1 = some (.lst (ns.map V.int)) ∧ g ≤ 40 ∧ 0 ≤ l ∧ l < 10 ^ 40 ∧ 0 ≤ cr ∧ 0 ≤ mn ∧ mn < 4, ?_, ?_⟩
  · refine ⟨.ref a1, rfl, 10, 40, rfl, rfl, p40, ?_⟩
    refine ⟨szN 4 rfl, fun l1 n_l1 => ?_⟩
    generalize e_l1 : upd H1 l1 _ = H2
    have s2 := new_same e_l1 n_l1
    have z2 := new_at e_l1
    clear e_l1
    refine ⟨a1, l1, ns, [41, (10 : Int) ^ (40 : Int).toNat, 6, 4], 0, rfl, .inl (.inl (s2 _ _ e1)), h63, .inl (.inl z2), by show 4 ≤ 1000; decide, dgc ⟨by decide, by decide⟩ (dgc dgT (dgc ⟨by decide, by decide⟩ (dgc ⟨by decide, by decide⟩ dg0))), fun H3 pd s3 np ep => ?_⟩
    generalize rawF ns 0 = ra at ep
    have tp : (10 : Int) ^ (40 : Int).toNat = 10 ^ 40 := rfl
    have ep : H3 pd = some (.lst [.int (ra % 41), .int (ra / 41 % 10 ^ (40 : Int).toNat), .int (ra / 41 / 10 ^ (40 : Int).toNat % 6), .int (ra / 41 / 10 ^ (40 : Int).toNat / 6 % 4)]) := ep
    rw [tp] at ep
    have l0 := Int.emod_nonneg (ra / 41) (show (10 : Int) ^ 40 ≠ 0 by omega)
    have l1' := Int.emod_lt_of_pos (ra / 41) (show (0 : Int) < 10 ^ 40 by omega)
    obtain ⟨g, hg⟩ : ∃ g : Nat, ra % 41 = (g : Int) := ⟨(ra % 41).toNat, by omega⟩
    rw [hg] at ep
    exact ⟨pd, _, rfl, .inl (.inl ep), rfl, _, _, rfl, _, _, rfl, _, _, rfl, _, _, rfl, rfl, g, _, _, _, rfl, s3 _ _ (s2 _ _ e1), by omega, l0, l1', by omega, by omega, by omega⟩
  rintro σ' H2 ⟨g, l, cr, mn, rfl, e2, g40, l0, l1, cr0, mn0, mn4⟩
  clear e1
  refine ⟨fun σ' H' => ∃ L : Int, σ' = [some (.ref a1), some (.int (g : Int)), some (.int L), some (.int cr), some (.int mn), none, none, none, none, none, none, none, none, none, none, none] ∧ H' = H2 ∧ In40 L, ?_, ?_⟩
  · have tg : (0 : Int) < 10 ^ g := Int.pow_pos (by decide)
    have tl : (10 : Int) ^ g ≤ 10 ^ 40 := by
      have h1 : (10 : Nat) ^ g ≤ 10 ^ 40 := Nat.pow_le_pow_right (by decide) g40
      exact_mod_cast h1
    have q0 := Int.emod_nonneg l (show (10 : Int) ^ g ≠ 0 by omega)
    have q1 := Int.emod_lt_of_pos l tg
    exact ⟨.int l, rfl, .int (g : Int), rfl, g, rfl, by omega, _, _, rfl, rfl, tg, _, rfl, rfl, q0, by omega⟩
  rintro σ' H' ⟨L, rfl, eH, hL⟩
  subst eH
  have nx2 : NX (fun c => c = a1) H' := fun c z => ⟨_, (congrArg H' (show c = a1 from z)).trans e2⟩
  -- the model
  refine ⟨fun σ' H3 => ∃ m pa aa, σ' = [some (.ref a1), some (.int (g : Int)), some (.int L), some (.int cr), some (.int mn), some (.ref m), none, none, none, none, none, none, none, none, none, none] ∧ M41 a1 m ns H3 pa aa [] ⟨L, 1, [], []⟩ [] 0, ?_, ?_⟩
  · refine ⟨.int L, rfl, L, rfl, fun H5 m pa aa u5 nm np na md => ⟨m, pa, aa, rfl, ?_⟩⟩
    have w0_ : Wf ⟨L, 1, [], []⟩ := ⟨List.Pairwise.nil, List.Pairwise.nil, fun r hr => (nomatch hr), fun r hr => (nomatch hr), Nat.zero_le _, Nat.zero_le _, fun r hr => (nomatch hr), hL⟩
    have g0 : GsA ((0 : Nat) : Int) [] ⟨L, 1, [], []⟩ [] := ⟨⟨w0_, fit0, ⟨by show (1 : Int) ≤ 1; omega, by show (1 : Int) ≤ 1 + ((0 : Nat) : Int); omega, fun r hr => (nomatch hr), fun r hr => (nomatch hr)⟩⟩, fun s hs => (nomatch hs), fun s hs => (nomatch hs)⟩
    exact ⟨u5 _ _ e2, md _ nx2, g0, Nat.le_refl _, ⟨(fun z => by rw [z, np] at e2; cases e2), (fun z => by rw [z, na] at e2; cases e2)⟩⟩
  clear e2 nx2
  rintro σ' H3 ⟨m, pa0, aa0, rfl, d0⟩
  -- its deeds
  refine ⟨fun σ' H' => ∃ y6 pa aa past now ahead, σ' = [some (.ref a1), some (.int (g : Int)), some (.int L), some (.int cr), some (.int mn), some (.ref m), y6, none, none, none, none, none, none, none, none, none] ∧ M41 a1 m ns H' pa aa past now ahead 25, ?_, ?_⟩
  · refine ⟨25, rfl, by decide, by decide, for_range (lo := 0) (n := ((25 : Int)).toNat) (fun j σ' H' => ∃ y6 pa aa past now ahead, σ' = [some (.ref a1), some (.int (g : Int)), some (.int L), some (.int cr), some (.int mn), some (.ref m), y6, none, none, none, none, none, none, none, none, none] ∧ M41 a1 m ns H' pa aa past now ahead j) ⟨none, pa0, aa0, [], _, [], rfl, d0⟩ (fun j σ' H5 hj hP => ?_) (fun σ' H5 hP => hP)⟩
    clear d0
    obtain ⟨y6, pa, aa, past, now, ahead, rfl, d⟩ := hP
    have hj25 : j < 25 := hj
    obtain ⟨tv, ps, as, h1, h2, h3, h4, h5, h6, h7⟩ := d.md.ex
    refine ⟨.ref m, rfl, .ref a1, rfl, .int (0 + (j : Int)), rfl, _, _, rfl, rfl, .ref m, rfl, m, tv, rfl, .inl ⟨_, .inr "now", .inl h1, rfl, (md_now tv pa aa).symm⟩, a1, ns, _, tv, _, now, rfl, .inl (.inl d.ea), h63, h2, d.gs.n.w, fun HB dv de uB da ok => ?_⟩
    have dB := d.same uB
    refine ⟨_, m, pa, aa, dv, past, now, ahead, de, rfl, dB.md, da, ok, dB.gs.n.w, (fun s hs => (dB.gs.p s hs).w), (fun s hs => (dB.gs.a s hs).w), by have := dB.ln; omega, dB.nx, fun r1 hr1 H9 t9 aa' f2 aa2 ha md2 z9 => ?_⟩
    exact ⟨_, _, _, _, _, _, rfl, dB.step f2 ha hr1 md2⟩
  clear d0
  rintro σ' H4 ⟨y6, pa, aa, past, now, ahead, rfl, d⟩
  obtain ⟨tv, ps, as, h1, h2, h3, h4, h5, h6, h7⟩ := d.md.ex
  have st0 : StAt N0 H4 tv now := h2.more fun a xs z _ => z.elim
  have e4 := d.ea
  have crd0 : Crd now := ⟨d.gs.n.tl (by decide), by have := d.gs.n.w.l1; omega, by have := d.gs.n.w.l2; omega, fun m hm => by rw [(d.gs.n.w.lt m hm).len]; decide⟩
  have hNow := d.gs.n.w.e
  -- its state
  refine ⟨fun σ' H' => σ' = [some (.ref a1), some (.int (g : Int)), some (.int L), some (.int cr), some (.int mn), some (.ref m), y6, some tv, none, none, none, none, none, none, none, none] ∧ H' = H4, ?_, ?_⟩
  · exact ⟨.ref m, rfl, m, tv, rfl, .inl ⟨_, .inr "now", .inl h1, rfl, (md_now tv pa aa).symm⟩, rfl, rfl⟩
  clear h1 h2 h3 h4 h5 h6 h7 d
  rintro σ' H' ⟨rfl, eH⟩
  subst eH
  -- crowded
  refine ⟨fun σ' H5 => ∃ sv s1 y6 y8 y9 y10, σ' = [some (.ref a1), some (.int (g : Int)), some (.int L), some (.int cr), some (.int mn), some (.ref m), y6, some sv, y8, y9, y10, none, none, none, none, none] ∧ Same H' H5 ∧ StAt N0 H5 sv s1 ∧ Crd s1, ?_, ?_⟩
  · have id0 : ∃ sv s1 z6 y8 y9 y10, [some (.ref a1), some (.int (g : Int)), some (.int L), some (.int cr), some (.int mn), some (.ref m), y6, some tv, none, none, none, none, none, none, none, none] = [some (.ref a1), some (.int (g : Int)), some (.int L), some (.int cr), some (.int mn), some (.ref m), z6, some sv, y8, y9, y10, none, none, none, none, none] ∧ Same H' H' ∧ StAt N0 H' sv s1 ∧ Crd s1 := ⟨tv, now, y6, none, none, none, rfl, Same.refl _, st0, crd0⟩
    obtain ⟨t, la, lb, xs, ys, rfl, k2, k3, k4, k5, k6, k7, k8⟩ := id st0.ex
    refine ⟨.int cr, rfl, _, _, rfl, rfl, _, rfl, ite2 (fun c => ?_) (fun c => id0)⟩
    have c2 : cr < 2 := of_decide_eq_true c
    clear c
    refine ⟨.ref t, rfl, t, _, 0, .int now.size, rfl, rfl, .inl (.inl k2), rfl, _, _, rfl, rfl, _, rfl, ite2 (fun c => ?_) (fun c => id0)⟩
    have e0 : 0 < now.size := of_decide_eq_true c
    clear c id0
    have q0 : ∀ i : Nat, (0 : Int) < now.size := fun _ => e0
    refine ⟨fun σ' H6 => ∃ D vs, σ' = [some (.ref a1), some (.int (g : Int)), some (.int L), some (.int cr), some (.int mn), some (.ref m), y6, some (.ref t), some (.ref D), none, none, none, none, none, none, none] ∧ Same H' H6 ∧ H6 D = some (.lst vs) ∧ RL H6 vs ((List.range 24).map (rwC now.size)), ?_, ?_⟩
    · refine ⟨24, rfl, by decide, by decide, fun D nD => ?_⟩
      refine lc_range (lo := 0) (n := 24) (fun i H6 => Same H' H6 ∧ ∃ vs, H6 D = some (.lst vs) ∧ RL H6 vs ((List.range i).map (rwC now.size))) ⟨same_upd nD, [], upd_same, LL.nil⟩ (fun i H6 hi hP => ?_) (fun H6 hP => ?_)
      · obtain ⟨sm, vs, eD, rl⟩ := hP
        have vl : vs.length = i := by rw [rl.len, List.length_map, List.length_range]
        refine ⟨rfl, ?_⟩
        refine tYes_ok ?_
        refine iteT ?_
        refine ⟨.int (0 + (i : Int)), rfl, _, _, rfl, rfl, .int (0 + (i : Int)), rfl, .ref t, rfl, t, _, 0, .int now.size, rfl, rfl, .inl (.inl (sm _ _ k2)), rfl, _, _, rfl, rfl, e0, ?_⟩
        refine ⟨szN 5 rfl, fun t9 n_t9 => ?_⟩
        generalize e_t9 : upd H6 t9 _ = H7
        have s7 := new_same e_t9 n_t9
        have z7 := new_at e_t9
        clear e_t9
        have eD7 := s7 _ _ eD
        refine ⟨vs, eD7, small1000 (by omega), same_over (sm.trans s7) nD, _, upd_same, ?_⟩
        have tsU : TS H7 (upd H7 D (.lst (vs ++ [.ref t9]))) := fun t' xs' e => by rw [upd_ne (fun z => by rw [z, eD7] at e; cases e)]; exact e
        rw [List.range_succ, List.map_append]
        exact LL.snoc ((RL.ts (TS.of s7) rl).imp fun _ _ z => z.ts tsU) ⟨t9, rfl, tsU _ _ z7⟩
      · obtain ⟨sm, vs, eD, rl⟩ := hP
        exact ⟨D, vs, rfl, sm, eD, rl⟩
    rintro σ' H6 ⟨D8, v8, rfl, s6, z8, r8_⟩
    refine ⟨fun σ' H7 => ∃ D vs, σ' = [some (.ref a1), some (.int (g : Int)), some (.int L), some (.int cr), some (.int mn), some (.ref m), y6, some (.ref t), some (.ref D8), some (.ref D), none, none, none, none, none, none] ∧ Same H6 H7 ∧ H7 D = some (.lst vs) ∧ ML H7 vs ((List.range 24).map (meC now.size)), ?_, ?_⟩
    · refine ⟨24, rfl, by decide, by decide, fun D nD => ?_⟩
      refine lc_range (lo := 0) (n := 24) (fun i H7 => Same H6 H7 ∧ ∃ vs, H7 D = some (.lst vs) ∧ ML H7 vs ((List.range i).map (meC now.size))) ⟨same_upd nD, [], upd_same, LL.nil⟩ (fun i H7 hi hP => ?_) (fun H7 hP => ?_)
      · obtain ⟨sm, vs, eD, rl⟩ := hP
        have vl : vs.length = i := by rw [rl.len, List.length_map, List.length_range]
        refine ⟨rfl, ?_⟩
        refine tYes_ok ?_
        refine iteT ?_
        refine ⟨.int (0 + (i : Int)), rfl, _, _, rfl, rfl, .int (0 + (i : Int)), rfl, .ref t, rfl, t, _, 0, .int now.size, rfl, rfl, .inl (.inl (sm _ _ (s6 _ _ k2))), rfl, _, _, rfl, rfl, e0, ?_⟩
        refine ⟨szN 4 rfl, fun t9 n_t9 => ?_⟩
        generalize e_t9 : upd H7 t9 _ = H8
        have s8 := new_same e_t9 n_t9
        have w8 := new_at e_t9
        clear e_t9
        have eD8 := s8 _ _ eD
        refine ⟨vs, eD8, small1000 (by omega), same_over (sm.trans s8) nD, _, upd_same, ?_⟩
        have tsU : TS H8 (upd H8 D (.lst (vs ++ [.ref t9]))) := fun t' xs' e => by rw [upd_ne (fun z => by rw [z, eD8] at e; cases e)]; exact e
        rw [List.range_succ, List.map_append]
        exact LL.snoc ((ML.ts (TS.of s8) rl).imp fun _ _ z => z.ts tsU) ⟨t9, rfl, tsU _ _ w8⟩
      · obtain ⟨sm, vs, eD, rl⟩ := hP
        exact ⟨D, vs, rfl, sm, eD, rl⟩
    rintro σ' H7 ⟨D9, v9, rfl, s7, z9, m9_⟩
    have l8 : v8.length = 24 := by rw [r8_.len, List.length_map, List.length_range]
    have l9 : v9.length = 24 := by rw [m9_.len, List.length_map, List.length_range]
    have s67 := s6.trans s7
    rcases (show cr = 0 ∨ cr = 1 by omega) with rfl | rfl
    · refine ⟨fun σ' H8 => ∃ D t5, σ' = [some (.ref a1), some (.int (g : Int)), some (.int L), some (.int 0), some (.int mn), some (.ref m), y6, some (.ref t), some (.ref D8), some (.ref D9), some (.ref D), none, none, none, none, none] ∧ Same H7 H8 ∧ H8 D = some (.lst [.ref t5]) ∧ H8 t5 = some (.tup [.int 49, .int 0, .int 0, .int 1, .bl true]), ?_, ?_⟩
      · refine ⟨szN 5 rfl, fun t1 n_t1 => ?_⟩
        generalize e_t1 : upd H7 t1 _ = G1
        have u1 := new_same e_t1 n_t1
        have w1 := new_at e_t1
        clear e_t1
        refine ⟨szN 1 rfl, fun p1 n_p1 => ?_⟩
        generalize e_p1 : upd G1 p1 _ = G2
        have u2 := new_same e_p1 n_p1
        have w2 := new_at e_p1
        clear e_p1
        refine ⟨szN 4 rfl, fun t2 n_t2 => ?_⟩
        generalize e_t2 : upd G2 t2 _ = G3
        have u3 := new_same e_t2 n_t2
        have w3 := new_at e_t2
        clear e_t2
        refine ⟨szN 1 rfl, fun p2 n_p2 => ?_⟩
        generalize e_p2 : upd G3 p2 _ = G4
        have u4 := new_same e_p2 n_p2
        have w4 := new_at e_p2
        clear e_p2
        refine ⟨szN 2 rfl, fun p3 n_p3 => ?_⟩
        generalize e_p3 : upd G4 p3 _ = G5
        have u5 := new_same e_p3 n_p3
        have w5 := new_at e_p3
        clear e_p3
        have u15 := u2.trans (u3.trans (u4.trans u5))
        exact ⟨.int 0, rfl, p3, _, 0, .ref p1, rfl, rfl, .inl (.inl w5), rfl, p1, t1, rfl, u1.trans u15, (u3.trans (u4.trans u5)) _ _ w2, u15 _ _ w1⟩
      rintro σ' H8 ⟨D, t5, rfl, s8, zD, zt⟩
      have s78 := s67.trans s8
      refine ⟨.ref t, rfl, t, _, 0, .int now.size, rfl, rfl, .inl (.inl (s78 _ _ k2)), rfl, .int 0, rfl, _, _, rfl, rfl, .ref D8, rfl, .ref D, rfl, .int 0, rfl, _, _, rfl, rfl, D, _, _, rfl, rfl, zD, by decide, by decide, (by show 1 * 1 ≤ sizeLine; decide), ?_⟩
      intro p1 n_p1
      generalize e_p1 : upd H8 p1 _ = G1
      have u1 := new_same e_p1 n_p1
      have w1 := new_at e_p1
      clear e_p1
      have w1 : G1 p1 = some (.lst [.ref t5]) := w1
      refine ⟨D8, p1, _, _, rfl, rfl, (s7.trans (s8.trans u1)) _ _ z8, w1, Nat.le_trans (show _ ≤ 100 by simp only [List.length_cons, List.length_nil]; omega) (by decide), ?_⟩
      intro p2 n_p2
      generalize e_p2 : upd G1 p2 _ = G2
      have u2 := new_same e_p2 n_p2
      have w2 := new_at e_p2
      clear e_p2
      have u12 := u1.trans u2
      refine ⟨.ref D9, rfl, .ref D, rfl, .int 0, rfl, D, _, _, rfl, rfl, u12 _ _ zD, by decide, by decide, (by show 1 * 0 ≤ sizeLine; decide), ?_⟩
      intro p3 n_p3
      generalize e_p3 : upd G2 p3 _ = G3
      have u3 := new_same e_p3 n_p3
      have w3 := new_at e_p3
      clear e_p3
      have w3 : G3 p3 = some (.lst []) := w3
      refine ⟨D9, p3, _, _, rfl, rfl, (s8.trans (u12.trans u3)) _ _ z9, w3, Nat.le_trans (show _ ≤ 100 by simp only [List.length_nil]; omega) (by decide), ?_⟩
      intro p4 n_p4
      generalize e_p4 : upd G3 p4 _ = G4
      have u4 := new_same e_p4 n_p4
      have w4 := new_at e_p4
      clear e_p4
      refine ⟨szN 4 rfl, fun t6 n_t6 => ?_⟩
      generalize e_t6 : upd G4 t6 _ = G5
      have u5 := new_same e_t6 n_t6
      have w5 := new_at e_t6
      clear e_t6
      have u85 := u12.trans (u3.trans (u4.trans u5))
      have u75 := s8.trans u85
      have u65 := s7.trans u75
      refine ⟨_, ⟨now.size, 50, (List.range 24).map (rwC now.size) ++ [⟨49, ⟨0, 0, 1, true⟩⟩], (List.range 24).map (meC now.size) ++ []⟩, _, _, _, _, rfl, s78.trans u85, ⟨t6, p2, p4, v8 ++ [.ref t5], v9 ++ [], rfl, w5, (u3.trans (u4.trans u5)) _ _ w2, (RL.ts (TS.of u65) r8_).snoc ⟨t5, rfl, u85 _ _ zt⟩, u5 _ _ w4, ?_, id, id⟩, crd_of hNow e0 (by decide) (by decide) (.inr rfl) (.inl rfl)⟩
      rw [List.append_nil, List.append_nil]
      exact ML.ts (TS.of u75) m9_
    · refine ⟨fun σ' H8 => ∃ D t5, σ' = [some (.ref a1), some (.int (g : Int)), some (.int L), some (.int 1), some (.int mn), some (.ref m), y6, some (.ref t), some (.ref D8), some (.ref D9), some (.ref D), none, none, none, none, none] ∧ Same H7 H8 ∧ H8 D = some (.lst [.ref t5]) ∧ H8 t5 = some (.tup [.int 49, .str "z", .int 0, .int 1]), ?_, ?_⟩
      · refine ⟨szN 5 rfl, fun t1 n_t1 => ?_⟩
        generalize e_t1 : upd H7 t1 _ = G1
        have u1 := new_same e_t1 n_t1
        have w1 := new_at e_t1
        clear e_t1
        refine ⟨szN 1 rfl, fun p1 n_p1 => ?_⟩
        generalize e_p1 : upd G1 p1 _ = G2
        have u2 := new_same e_p1 n_p1
        have w2 := new_at e_p1
        clear e_p1
        refine ⟨szN 4 rfl, fun t2 n_t2 => ?_⟩
        generalize e_t2 : upd G2 t2 _ = G3
        have u3 := new_same e_t2 n_t2
        have w3 := new_at e_t2
        clear e_t2
        refine ⟨szN 1 rfl, fun p2 n_p2 => ?_⟩
        generalize e_p2 : upd G3 p2 _ = G4
        have u4 := new_same e_p2 n_p2
        have w4 := new_at e_p2
        clear e_p2
        refine ⟨szN 2 rfl, fun p3 n_p3 => ?_⟩
        generalize e_p3 : upd G4 p3 _ = G5
        have u5 := new_same e_p3 n_p3
        have w5 := new_at e_p3
        clear e_p3
        have u15 := u2.trans (u3.trans (u4.trans u5))
        exact ⟨.int 1, rfl, p3, _, 1, .ref p2, rfl, rfl, .inl (.inl w5), rfl, p2, t2, rfl, u1.trans u15, u5 _ _ w4, (u4.trans u5) _ _ w3⟩
      rintro σ' H8 ⟨D, t5, rfl, s8, zD, zt⟩
      have s78 := s67.trans s8
      refine ⟨.ref t, rfl, t, _, 0, .int now.size, rfl, rfl, .inl (.inl (s78 _ _ k2)), rfl, .int 1, rfl, _, _, rfl, rfl, .ref D8, rfl, .ref D, rfl, .int 1, rfl, _, _, rfl, rfl, D, _, _, rfl, rfl, zD, by decide, by decide, (by show 1 * 0 ≤ sizeLine; decide), ?_⟩
      intro p1 n_p1
      generalize e_p1 : upd H8 p1 _ = G1
      have u1 := new_same e_p1 n_p1
      have w1 := new_at e_p1
      clear e_p1
      have w1 : G1 p1 = some (.lst []) := w1
      refine ⟨D8, p1, _, _, rfl, rfl, (s7.trans (s8.trans u1)) _ _ z8, w1, Nat.le_trans (show _ ≤ 100 by simp only [List.length_nil]; omega) (by decide), ?_⟩
      intro p2 n_p2
      generalize e_p2 : upd G1 p2 _ = G2
      have u2 := new_same e_p2 n_p2
      have w2 := new_at e_p2
      clear e_p2
      have u12 := u1.trans u2
      refine ⟨.ref D9, rfl, .ref D, rfl, .int 1, rfl, D, _, _, rfl, rfl, u12 _ _ zD, by decide, by decide, (by show 1 * 1 ≤ sizeLine; decide), ?_⟩
      intro p3 n_p3
      generalize e_p3 : upd G2 p3 _ = G3
      have u3 := new_same e_p3 n_p3
      have w3 := new_at e_p3
      clear e_p3
      have w3 : G3 p3 = some (.lst [.ref t5]) := w3
      refine ⟨D9, p3, _, _, rfl, rfl, (s8.trans (u12.trans u3)) _ _ z9, w3, Nat.le_trans (show _ ≤ 100 by simp only [List.length_cons, List.length_nil]; omega) (by decide), ?_⟩
      intro p4 n_p4
      generalize e_p4 : upd G3 p4 _ = G4
      have u4 := new_same e_p4 n_p4
      have w4 := new_at e_p4
      clear e_p4
      refine ⟨szN 4 rfl, fun t6 n_t6 => ?_⟩
      generalize e_t6 : upd G4 t6 _ = G5
      have u5 := new_same e_t6 n_t6
      have w5 := new_at e_t6
      clear e_t6
      have u85 := u12.trans (u3.trans (u4.trans u5))
      have u75 := s8.trans u85
      have u65 := s7.trans u75
      refine ⟨_, ⟨now.size, 51, (List.range 24).map (rwC now.size) ++ [], (List.range 24).map (meC now.size) ++ [⟨49, "z", 0, 1⟩]⟩, _, _, _, _, rfl, s78.trans u85, ⟨t6, p2, p4, v8 ++ [], v9 ++ [.ref t5], rfl, w5, (u3.trans (u4.trans u5)) _ _ w2, ?_, u5 _ _ w4, (ML.ts (TS.of u75) m9_).snoc ⟨t5, rfl, u85 _ _ zt⟩, id, id⟩, crd_of hNow e0 (by decide) (by decide) (.inl rfl) (.inr rfl)⟩
      rw [List.append_nil, List.append_nil]
      exact RL.ts (TS.of u65) r8_
  clear st0 crd0
  rintro σ' H5 ⟨sv, s1, y6, y8, y9, y10, rfl, s5, st1, crd⟩
  have e5 := s5 _ _ e4
  -- its page
  refine ⟨fun σ' H6 => σ' = [some (.ref a1), some (.int (g : Int)), some (.int L), some (.int cr), some (.int mn), some (.ref m), y6, some sv, y8, y9, y10, some (.str (pgF s1)), none, none, none, none] ∧ Same H5 H6, ?_, ?_⟩
  · exact ⟨sv, rfl, sv, N0, s1, rfl, st1, ⟨crd.l1, crd.l2⟩, crd.tl, fun H6 s6 => ⟨rfl, s6⟩⟩
  rintro σ' H6 ⟨rfl, s6⟩
  have e6 := s6 _ _ e5
  have lp := pg_len crd.tl crd.l1 crd.l2 crd.lt
  -- spoilt
  refine ⟨fun σ' H7 => ∃ y6 x, σ' = [some (.ref a1), some (.int (g : Int)), some (.int L), some (.int cr), some (.int mn), some (.ref m), y6, some sv, y8, y9, y10, some (.str x), none, none, none, none] ∧ x.length ≤ 1000000, ?_, ?_⟩
  · refine ⟨.int mn, rfl, mn, rfl, by omega, by omega, for_range (lo := 0) (n := mn.toNat) (fun j σ' H7 => ∃ y6 x, σ' = [some (.ref a1), some (.int (g : Int)), some (.int L), some (.int cr), some (.int mn), some (.ref m), y6, some sv, y8, y9, y10, some (.str x), none, none, none, none] ∧ x.length ≤ bnd j ∧ H7 a1 = some (.lst (ns.map V.int))) ⟨y6, pgF s1, rfl, lp, e6⟩ (fun j σ' H7 hj hP => ?_) (fun σ' H7 hP => ?_)⟩
    · obtain ⟨y6, x, rfl, lx, e7⟩ := hP
      have hj2 : j ≤ 2 := by omega
      refine ⟨.ref a1, rfl, .int (0 + (j : Int)), rfl, _, _, rfl, rfl, .str x, rfl, a1, ns, _, x, rfl, .inl (.inl e7), h63, Nat.le_trans lx (bnd_le hj2), fun H8 y s8 ly => ?_⟩
      exact ⟨_, y, rfl, Nat.le_trans ly (by show _ ≤ 5 * bnd j + 300; omega), s8 _ _ e7⟩
    · obtain ⟨y6, x, rfl, lx, e7⟩ := hP
      exact ⟨_, x, rfl, Nat.le_trans lx (bnd_3 (by omega))⟩
  clear e4 e5 e6 lp s5 s6
  rintro σ' H7 ⟨y6, x, rfl, lx⟩
  -- what it is to tell
  refine ⟨fun σ' H8 => ∃ p, σ' = [some (.ref a1), some (.int (g : Int)), some (.int L), some (.int cr), some (.int mn), some (.ref m), y6, some sv, y8, y9, y10, some (.str x), some (.ref p), none, none, none] ∧ ((∃ v s_, H8 p = some (.tup [.int (-1), v]) ∧ StAt N0 H8 v s_ ∧ Reach (Txt.split x "\n") (Txt.split x "\n").length (some s_)) ∨ (∃ (k : Nat) (o : Option Sht) (row : Str), H8 p = some (.tup [.int (k : Int), .non]) ∧ Reach (Txt.split x "\n") k o ∧ (Txt.split x "\n")[k]? = some row ∧ ¬ ∃ s', StpR row s' o)), ?_, ?_⟩
  · exact ⟨.str x, rfl, x, rfl, lx, fun s_ rc H8 p v s8 e8 st8 => ⟨p, rfl, .inl ⟨v, s_, e8, st8, rc⟩⟩, fun k o row rc hr_ nn H8 p s8 e8 => ⟨p, rfl, .inr ⟨k, o, row, e8, rc, hr_, nn⟩⟩⟩
  clear st1
  rintro σ' H8 ⟨p, rfl, alt⟩
  -- read
  refine ⟨fun σ' H9 => (∃ b v s_, σ' = [some (.ref a1), some (.int (g : Int)), some (.int L), some (.int cr), some (.int mn), some (.ref m), y6, some sv, y8, y9, y10, some (.str x), some (.ref p), some (.int (-1)), some (.ref b), some (.str "")] ∧ H9 p = some (.tup [.int (-1), v]) ∧ StAt N0 H9 v s_ ∧ BkAt BK S N0 H9 b [s_] 0 .non .non ∧ RdOk s_) ∨ (∃ k : Nat, σ' = [some (.ref a1), some (.int (g : Int)), some (.int L), some (.int cr), some (.int mn), some (.ref m), y6, some sv, y8, y9, y10, some (.str x), some (.ref p), some (.int (k : Int)), some .non, some (.str "BadPage")] ∧ H9 p = some (.tup [.int (k : Int), .non])), ?_, ?_⟩
  · rcases alt with ⟨v, s_, e8, st8, rc⟩ | ⟨k, o, row, e8, rc, hr_, nn⟩
    · refine ⟨.str x, rfl, x, rfl, lx, fun s2 rc2 H9 b t9 s9 nb bk z9 => ?_, fun k o row rc2 hr2 nn2 H9 t9 s9 z9 => ?_⟩
      · obtain rfl : s_ = s2 := Option.some.inj (rc.uniq rc2)
        exact ⟨t9, _, rfl, .inl (.inl z9), rfl, _, _, rfl, _, _, rfl, _, _, rfl, rfl, .inl ⟨b, v, s_, rfl, s9 _ _ e8, st8.same s9, bk, rc.rd⟩⟩
      · exact (rc.no rc2 hr2 nn2).elim
    · refine ⟨.str x, rfl, x, rfl, lx, fun s2 rc2 H9 b t9 s9 nb bk z9 => ?_, fun k2 o2 row2 rc2 hr2 nn2 H9 t9 s9 z9 => ?_⟩
      · exact (rc2.no rc hr_ nn).elim
      · obtain rfl := rc.one hr_ nn rc2 hr2 nn2
        exact ⟨t9, _, rfl, .inl (.inl z9), rfl, _, _, rfl, _, _, rfl, _, _, rfl, rfl, .inr ⟨k, rfl, s9 _ _ e8⟩⟩
  clear alt
  rintro σ' H9 (⟨b, v, s_, rfl, e9, st, bk, rd⟩ | ⟨k, rfl, e9⟩)
  · -- a book
    obtain ⟨t, la, lb, xs, ys, rfl, _⟩ := id st.ex
    refine ⟨fun σ' HA => σ' = [some (.ref a1), some (.int (g : Int)), some (.int L), some (.int cr), some (.int mn), some (.ref m), y6, some sv, y8, y9, y10, some (.str x), some (.ref p), some (.int (-1)), some (.ref b), some (.str "")] ∧ Same H9 HA, ?_, ?_⟩
    · refine ⟨.int (-1), rfl, .ref p, rfl, p, _, 0, .int (-1), rfl, rfl, .inl (.inl e9), rfl, _, _, _, rfl, .int _, .int _, fun HA sA => ⟨true, rfl, iteF ?_⟩⟩
      refine ⟨.ref b, rfl, rfl, .ref p, rfl, p, _, 1, .ref t, rfl, rfl, .inl (.inl (sA _ _ e9)), rfl, rfl, rfl, _, rfl, ?_⟩
      exact iteF' (by simp) ⟨rfl, sA⟩
    rintro σ' HA ⟨rfl, sA⟩
    refine ⟨fun σ' HB => σ' = [some (.ref a1), some (.int (g : Int)), some (.int L), some (.int cr), some (.int mn), some (.ref m), y6, some sv, y8, y9, y10, some (.str x), some (.ref p), some (.int (-1)), some (.ref b), some (.str "")] ∧ HB = HA, ?_, ?_⟩
    · exact ⟨.ref b, rfl, rfl, _, rfl, ite2 (fun y => absurd (of_decide_eq_true y) (by simp)) (fun _ => ⟨rfl, rfl⟩)⟩
    rintro σ' HB ⟨rfl, eH⟩
    subst eH
    have st2 := st.same sA
    have bk2 := bk.same sA
    have e2 := sA _ _ e9
    refine ⟨.ref b, rfl, ?_⟩
    intro m3 nm3
    have sm := same_upd (o := .dK []) nm3
    have zm : upd HB m3 (.dK []) m3 = some (.dK []) := upd_same
    generalize upd HB m3 (.dK []) = HC at sm zm ⊢
    refine ⟨.ref p, rfl, p, _, 1, .ref t, rfl, rfl, .inl (.inl (sm _ _ e2)), rfl, ?_⟩
    refine ⟨szN 0 rfl, fun pa3 n_pa3 => ?_⟩
    generalize e_pa3 : upd HC pa3 _ = HD
    have uB := new_same e_pa3 n_pa3
    have zB := new_at e_pa3
    clear e_pa3
    refine ⟨szN 0 rfl, fun aa3 n_aa3 => ?_⟩
    generalize e_aa3 : upd HD aa3 _ = HE
    have uC := new_same e_aa3 n_aa3
    have zC := new_at e_aa3
    clear e_aa3
    have uBC := uB.trans uC
    refine ⟨uBC _ _ zm, mdK (.ref t) pa3 aa3, rfl, by show 3 ≤ 15; decide, ?_⟩
    rw [em_md]
    have sAC := sm.trans uBC
    have npa : pa3 ≠ m3 := fun z => by rw [z, zm] at n_pa3; cases n_pa3
    have naa : aa3 ≠ m3 := fun z => by rw [z, uB _ _ zm] at n_aa3; cases n_aa3
    have npq : pa3 ≠ aa3 := fun z => by rw [← z, zB] at n_aa3; cases n_aa3
    have sF : Same HB (upd HE m3 (.dK (mdK (.ref t) pa3 aa3))) := same_over sAC nm3
    have fin : ∀ {c : Addr} {o : HO}, HE c = some o → c ≠ m3 → upd HE m3 (.dK (mdK (.ref t) pa3 aa3)) c = some o := fun e n => by rw [upd_ne n]; exact e
    have np9 : HB pa3 = none := Same.free sm n_pa3
    have na9 : HB aa3 = none := Same.free (sm.trans uB) n_aa3
    have md : MdAt N0 pa3 aa3 (upd HE m3 (.dK (mdK (.ref t) pa3 aa3))) m3 [] s_ [] := md_there st2 np9 na9 sF upd_same (fin (uC _ _ zB) npa) (fin zC naa) npq
    have bk3 : BkAt BK S (Nn N0 pa3 aa3) (upd HE m3 (.dK (mdK (.ref t) pa3 aa3))) b [s_] 0 .non .non := (bk2.more (M := Nn N0 pa3 aa3) fun a xs z e => by
      rcases z with z | z | z
      · rw [z, np9] at e; cases e
      · rw [z, na9] at e; cases e
      · exact z).same sF
    exact ⟨N0, b, m3, pa3, aa3, [], s_, [], .non, .non, rfl, ⟨bk3, md⟩, rd.wf, by decide, fun HF _ => q HF⟩
  · -- none
    refine ⟨fun σ' HA => σ' = [some (.ref a1), some (.int (g : Int)), some (.int L), some (.int cr), some (.int mn), some (.ref m), y6, some sv, y8, y9, y10, some (.str x), some (.ref p), some (.int (k : Int)), some .non, some (.str "BadPage")], ?_, ?_⟩
    · refine ⟨.int (k : Int), rfl, .ref p, rfl, p, _, 0, .int (k : Int), rfl, rfl, .inl (.inl e9), rfl, _, _, _, rfl, .int _, .int _, fun HA sA => ⟨true, rfl, iteF ?_⟩⟩
      refine ⟨.non, rfl, rfl, .ref p, rfl, p, _, 1, .non, rfl, rfl, .inl (.inl (sA _ _ e9)), rfl, rfl, rfl, _, rfl, ?_⟩
      exact iteF' (by simp) rfl
    rintro σ' HA rfl
    refine ⟨fun _ _ => False, ?_, fun _ _ h => h.elim⟩
    refine ⟨.non, rfl, rfl, _, rfl, iteT ?_⟩
    refine ⟨.str "BadPage", rfl, rfl, ?_⟩
    exact q HA

end
end Rep
namespace Rep
open PySem PySem.Spec PyProof.Rows L2
/-- the end of a law with tables, from what the head knows of the top -/
theorem walk_top {l : PySem.W.OpenLaw} {n k : Nat} {q : Program} {loose : List Str} {XP : (Str → Option Value) → Heap → Prop} {YP : World → Heap → Prop} {d : DefRec} {K : Params → PySem.W.Frag} {CX : World → CXT} {x : Str}
    (hn : l.most = some n) (hn2 : n ≤ sizeLine) (hdf : d.params.defaults = []) (hr : Room k callerA) (hY : ∀ (w : World) (h : Heap), YP w h → (K w.params).In h)
    (F : ∀ (w : World) (mg mb : Str → Option Value) (mean : ExcName → Option Value) (fa : Addr) (h : Heap), (K w.params).In h → Top q (PySem.W.looseW q loose) mean mg mb h → mg d.name = some (.ref fa) → LamX.LawAtS l w (K w.params) (CX w) k n x mg fa h)
    (hCX : ∀ (w : World) (H : Hp) (s : Shared) (e : Value) (s' : Shared), CX w [] H s (fun _ _ _ => False) e s' → False) :
    PySem.W.WalkO q loose XP YP l.row.toRowW d [] (fun f vs => PySem.call f vs) := by
  refine Att.attach_callB hn hdf fun w s₀ s₁ mg mb fa o pm cd doc a vs ns G Y ho hd hcd hmg hobj hints hlen hbits hg => ?_
  have KX := hY w _ Y
  obtain ⟨fd, cs, sp, hT, nT, C, hb, hsp, hF⟩ := F w mg mb _ fa _ KX G.T hmg
  exact LamX.law_callTs KX G.T.g G.T.b G.T.builtins G.T.nolimit hg hT nT C G.T.bmain hobj hints (Nat.le_trans hlen hn2) hr hF hb (fun H hH hS => hsp H a ns hlen hbits hH hS) fun H e s' => hCX w H s₁ e s'
theorem no_tab {K : PySem.W.Frag} {h : Heap} {P : Addr} (X : K.In h) (hK : PySem.W.noTabs K = true) (hP : h.get? P = some (PySem.W.tabObj #[])) : K.lookup P = none := by
  cases e : K.lookup P with
  | none => rfl
  | some o =>
    have e1 := X P o e
    rw [hP] at e1
    cases e1
    have h2 := List.all_eq_true.mp hK (P, _) (PySem.W.mem_of_lookupK e)
    exact absurd (show false = true from h2) Bool.false_ne_true
end Rep
namespace Rep
open PySem PySem.Spec PyProof.Rows L2 L2H RepHot RepHot2 NdefX
theorem all_mk {l : PySem.W.OpenLaw} {w : World} {K : PySem.W.Frag} {h : Heap} {q : Program} {loose : List Str} {mean : ExcName → Option Value} {mg mb : Str → Option Value} {fa f1 f2 f3 f4 f5 f6 f7 f8 f9 f10 f11 f12 f13 f14 f15 f16 f17 f18 f19 f20 f21 f22 f23 f24 f25 f26 f27 f28 f29 f30 f31 f32 f33 f34 f35 f36 f37 f38 f39 f40 f41 f42 f43 f44 f45 f46 f47 f48 f49 f50 f51 f52 f53 f54 f55 f56 f57 f58 C_Sheet C_Book C_BadLength C_BadStretch C_NoPlace C_NoNumber C_BadLetter C_Full C_InUse C_NothingLeft C_BadPage C_RepriseError C_Unfit : Addr} {fBP ccB cdB NB : Addr} {odB ddB1 ddB2 ddB : Option Addr} {ocB dcB pmB ctB clB1 clB2 : Value} {tfB : Tok} {fileB nmB qB : Str} {slB ssB1 ssB2 : Array (Option Value)} {vsB : Array Value} {bsB bmB suB : List Value} {snB : List Str} {abB : Bool} {colB : Option Bool} {k0B k1B k2B k3B k5B : Option Value}
    (X : K.In h) (TT : Top q loose mean mg mb h) (hfa : mg "law" = some (.ref fa))
    {od1 an1 od2 an2 od3 an3 od4 an4 od5 an5 od6 an6 od7 an7 od8 an8 od9 an9 od10 an10 od11 an11 od12 an12 od13 an13 od14 an14 od15 an15 od16 an16 od17 an17 od18 an18 od19 an19 od20 an20 od21 an21 od22 an22 od23 an23 od24 an24 od25 an25 od26 an26 od27 an27 od28 an28 od29 an29 od30 an30 od31 an31 od32 an32 od33 an33 od34 an34 od35 an35 od36 an36 od37 an37 od38 an38 od39 an39 od40 an40 od41 an41 od42 an42 od43 an43 od44 an44 od45 an45 od46 an46 od47 an47 od48 an48 od49 an49 od50 an50 od51 an51 od52 an52 od53 an53 od54 an54 od55 an55 od56 an56 od57 an57 od58 an58 : Option Addr} {sl1 sl2 sl3 sl4 sl5 sl6 sl7 sl8 sl9 sl10 sl11 sl12 sl13 sl14 sl15 sl16 sl17 sl18 sl19 sl20 sl21 sl22 sl23 sl24 sl25 sl26 sl27 sl28 sl29 sl30 sl31 sl32 sl33 sl34 sl35 sl36 sl37 sl38 sl39 sl40 sl41 sl42 sl43 sl44 sl45 sl46 sl47 sl48 sl49 sl50 sl51 sl52 sl53 sl54 sl55 sl56 sl57 sl58 : Array (Option Value)} {oc1 kV1 dc1 pm1 cd1 ct1 oc2 kV2 dc2 pm2 cd2 ct2 oc3 kV3 dc3 pm3 cd3 ct3 oc4 kV4 dc4 pm4 cd4 ct4 oc5 kV5 dc5 pm5 cd5 ct5 oc6 kV6 dc6 pm6 cd6 ct6 oc7 kV7 dc7 pm7 cd7 ct7 oc8 kV8 dc8 pm8 cd8 ct8 oc9 kV9 dc9 pm9 cd9 ct9 oc10 kV10 dc10 pm10 cd10 ct10 oc11 kV11 dc11 pm11 cd11 ct11 oc12 kV12 dc12 pm12 cd12 ct12 oc13 kV13 dc13 pm13 cd13 ct13 oc14 kV14 dc14 pm14 cd14 ct14 oc15 kV15 dc15 pm15 cd15 ct15 oc16 kV16 dc16 pm16 cd16 ct16 oc17 kV17 dc17 pm17 cd17 ct17 oc18 kV18 dc18 pm18 cd18 ct18 oc19 kV19 dc19 pm19 cd19 ct19 oc20 kV20 dc20 pm20 cd20 ct20 oc21 kV21 dc21 pm21 cd21 ct21 oc22 kV22 dc22 pm22 cd22 ct22 oc23 kV23 dc23 pm23 cd23 ct23 oc24 kV24 dc24 pm24 cd24 ct24 oc25 kV25 dc25 pm25 cd25 ct25 oc26 kV26 dc26 pm26 cd26 ct26 oc27 kV27 dc27 pm27 cd27 ct27 oc28 kV28 dc28 pm28 cd28 ct28 oc29 kV29 dc29 pm29 cd29 ct29 oc30 kV30 dc30 pm30 cd30 ct30 oc31 kV31 dc31 pm31 cd31 ct31 oc32 kV32 dc32 pm32 cd32 ct32 oc33 kV33 dc33 pm33 cd33 ct33 oc34 kV34 dc34 pm34 cd34 ct34 oc35 kV35 dc35 pm35 cd35 ct35 oc36 kV36 dc36 pm36 cd36 ct36 oc37 kV37 dc37 pm37 cd37 ct37 oc38 kV38 dc38 pm38 cd38 ct38 oc39 kV39 dc39 pm39 cd39 ct39 oc40 kV40 dc40 pm40 cd40 ct40 oc41 kV41 dc41 pm41 cd41 ct41 oc42 kV42 dc42 pm42 cd42 ct42 oc43 kV43 dc43 pm43 cd43 ct43 oc44 kV44 dc44 pm44 cd44 ct44 oc45 kV45 dc45 pm45 cd45 ct45 oc46 kV46 dc46 pm46 cd46 ct46 oc47 kV47 dc47 pm47 cd47 ct47 oc48 kV48 dc48 pm48 cd48 ct48 oc49 kV49 dc49 pm49 cd49 ct49 oc50 kV50 dc50 pm50 cd50 ct50 oc51 kV51 dc51 pm51 cd51 ct51 oc52 kV52 dc52 pm52 cd52 ct52 oc53 kV53 dc53 pm53 cd53 ct53 oc54 kV54 dc54 pm54 cd54 ct54 oc55 kV55 dc55 pm55 cd55 ct55 oc56 kV56 dc56 pm56 cd56 ct56 oc57 kV57 dc57 pm57 cd57 ct57 oc58 kV58 dc58 pm58 cd58 ct58 v_TOO_LONG v_MOST v_MOST_FIGURES v_GREATEST_NEXT : Value}
    (aC_Sheet : PySem.W.nsIn K mainGlobals "Sheet" = some (some (.ref C_Sheet)))
    (aC_Book : PySem.W.nsIn K mainGlobals "Book" = some (some (.ref C_Book)))
    (aC_BadLength : PySem.W.nsIn K mainGlobals "BadLength" = some (some (.ref C_BadLength)))
    (aC_BadStretch : PySem.W.nsIn K mainGlobals "BadStretch" = some (some (.ref C_BadStretch)))
    (aC_NoPlace : PySem.W.nsIn K mainGlobals "NoPlace" = some (some (.ref C_NoPlace)))
    (aC_NoNumber : PySem.W.nsIn K mainGlobals "NoNumber" = some (some (.ref C_NoNumber)))
    (aC_BadLetter : PySem.W.nsIn K mainGlobals "BadLetter" = some (some (.ref C_BadLetter)))
    (aC_Full : PySem.W.nsIn K mainGlobals "Full" = some (some (.ref C_Full)))
    (aC_InUse : PySem.W.nsIn K mainGlobals "InUse" = some (some (.ref C_InUse)))
    (aC_NothingLeft : PySem.W.nsIn K mainGlobals "NothingLeft" = some (some (.ref C_NothingLeft)))
    (aC_BadPage : PySem.W.nsIn K mainGlobals "BadPage" = some (some (.ref C_BadPage)))
    (aC_RepriseError : PySem.W.nsIn K mainGlobals "RepriseError" = some (some (.ref C_RepriseError)))
    (aC_Unfit : PySem.W.nsIn K mainGlobals "Unfit" = some (some (.ref C_Unfit)))
    (a1 : PySem.W.nsIn K mainGlobals "check_length" = some (some (.ref f1)))
    (l1 : K.lookup f1 = some ⟨oc1, od1, .func (PySem.W.fnOf "check_length" "check_length" (defArgs sCheck_length) (defBody sCheck_length) (defScope sCheck_length) .none kV1 dc1 pm1 an1 cd1 ct1), sl1⟩)
    (c1 : PySem.W.codeIn K cd1 "check_length" = true)
    (k1 : PySem.W.keepIn K (.ref f1) = true)
    (a2 : PySem.W.nsIn K mainGlobals "check_stretch" = some (some (.ref f2)))
    (l2 : K.lookup f2 = some ⟨oc2, od2, .func (PySem.W.fnOf "check_stretch" "check_stretch" (defArgs sCheck_stretch) (defBody sCheck_stretch) (defScope sCheck_stretch) .none kV2 dc2 pm2 an2 cd2 ct2), sl2⟩)
    (c2 : PySem.W.codeIn K cd2 "check_stretch" = true)
    (k2 : PySem.W.keepIn K (.ref f2) = true)
    (a3 : PySem.W.nsIn K mainGlobals "check_sayings" = some (some (.ref f3)))
    (l3 : K.lookup f3 = some ⟨oc3, od3, .func (PySem.W.fnOf "check_sayings" "check_sayings" (defArgs sCheck_sayings) (defBody sCheck_sayings) (defScope sCheck_sayings) .none kV3 dc3 pm3 an3 cd3 ct3), sl3⟩)
    (c3 : PySem.W.codeIn K cd3 "check_sayings" = true)
    (k3 : PySem.W.keepIn K (.ref f3) = true)
    (a4 : PySem.W.nsIn K mainGlobals "check_letter" = some (some (.ref f4)))
    (l4 : K.lookup f4 = some ⟨oc4, od4, .func (PySem.W.fnOf "check_letter" "check_letter" (defArgs sCheck_letter) (defBody sCheck_letter) (defScope sCheck_letter) .none kV4 dc4 pm4 an4 cd4 ct4), sl4⟩)
    (c4 : PySem.W.codeIn K cd4 "check_letter" = true)
    (k4 : PySem.W.keepIn K (.ref f4) = true)
    (a5 : PySem.W.nsIn K mainGlobals "check_memory" = some (some (.ref f5)))
    (l5 : K.lookup f5 = some ⟨oc5, od5, .func (PySem.W.fnOf "check_memory" "check_memory" (defArgs sCheck_memory) (defBody sCheck_memory) (defScope sCheck_memory) .none kV5 dc5 pm5 an5 cd5 ct5), sl5⟩)
    (c5 : PySem.W.codeIn K cd5 "check_memory" = true)
    (k5 : PySem.W.keepIn K (.ref f5) = true)
    (a6 : PySem.W.nsIn K mainGlobals "place_of" = some (some (.ref f6)))
    (l6 : K.lookup f6 = some ⟨oc6, od6, .func (PySem.W.fnOf "place_of" "place_of" (defArgs sPlace_of) (defBody sPlace_of) (defScope sPlace_of) .none kV6 dc6 pm6 an6 cd6 ct6), sl6⟩)
    (c6 : PySem.W.codeIn K cd6 "place_of" = true)
    (k6 : PySem.W.keepIn K (.ref f6) = true)
    (a7 : PySem.W.nsIn K mainGlobals "without" = some (some (.ref f7)))
    (l7 : K.lookup f7 = some ⟨oc7, od7, .func (PySem.W.fnOf "without" "without" (defArgs sWithout) (defBody sWithout) (defScope sWithout) .none kV7 dc7 pm7 an7 cd7 ct7), sl7⟩)
    (c7 : PySem.W.codeIn K cd7 "without" = true)
    (k7 : PySem.W.keepIn K (.ref f7) = true)
    (a8 : PySem.W.nsIn K mainGlobals "unnumbered" = some (some (.ref f8)))
    (l8 : K.lookup f8 = some ⟨oc8, od8, .func (PySem.W.fnOf "unnumbered" "unnumbered" (defArgs sUnnumbered) (defBody sUnnumbered) (defScope sUnnumbered) .none kV8 dc8 pm8 an8 cd8 ct8), sl8⟩)
    (c8 : PySem.W.codeIn K cd8 "unnumbered" = true)
    (k8 : PySem.W.keepIn K (.ref f8) = true)
    (a9 : PySem.W.nsIn K mainGlobals "check_room" = some (some (.ref f9)))
    (l9 : K.lookup f9 = some ⟨oc9, od9, .func (PySem.W.fnOf "check_room" "check_room" (defArgs sCheck_room) (defBody sCheck_room) (defScope sCheck_room) .none kV9 dc9 pm9 an9 cd9 ct9), sl9⟩)
    (c9 : PySem.W.codeIn K cd9 "check_room" = true)
    (k9 : PySem.W.keepIn K (.ref f9) = true)
    (a10 : PySem.W.nsIn K mainGlobals "check_change" = some (some (.ref f10)))
    (l10 : K.lookup f10 = some ⟨oc10, od10, .func (PySem.W.fnOf "check_change" "check_change" (defArgs sCheck_change) (defBody sCheck_change) (defScope sCheck_change) .none kV10 dc10 pm10 an10 cd10 ct10), sl10⟩)
    (c10 : PySem.W.codeIn K cd10 "check_change" = true)
    (k10 : PySem.W.keepIn K (.ref f10) = true)
    (a11 : PySem.W.nsIn K mainGlobals "book_of" = some (some (.ref f11)))
    (l11 : K.lookup f11 = some ⟨oc11, od11, .func (PySem.W.fnOf "book_of" "book_of" (defArgs sBook_of) (defBody sBook_of) (defScope sBook_of) .none kV11 dc11 pm11 an11 cd11 ct11), sl11⟩)
    (c11 : PySem.W.codeIn K cd11 "book_of" = true)
    (k11 : PySem.W.keepIn K (.ref f11) = true)
    (a12 : PySem.W.nsIn K mainGlobals "words_of" = some (some (.ref f12)))
    (l12 : K.lookup f12 = some ⟨oc12, od12, .func (PySem.W.fnOf "words_of" "words_of" (defArgs sWords_of) (defBody sWords_of) (defScope sWords_of) .none kV12 dc12 pm12 an12 cd12 ct12), sl12⟩)
    (c12 : PySem.W.codeIn K cd12 "words_of" = true)
    (k12 : PySem.W.keepIn K (.ref f12) = true)
    (a13 : PySem.W.nsIn K mainGlobals "number_of" = some (some (.ref f13)))
    (l13 : K.lookup f13 = some ⟨oc13, od13, .func (PySem.W.fnOf "number_of" "number_of" (defArgs sNumber_of) (defBody sNumber_of) (defScope sNumber_of) .none kV13 dc13 pm13 an13 cd13 ct13), sl13⟩)
    (c13 : PySem.W.codeIn K cd13 "number_of" = true)
    (k13 : PySem.W.keepIn K (.ref f13) = true)
    (a14 : PySem.W.nsIn K mainGlobals "turned_of" = some (some (.ref f14)))
    (l14 : K.lookup f14 = some ⟨oc14, od14, .func (PySem.W.fnOf "turned_of" "turned_of" (defArgs sTurned_of) (defBody sTurned_of) (defScope sTurned_of) .none kV14 dc14 pm14 an14 cd14 ct14), sl14⟩)
    (c14 : PySem.W.codeIn K cd14 "turned_of" = true)
    (k14 : PySem.W.keepIn K (.ref f14) = true)
    (a15 : PySem.W.nsIn K mainGlobals "saying_of" = some (some (.ref f15)))
    (l15 : K.lookup f15 = some ⟨oc15, od15, .func (PySem.W.fnOf "saying_of" "saying_of" (defArgs sSaying_of) (defBody sSaying_of) (defScope sSaying_of) .none kV15 dc15 pm15 an15 cd15 ct15), sl15⟩)
    (c15 : PySem.W.codeIn K cd15 "saying_of" = true)
    (k15 : PySem.W.keepIn K (.ref f15) = true)
    (a16 : PySem.W.nsIn K mainGlobals "read" = some (some (.ref f16)))
    (l16 : K.lookup f16 = some ⟨oc16, od16, .func (PySem.W.fnOf "read" "read" (defArgs sRead) (defBody sRead) (defScope sRead) .none kV16 dc16 pm16 an16 cd16 ct16), sl16⟩)
    (c16 : PySem.W.codeIn K cd16 "read" = true)
    (k16 : PySem.W.keepIn K (.ref f16) = true)
    (a17 : PySem.W.nsIn K mainGlobals "first_sheet" = some (some (.ref f17)))
    (l17 : K.lookup f17 = some ⟨oc17, od17, .func (PySem.W.fnOf "first_sheet" "first_sheet" (defArgs sFirst_sheet) (defBody sFirst_sheet) (defScope sFirst_sheet) .none kV17 dc17 pm17 an17 cd17 ct17), sl17⟩)
    (c17 : PySem.W.codeIn K cd17 "first_sheet" = true)
    (k17 : PySem.W.keepIn K (.ref f17) = true)
    (a18 : PySem.W.nsIn K mainGlobals "with_row" = some (some (.ref f18)))
    (l18 : K.lookup f18 = some ⟨oc18, od18, .func (PySem.W.fnOf "with_row" "with_row" (defArgs sWith_row) (defBody sWith_row) (defScope sWith_row) .none kV18 dc18 pm18 an18 cd18 ct18), sl18⟩)
    (c18 : PySem.W.codeIn K cd18 "with_row" = true)
    (k18 : PySem.W.keepIn K (.ref f18) = true)
    (a19 : PySem.W.nsIn K mainGlobals "rising" = some (some (.ref f19)))
    (l19 : K.lookup f19 = some ⟨oc19, od19, .func (PySem.W.fnOf "rising" "rising" (defArgs sRising) (defBody sRising) (defScope sRising) .none kV19 dc19 pm19 an19 cd19 ct19), sl19⟩)
    (c19 : PySem.W.codeIn K cd19 "rising" = true)
    (k19 : PySem.W.keepIn K (.ref f19) = true)
    (a20 : PySem.W.nsIn K mainGlobals "_law_mix" = some (some (.ref f20)))
    (l20 : K.lookup f20 = some ⟨oc20, od20, .func (PySem.W.fnOf "_law_mix" "_law_mix" (defArgs sMix) (defBody sMix) (defScope sMix) .none kV20 dc20 pm20 an20 cd20 ct20), sl20⟩)
    (c20 : PySem.W.codeIn K cd20 "_law_mix" = true)
    (k20 : PySem.W.keepIn K (.ref f20) = true)
    (a21 : PySem.W.nsIn K mainGlobals "_law_raw" = some (some (.ref f21)))
    (l21 : K.lookup f21 = some ⟨oc21, od21, .func (PySem.W.fnOf "_law_raw" "_law_raw" (defArgs sRaw) (defBody sRaw) (defScope sRaw) .none kV21 dc21 pm21 an21 cd21 ct21), sl21⟩)
    (c21 : PySem.W.codeIn K cd21 "_law_raw" = true)
    (k21 : PySem.W.keepIn K (.ref f21) = true)
    (a22 : PySem.W.nsIn K mainGlobals "_law_digits" = some (some (.ref f22)))
    (l22 : K.lookup f22 = some ⟨oc22, od22, .func (PySem.W.fnOf "_law_digits" "_law_digits" (defArgs sDig) (defBody sDig) (defScope sDig) .none kV22 dc22 pm22 an22 cd22 ct22), sl22⟩)
    (c22 : PySem.W.codeIn K cd22 "_law_digits" = true)
    (k22 : PySem.W.keepIn K (.ref f22) = true)
    (a23 : PySem.W.nsIn K mainGlobals "_law_ten" = some (some (.ref f23)))
    (l23 : K.lookup f23 = some ⟨oc23, od23, .func (PySem.W.fnOf "_law_ten" "_law_ten" (defArgs s_law_ten) (defBody s_law_ten) (defScope s_law_ten) .none kV23 dc23 pm23 an23 cd23 ct23), sl23⟩)
    (c23 : PySem.W.codeIn K cd23 "_law_ten" = true)
    (k23 : PySem.W.keepIn K (.ref f23) = true)
    (a24 : PySem.W.nsIn K mainGlobals "_law_book" = some (some (.ref f24)))
    (l24 : K.lookup f24 = some ⟨oc24, od24, .func (PySem.W.fnOf "_law_book" "_law_book" (defArgs s_law_book) (defBody s_law_book) (defScope s_law_book) .none kV24 dc24 pm24 an24 cd24 ct24), sl24⟩)
    (c24 : PySem.W.codeIn K cd24 "_law_book" = true)
    (k24 : PySem.W.keepIn K (.ref f24) = true)
    (a25 : PySem.W.nsIn K mainGlobals "_law_length_next" = some (some (.ref f25)))
    (l25 : K.lookup f25 = some ⟨oc25, od25, .func (PySem.W.fnOf "_law_length_next" "_law_length_next" (defArgs s_law_length_next) (defBody s_law_length_next) (defScope s_law_length_next) .none kV25 dc25 pm25 an25 cd25 ct25), sl25⟩)
    (c25 : PySem.W.codeIn K cd25 "_law_length_next" = true)
    (k25 : PySem.W.keepIn K (.ref f25) = true)
    (a26 : PySem.W.nsIn K mainGlobals "_law_good_stretch" = some (some (.ref f26)))
    (l26 : K.lookup f26 = some ⟨oc26, od26, .func (PySem.W.fnOf "_law_good_stretch" "_law_good_stretch" (defArgs s_law_good_stretch) (defBody s_law_good_stretch) (defScope s_law_good_stretch) .none kV26 dc26 pm26 an26 cd26 ct26), sl26⟩)
    (c26 : PySem.W.codeIn K cd26 "_law_good_stretch" = true)
    (k26 : PySem.W.keepIn K (.ref f26) = true)
    (a27 : PySem.W.nsIn K mainGlobals "_law_numbers" = some (some (.ref f27)))
    (l27 : K.lookup f27 = some ⟨oc27, od27, .func (PySem.W.fnOf "_law_numbers" "_law_numbers" (defArgs s_law_numbers) (defBody s_law_numbers) (defScope s_law_numbers) .none kV27 dc27 pm27 an27 cd27 ct27), sl27⟩)
    (c27 : PySem.W.codeIn K cd27 "_law_numbers" = true)
    (k27 : PySem.W.keepIn K (.ref f27) = true)
    (a28 : PySem.W.nsIn K mainGlobals "_law_row_next" = some (some (.ref f28)))
    (l28 : K.lookup f28 = some ⟨oc28, od28, .func (PySem.W.fnOf "_law_row_next" "_law_row_next" (defArgs s_law_row_next) (defBody s_law_row_next) (defScope s_law_row_next) .none kV28 dc28 pm28 an28 cd28 ct28), sl28⟩)
    (c28 : PySem.W.codeIn K cd28 "_law_row_next" = true)
    (k28 : PySem.W.keepIn K (.ref f28) = true)
    (a29 : PySem.W.nsIn K mainGlobals "_law_do_model" = some (some (.ref f29)))
    (l29 : K.lookup f29 = some ⟨oc29, od29, .func (PySem.W.fnOf "_law_do_model" "_law_do_model" (defArgs s_law_do_model) (defBody s_law_do_model) (defScope s_law_do_model) .none kV29 dc29 pm29 an29 cd29 ct29), sl29⟩)
    (c29 : PySem.W.codeIn K cd29 "_law_do_model" = true)
    (k29 : PySem.W.keepIn K (.ref f29) = true)
    (a30 : PySem.W.nsIn K mainGlobals "_law_same" = some (some (.ref f30)))
    (l30 : K.lookup f30 = some ⟨oc30, od30, .func (PySem.W.fnOf "_law_same" "_law_same" (defArgs sSame) (defBody sSame) (defScope sSame) .none kV30 dc30 pm30 an30 cd30 ct30), sl30⟩)
    (c30 : PySem.W.codeIn K cd30 "_law_same" = true)
    (k30 : PySem.W.keepIn K (.ref f30) = true)
    (a31 : PySem.W.nsIn K mainGlobals "_law_kin" = some (some (.ref f31)))
    (l31 : K.lookup f31 = some ⟨oc31, od31, .func (PySem.W.fnOf "_law_kin" "_law_kin" (defArgs s_law_kin) (defBody s_law_kin) (defScope s_law_kin) .none kV31 dc31 pm31 an31 cd31 ct31), sl31⟩)
    (c31 : PySem.W.codeIn K cd31 "_law_kin" = true)
    (k31 : PySem.W.keepIn K (.ref f31) = true)
    (a32 : PySem.W.nsIn K mainGlobals "_law_saying" = some (some (.ref f32)))
    (l32 : K.lookup f32 = some ⟨oc32, od32, .func (PySem.W.fnOf "_law_saying" "_law_saying" (defArgs s_law_saying) (defBody s_law_saying) (defScope s_law_saying) .none kV32 dc32 pm32 an32 cd32 ct32), sl32⟩)
    (c32 : PySem.W.codeIn K cd32 "_law_saying" = true)
    (k32 : PySem.W.keepIn K (.ref f32) = true)
    (a33 : PySem.W.nsIn K mainGlobals "_law_letter" = some (some (.ref f33)))
    (l33 : K.lookup f33 = some ⟨oc33, od33, .func (PySem.W.fnOf "_law_letter" "_law_letter" (defArgs s_law_letter) (defBody s_law_letter) (defScope s_law_letter) .none kV33 dc33 pm33 an33 cd33 ct33), sl33⟩)
    (c33 : PySem.W.codeIn K cd33 "_law_letter" = true)
    (k33 : PySem.W.keepIn K (.ref f33) = true)
    (a34 : PySem.W.nsIn K mainGlobals "_law_deed" = some (some (.ref f34)))
    (l34 : K.lookup f34 = some ⟨oc34, od34, .func (PySem.W.fnOf "_law_deed" "_law_deed" (defArgs s_law_deed) (defBody s_law_deed) (defScope s_law_deed) .none kV34 dc34 pm34 an34 cd34 ct34), sl34⟩)
    (c34 : PySem.W.codeIn K cd34 "_law_deed" = true)
    (k34 : PySem.W.keepIn K (.ref f34) = true)
    (a35 : PySem.W.nsIn K mainGlobals "_law_great_deed" = some (some (.ref f35)))
    (l35 : K.lookup f35 = some ⟨oc35, od35, .func (PySem.W.fnOf "_law_great_deed" "_law_great_deed" (defArgs s_law_great_deed) (defBody s_law_great_deed) (defScope s_law_great_deed) .none kV35 dc35 pm35 an35 cd35 ct35), sl35⟩)
    (c35 : PySem.W.codeIn K cd35 "_law_great_deed" = true)
    (k35 : PySem.W.keepIn K (.ref f35) = true)
    (a36 : PySem.W.nsIn K mainGlobals "_law_page_text" = some (some (.ref f36)))
    (l36 : K.lookup f36 = some ⟨oc36, od36, .func (PySem.W.fnOf "_law_page_text" "_law_page_text" (defArgs s_law_page_text) (defBody s_law_page_text) (defScope s_law_page_text) .none kV36 dc36 pm36 an36 cd36 ct36), sl36⟩)
    (c36 : PySem.W.codeIn K cd36 "_law_page_text" = true)
    (k36 : PySem.W.keepIn K (.ref f36) = true)
    (a37 : PySem.W.nsIn K mainGlobals "_law_spoilt_text" = some (some (.ref f37)))
    (l37 : K.lookup f37 = some ⟨oc37, od37, .func (PySem.W.fnOf "_law_spoilt_text" "_law_spoilt_text" (defArgs s_law_spoilt_text) (defBody s_law_spoilt_text) (defScope s_law_spoilt_text) .none kV37 dc37 pm37 an37 cd37 ct37), sl37⟩)
    (c37 : PySem.W.codeIn K cd37 "_law_spoilt_text" = true)
    (k37 : PySem.W.keepIn K (.ref f37) = true)
    (a38 : PySem.W.nsIn K mainGlobals "_law_number_word" = some (some (.ref f38)))
    (l38 : K.lookup f38 = some ⟨oc38, od38, .func (PySem.W.fnOf "_law_number_word" "_law_number_word" (defArgs s_law_number_word) (defBody s_law_number_word) (defScope s_law_number_word) .none kV38 dc38 pm38 an38 cd38 ct38), sl38⟩)
    (c38 : PySem.W.codeIn K cd38 "_law_number_word" = true)
    (k38 : PySem.W.keepIn K (.ref f38) = true)
    (a39 : PySem.W.nsIn K mainGlobals "_law_things" = some (some (.ref f39)))
    (l39 : K.lookup f39 = some ⟨oc39, od39, .func (PySem.W.fnOf "_law_things" "_law_things" (defArgs s_law_things) (defBody s_law_things) (defScope s_law_things) .none kV39 dc39 pm39 an39 cd39 ct39), sl39⟩)
    (c39 : PySem.W.codeIn K cd39 "_law_things" = true)
    (k39 : PySem.W.keepIn K (.ref f39) = true)
    (a40 : PySem.W.nsIn K mainGlobals "_law_due_row" = some (some (.ref f40)))
    (l40 : K.lookup f40 = some ⟨oc40, od40, .func (PySem.W.fnOf "_law_due_row" "_law_due_row" (defArgs s_law_due_row) (defBody s_law_due_row) (defScope s_law_due_row) .none kV40 dc40 pm40 an40 cd40 ct40), sl40⟩)
    (c40 : PySem.W.codeIn K cd40 "_law_due_row" = true)
    (k40 : PySem.W.keepIn K (.ref f40) = true)
    (a41 : PySem.W.nsIn K mainGlobals "_law_due_page" = some (some (.ref f41)))
    (l41 : K.lookup f41 = some ⟨oc41, od41, .func (PySem.W.fnOf "_law_due_page" "_law_due_page" (defArgs s_law_due_page) (defBody s_law_due_page) (defScope s_law_due_page) .none kV41 dc41 pm41 an41 cd41 ct41), sl41⟩)
    (c41 : PySem.W.codeIn K cd41 "_law_due_page" = true)
    (k41 : PySem.W.keepIn K (.ref f41) = true)
    (a42 : PySem.W.nsIn K mainGlobals "_law_stands" = some (some (.ref f42)))
    (l42 : K.lookup f42 = some ⟨oc42, od42, .func (PySem.W.fnOf "_law_stands" "_law_stands" (defArgs s_law_stands) (defBody s_law_stands) (defScope s_law_stands) .none kV42 dc42 pm42 an42 cd42 ct42), sl42⟩)
    (c42 : PySem.W.codeIn K cd42 "_law_stands" = true)
    (k42 : PySem.W.keepIn K (.ref f42) = true)
    (a43 : PySem.W.nsIn K mainGlobals "_law_read" = some (some (.ref f43)))
    (l43 : K.lookup f43 = some ⟨oc43, od43, .func (PySem.W.fnOf "_law_read" "_law_read" (defArgs s_law_read) (defBody s_law_read) (defScope s_law_read) .none kV43 dc43 pm43 an43 cd43 ct43), sl43⟩)
    (c43 : PySem.W.codeIn K cd43 "_law_read" = true)
    (k43 : PySem.W.keepIn K (.ref f43) = true)
    (a44 : PySem.W.nsIn K mainGlobals "law" = some (some (.ref f44)))
    (l44 : K.lookup f44 = some ⟨oc44, od44, .func (PySem.W.fnOf "law" "law" (defArgs sLaw) (defBody sLaw) (defScope sLaw) .none kV44 dc44 pm44 an44 cd44 ct44), sl44⟩)
    (c44 : PySem.W.codeIn K cd44 "law" = true)
    (k44 : PySem.W.keepIn K (.ref f44) = true)
    (a45 : PySem.W.findIn K (.ref C_Sheet) "__init__" = some (some (.ref f45)))
    (i45 : PySem.W.isFn K (.ref f45) = true)
    (l45 : K.lookup f45 = some ⟨oc45, od45, .func (PySem.W.fnOf "__init__" "Sheet.__init__" (defArgs sSheetInit) (defBody sSheetInit) (defScope sSheetInit) .none kV45 dc45 pm45 an45 cd45 ct45), sl45⟩)
    (c45 : PySem.W.codeIn K cd45 "Sheet.__init__" = true)
    (k45 : PySem.W.keepIn K (.ref f45) = true)
    (a46 : PySem.W.findIn K (.ref C_Sheet) "with_saying" = some (some (.ref f46)))
    (i46 : PySem.W.isFn K (.ref f46) = true)
    (l46 : K.lookup f46 = some ⟨oc46, od46, .func (PySem.W.fnOf "with_saying" "Sheet.with_saying" (defArgs sSheetWith_saying) (defBody sSheetWith_saying) (defScope sSheetWith_saying) .none kV46 dc46 pm46 an46 cd46 ct46), sl46⟩)
    (c46 : PySem.W.codeIn K cd46 "Sheet.with_saying" = true)
    (k46 : PySem.W.keepIn K (.ref f46) = true)
    (a47 : PySem.W.findIn K (.ref C_Sheet) "with_memory" = some (some (.ref f47)))
    (i47 : PySem.W.isFn K (.ref f47) = true)
    (l47 : K.lookup f47 = some ⟨oc47, od47, .func (PySem.W.fnOf "with_memory" "Sheet.with_memory" (defArgs sSheetWith_memory) (defBody sSheetWith_memory) (defScope sSheetWith_memory) .none kV47 dc47 pm47 an47 cd47 ct47), sl47⟩)
    (c47 : PySem.W.codeIn K cd47 "Sheet.with_memory" = true)
    (k47 : PySem.W.keepIn K (.ref f47) = true)
    (a48 : PySem.W.findIn K (.ref C_Sheet) "resized" = some (some (.ref f48)))
    (i48 : PySem.W.isFn K (.ref f48) = true)
    (l48 : K.lookup f48 = some ⟨oc48, od48, .func (PySem.W.fnOf "resized" "Sheet.resized" (defArgs sSheetResized) (defBody sSheetResized) (defScope sSheetResized) .none kV48 dc48 pm48 an48 cd48 ct48), sl48⟩)
    (c48 : PySem.W.codeIn K cd48 "Sheet.resized" = true)
    (k48 : PySem.W.keepIn K (.ref f48) = true)
    (a49 : PySem.W.findIn K (.ref C_Sheet) "used" = some (some (.ref f49)))
    (i49 : PySem.W.isFn K (.ref f49) = true)
    (l49 : K.lookup f49 = some ⟨oc49, od49, .func (PySem.W.fnOf "used" "Sheet.used" (defArgs sSheetUsed) (defBody sSheetUsed) (defScope sSheetUsed) .none kV49 dc49 pm49 an49 cd49 ct49), sl49⟩)
    (c49 : PySem.W.codeIn K cd49 "Sheet.used" = true)
    (k49 : PySem.W.keepIn K (.ref f49) = true)
    (a50 : PySem.W.findIn K (.ref C_Sheet) "last_number" = some (some (.ref f50)))
    (i50 : PySem.W.isFn K (.ref f50) = true)
    (l50 : K.lookup f50 = some ⟨oc50, od50, .func (PySem.W.fnOf "last_number" "Sheet.last_number" (defArgs sSheetLast_number) (defBody sSheetLast_number) (defScope sSheetLast_number) .none kV50 dc50 pm50 an50 cd50 ct50), sl50⟩)
    (c50 : PySem.W.codeIn K cd50 "Sheet.last_number" = true)
    (k50 : PySem.W.keepIn K (.ref f50) = true)
    (a51 : PySem.W.findIn K (.ref C_Book) "__init__" = some (some (.ref f51)))
    (i51 : PySem.W.isFn K (.ref f51) = true)
    (l51 : K.lookup f51 = some ⟨oc51, od51, .func (PySem.W.fnOf "__init__" "Book.__init__" (defArgs sBookInit) (defBody sBookInit) (defScope sBookInit) .none kV51 dc51 pm51 an51 cd51 ct51), sl51⟩)
    (c51 : PySem.W.codeIn K cd51 "Book.__init__" = true)
    (k51 : PySem.W.keepIn K (.ref f51) = true)
    (a52 : PySem.W.findIn K (.ref C_Book) "sheet" = some (some (.ref f52)))
    (i52 : PySem.W.isFn K (.ref f52) = true)
    (l52 : K.lookup f52 = some ⟨oc52, od52, .func (PySem.W.fnOf "sheet" "Book.sheet" (defArgs sBookSheet) (defBody sBookSheet) (defScope sBookSheet) .none kV52 dc52 pm52 an52 cd52 ct52), sl52⟩)
    (c52 : PySem.W.codeIn K cd52 "Book.sheet" = true)
    (k52 : PySem.W.keepIn K (.ref f52) = true)
    (a53 : PySem.W.findIn K (.ref C_Book) "length" = some (some (.ref f53)))
    (i53 : PySem.W.isFn K (.ref f53) = true)
    (l53 : K.lookup f53 = some ⟨oc53, od53, .func (PySem.W.fnOf "length" "Book.length" (defArgs sBookLength) (defBody sBookLength) (defScope sBookLength) .none kV53 dc53 pm53 an53 cd53 ct53), sl53⟩)
    (c53 : PySem.W.codeIn K cd53 "Book.length" = true)
    (k53 : PySem.W.keepIn K (.ref f53) = true)
    (a54 : PySem.W.findIn K (.ref C_Book) "coming" = some (some (.ref f54)))
    (i54 : PySem.W.isFn K (.ref f54) = true)
    (l54 : K.lookup f54 = some ⟨oc54, od54, .func (PySem.W.fnOf "coming" "Book.coming" (defArgs sBookComing) (defBody sBookComing) (defScope sBookComing) .none kV54 dc54 pm54 an54 cd54 ct54), sl54⟩)
    (c54 : PySem.W.codeIn K cd54 "Book.coming" = true)
    (k54 : PySem.W.keepIn K (.ref f54) = true)
    (a55 : PySem.W.findIn K (.ref C_Book) "sayings" = some (some (.ref f55)))
    (i55 : PySem.W.isFn K (.ref f55) = true)
    (l55 : K.lookup f55 = some ⟨oc55, od55, .func (PySem.W.fnOf "sayings" "Book.sayings" (defArgs sBookSayings) (defBody sBookSayings) (defScope sBookSayings) .none kV55 dc55 pm55 an55 cd55 ct55), sl55⟩)
    (c55 : PySem.W.codeIn K cd55 "Book.sayings" = true)
    (k55 : PySem.W.keepIn K (.ref f55) = true)
    (a56 : PySem.W.findIn K (.ref C_Book) "memories" = some (some (.ref f56)))
    (i56 : PySem.W.isFn K (.ref f56) = true)
    (l56 : K.lookup f56 = some ⟨oc56, od56, .func (PySem.W.fnOf "memories" "Book.memories" (defArgs sBookMemories) (defBody sBookMemories) (defScope sBookMemories) .none kV56 dc56 pm56 an56 cd56 ct56), sl56⟩)
    (c56 : PySem.W.codeIn K cd56 "Book.memories" = true)
    (k56 : PySem.W.keepIn K (.ref f56) = true)
    (a57 : PySem.W.findIn K (.ref C_Book) "undoable" = some (some (.ref f57)))
    (i57 : PySem.W.isFn K (.ref f57) = true)
    (l57 : K.lookup f57 = some ⟨oc57, od57, .func (PySem.W.fnOf "undoable" "Book.undoable" (defArgs sBookUndoable) (defBody sBookUndoable) (defScope sBookUndoable) .none kV57 dc57 pm57 an57 cd57 ct57), sl57⟩)
    (c57 : PySem.W.codeIn K cd57 "Book.undoable" = true)
    (k57 : PySem.W.keepIn K (.ref f57) = true)
    (a58 : PySem.W.findIn K (.ref C_Book) "redoable" = some (some (.ref f58)))
    (i58 : PySem.W.isFn K (.ref f58) = true)
    (l58 : K.lookup f58 = some ⟨oc58, od58, .func (PySem.W.fnOf "redoable" "Book.redoable" (defArgs sBookRedoable) (defBody sBookRedoable) (defScope sBookRedoable) .none kV58 dc58 pm58 an58 cd58 ct58), sl58⟩)
    (c58 : PySem.W.codeIn K cd58 "Book.redoable" = true)
    (k58 : PySem.W.keepIn K (.ref f58) = true)
    (pg_Sheet : PySem.W.plainGet K C_Sheet Str.empty = true)
    (hd_Sheet : PySem.W.hasDictIn K C_Sheet = true)
    (po_Sheet : PySem.W.plainOver K C_Sheet = true)
    (sa_Sheet : PySem.W.findIn K (.ref C_Sheet) "__setattr__" = some (some (.builtin "object.__setattr__")))
    (mk_Sheet : PySem.W.makesIn K C_Sheet = true)
    (kc_Sheet : PySem.W.keepIn K (.ref C_Sheet) = true)
    (pg_Book : PySem.W.plainGet K C_Book Str.empty = true)
    (hd_Book : PySem.W.hasDictIn K C_Book = true)
    (po_Book : PySem.W.plainOver K C_Book = true)
    (sa_Book : PySem.W.findIn K (.ref C_Book) "__setattr__" = some (some (.builtin "object.__setattr__")))
    (mk_Book : PySem.W.makesIn K C_Book = true)
    (kc_Book : PySem.W.keepIn K (.ref C_Book) = true)
    (n_Sheet_size : PySem.W.findIn K (.ref C_Sheet) "size" = some none)
    (n_Sheet_upcoming : PySem.W.findIn K (.ref C_Sheet) "upcoming" = some none)
    (n_Sheet_said : PySem.W.findIn K (.ref C_Sheet) "said" = some none)
    (n_Sheet_noted : PySem.W.findIn K (.ref C_Sheet) "noted" = some none)
    (n_Book_sheets : PySem.W.findIn K (.ref C_Book) "sheets" = some none)
    (n_Book_here : PySem.W.findIn K (.ref C_Book) "here" = some none)
    (n_Book_song : PySem.W.findIn K (.ref C_Book) "song" = some none)
    (n_Book_notes : PySem.W.findIn K (.ref C_Book) "notes" = some none)
    (aI_TOO_LONG : PySem.W.nsIn K mainGlobals "TOO_LONG" = some (some v_TOO_LONG))
    (aI_MOST : PySem.W.nsIn K mainGlobals "MOST" = some (some v_MOST))
    (aI_MOST_FIGURES : PySem.W.nsIn K mainGlobals "MOST_FIGURES" = some (some v_MOST_FIGURES))
    (aI_GREATEST_NEXT : PySem.W.nsIn K mainGlobals "GREATEST_NEXT" = some (some v_GREATEST_NEXT))
    (y_len : PySem.W.nsIn K mainGlobals "len" = some none)
    (y_range : PySem.W.nsIn K mainGlobals "range" = some none)
    (y_list : PySem.W.nsIn K mainGlobals "list" = some none)
    (y_isinstance : PySem.W.nsIn K mainGlobals "isinstance" = some none)
    (y_bool : PySem.W.nsIn K mainGlobals "bool" = some none)
    (y_int : PySem.W.nsIn K mainGlobals "int" = some none)
    (y_tuple : PySem.W.nsIn K mainGlobals "tuple" = some none)
    (y_str : PySem.W.nsIn K mainGlobals "str" = some none)
    (y_all : PySem.W.nsIn K mainGlobals "all" = some none)
    (y_zip : PySem.W.nsIn K mainGlobals "zip" = some none)
    (y_min : PySem.W.nsIn K mainGlobals "min" = some none)
    (y_max : PySem.W.nsIn K mainGlobals "max" = some none)
    (y_enumerate : PySem.W.nsIn K mainGlobals "enumerate" = some none)
    (y_ValueError : PySem.W.nsIn K mainGlobals "ValueError" = some none)
    (y_sorted : PySem.W.nsIn K mainGlobals "sorted" = some none)
    (y_super : PySem.W.nsIn K mainGlobals "super" = some none)
    (r_TOO_LONG : RelV (.int (10 ^ 40)) v_TOO_LONG)
    (r_MOST : RelV (.int (24)) v_MOST)
    (r_MOST_FIGURES : RelV (.int (40)) v_MOST_FIGURES)
    (r_GREATEST_NEXT : RelV (.int (999999)) v_GREATEST_NEXT)
    (re_b : PySem.W.subIn K (.ref C_RepriseError) (.type "BaseException") = some true)
    (re_d : PySem.W.hasDictIn K C_RepriseError = true)
    (re_t : PySem.W.typeIn K (.ref C_RepriseError) = some (.type "type"))
    (x_BadLength : PySem.W.excIn K C_BadLength [.type "ValueError", .type "Exception", .type "BaseException", .type "object"] "ValueError.__new__" = true)
    (k_BadLength : PySem.W.keepIn K (.ref C_BadLength) = true)
    (b_BadLength : PySem.W.subIn K (.ref C_BadLength) (.type "BaseException") = some true)
    (t_BadLength : PySem.W.typeIn K (.ref C_BadLength) = some (.type "type"))
    (x_BadStretch : PySem.W.excIn K C_BadStretch [.type "ValueError", .type "Exception", .type "BaseException", .type "object"] "ValueError.__new__" = true)
    (k_BadStretch : PySem.W.keepIn K (.ref C_BadStretch) = true)
    (b_BadStretch : PySem.W.subIn K (.ref C_BadStretch) (.type "BaseException") = some true)
    (t_BadStretch : PySem.W.typeIn K (.ref C_BadStretch) = some (.type "type"))
    (x_NoNumber : PySem.W.excIn K C_NoNumber [.type "ValueError", .type "Exception", .type "BaseException", .type "object"] "ValueError.__new__" = true)
    (k_NoNumber : PySem.W.keepIn K (.ref C_NoNumber) = true)
    (b_NoNumber : PySem.W.subIn K (.ref C_NoNumber) (.type "BaseException") = some true)
    (t_NoNumber : PySem.W.typeIn K (.ref C_NoNumber) = some (.type "type"))
    (x_BadLetter : PySem.W.excIn K C_BadLetter [.type "ValueError", .type "Exception", .type "BaseException", .type "object"] "ValueError.__new__" = true)
    (k_BadLetter : PySem.W.keepIn K (.ref C_BadLetter) = true)
    (b_BadLetter : PySem.W.subIn K (.ref C_BadLetter) (.type "BaseException") = some true)
    (t_BadLetter : PySem.W.typeIn K (.ref C_BadLetter) = some (.type "type"))
    (x_Full : PySem.W.excIn K C_Full [.type "ValueError", .type "Exception", .type "BaseException", .type "object"] "ValueError.__new__" = true)
    (k_Full : PySem.W.keepIn K (.ref C_Full) = true)
    (b_Full : PySem.W.subIn K (.ref C_Full) (.type "BaseException") = some true)
    (t_Full : PySem.W.typeIn K (.ref C_Full) = some (.type "type"))
    (x_InUse : PySem.W.excIn K C_InUse [.type "ValueError", .type "Exception", .type "BaseException", .type "object"] "ValueError.__new__" = true)
    (k_InUse : PySem.W.keepIn K (.ref C_InUse) = true)
    (b_InUse : PySem.W.subIn K (.ref C_InUse) (.type "BaseException") = some true)
    (t_InUse : PySem.W.typeIn K (.ref C_InUse) = some (.type "type"))
    (s_BadStretch : PySem.W.subIn K (.ref C_BadStretch) (.ref C_RepriseError) = some true)
    (w_BadStretch_Unfit : PySem.W.subIn K (.ref C_BadStretch) (.ref C_Unfit) = some false)
    (s_BadLetter : PySem.W.subIn K (.ref C_BadLetter) (.ref C_RepriseError) = some true)
    (w_BadLetter_Unfit : PySem.W.subIn K (.ref C_BadLetter) (.ref C_Unfit) = some false)
    (s_Full : PySem.W.subIn K (.ref C_Full) (.ref C_RepriseError) = some true)
    (w_Full_Unfit : PySem.W.subIn K (.ref C_Full) (.ref C_Unfit) = some false)
    (e6_all : PySem.W.specialIn K (.builtin "object.__class__") "__get__" = some (some (.builtin "getset_descriptor.__get__")))
    (e7_all : PySem.W.takesIn K (.builtin "object.__class__") = some true)
    (ne_BS : C_Book ≠ C_Sheet)
    (x_Unfit : PySem.W.excIn K C_Unfit [.type "Exception", .type "BaseException", .type "object"] "Exception.__new__" = true)
    (k_Unfit : PySem.W.keepIn K (.ref C_Unfit) = true)
    (b_Unfit : PySem.W.subIn K (.ref C_Unfit) (.type "BaseException") = some true)
    (t_Unfit : PySem.W.typeIn K (.ref C_Unfit) = some (.type "type"))
    (e4_Unfit : PySem.W.hasDictIn K C_Unfit = true)
    (k_BadPage : PySem.W.keepIn K (.ref C_BadPage) = true)
    (b_BadPage : PySem.W.subIn K (.ref C_BadPage) (.type "BaseException") = some true)
    (t_BadPage : PySem.W.typeIn K (.ref C_BadPage) = some (.type "type"))
    (e4_BadPage : PySem.W.hasDictIn K C_BadPage = true)
    (s_BadPage : PySem.W.subIn K (.ref C_BadPage) (.ref C_RepriseError) = some true)
    (e1_BadPage : PySem.W.findIn K (.ref C_BadPage) "__getattribute__" = some (some (.builtin "BaseException.__getattribute__")))
    (e2_BadPage : PySem.W.findIn K (.ref C_BadPage) "__getattr__" = some none)
    (e5_BadPage : PySem.W.findIn K (.ref C_BadPage) "__class__" = some (some (.builtin "object.__class__")))
    (e8_BadPage : PySem.W.mroIn K C_BadPage (.type "object") = some true)
    (q0_BadPage : PySem.W.kitOne K (.ref C_BadPage) (.ref C_BadLength) = some false)
    (q1_BadPage : PySem.W.kitOne K (.ref C_BadPage) (.ref C_BadStretch) = some false)
    (q2_BadPage : PySem.W.kitOne K (.ref C_BadPage) (.ref C_NoPlace) = some false)
    (q3_BadPage : PySem.W.kitOne K (.ref C_BadPage) (.ref C_NoNumber) = some false)
    (q4_BadPage : PySem.W.kitOne K (.ref C_BadPage) (.ref C_BadLetter) = some false)
    (q5_BadPage : PySem.W.kitOne K (.ref C_BadPage) (.ref C_Full) = some false)
    (q6_BadPage : PySem.W.kitOne K (.ref C_BadPage) (.ref C_InUse) = some false)
    (q7_BadPage : PySem.W.kitOne K (.ref C_BadPage) (.ref C_NothingLeft) = some false)
    (q8_BadPage : PySem.W.kitOne K (.ref C_BadPage) (.ref C_BadPage) = some true)
    (qV_BadPage : PySem.W.kitOne K (.ref C_BadPage) (.type "ValueError") = some true)
    (w_BadPage_BadPage : PySem.W.subIn K (.ref C_BadPage) (.ref C_BadPage) = some true)
    (w_Unfit_Unfit : PySem.W.subIn K (.ref C_Unfit) (.ref C_Unfit) = some true)
    (w_Unfit_RE : PySem.W.subIn K (.ref C_Unfit) (.ref C_RepriseError) = some false)
    (aBP : PySem.W.findIn K (.ref C_BadPage) "__init__" = some (some (.ref fBP)))
    (lBP : K.lookup fBP = some ⟨ocB, odB, .func (PySem.W.fnX "__init__" "BadPage.__init__" (defArgs sBadPageInit) (defBody sBadPageInit) (defScope sBadPageInit) [(("__class__" : Str), ccB)] .none .none dcB pmB none (.ref cdB) ctB), slB⟩)
    (tBP : PySem.W.typeIn K (.ref fBP) = some (.type "function"))
    (cBP : PySem.W.codeIn K (.ref cdB) "BadPage.__init__" = true)
    (lcdB : K.lookup cdB = some ⟨clB1, ddB1, .fields vsB, ssB1⟩)
    (v2B : vsB[2]? = some (.str fileB tfB))
    (flB : ((l.prog.main.file : Str) == fileB) = true)
    (lceB : K.lookup ccB = some ⟨clB2, ddB2, .cell (some (.ref C_BadPage)), ssB2⟩)
    (lCB : K.lookup C_BadPage = some (excClassObj nmB qB C_BadPage NB bsB bmB true snB suB abB colB ddB k0B k1B k2B k3B k5B "ValueError.__new__"))
    (rBm : PySem.HandSPX.refsVE bmB = true)
    (saB : PySem.W.findIn K (.ref C_BadPage) "__setattr__" = some (some (.builtin "object.__setattr__")))
    (atB : PySem.W.findIn K (.ref C_BadPage) "at" = some none)
    (mrB : PySem.W.mroIn K C_BadPage (.ref C_BadPage) = some true)
    (spB : PySem.W.ks_superIn K C_BadPage C_BadPage "__init__" = some (some (.builtin "ValueError.__init__")))
    (opB : PySem.W.nsIn K cStatics "thirdparty.any" = some none)
    (isB : PySem.W.subIn K (.ref C_BadPage) (.type "ValueError") = some true)
    (toB : (l.prog.main.scope.names.lookup ("super" : Str)).isSome = false)
    : LamX.LawAtS l w K CX0 14 63 "_law_script" mg fa h := by
  have G := TT.g
  have e := hfa.symm.trans (PySem.W.mg_of X G a44)
  cases e
  have F1 := fun_mk (st := sCheck_length) l1 c1 k1
  have g1 := PySem.W.mg_of X G a1
  have b1 := F1.binds (ps := ["length"]) fun _ _ _ _ _ _ us hl => match us, hl with | [_], _ => rfl
  have F2 := fun_mk (st := sCheck_stretch) l2 c2 k2
  have g2 := PySem.W.mg_of X G a2
  have b2 := F2.binds (ps := ["length", "at", "many"]) fun _ _ _ _ _ _ us hl => match us, hl with | [_, _, _], _ => rfl
  have F3 := fun_mk (st := sCheck_sayings) l3 c3 k3
  have g3 := PySem.W.mg_of X G a3
  have b3 := F3.binds (ps := ["length", "sayings"]) fun _ _ _ _ _ _ us hl => match us, hl with | [_, _], _ => rfl
  have F4 := fun_mk (st := sCheck_letter) l4 c4 k4
  have g4 := PySem.W.mg_of X G a4
  have b4 := F4.binds (ps := ["letter"]) fun _ _ _ _ _ _ us hl => match us, hl with | [_], _ => rfl
  have F5 := fun_mk (st := sCheck_memory) l5 c5 k5
  have g5 := PySem.W.mg_of X G a5
  have b5 := F5.binds (ps := ["length", "letter", "at", "many"]) fun _ _ _ _ _ _ us hl => match us, hl with | [_, _, _, _], _ => rfl
  have F6 := fun_mk (st := sPlace_of) l6 c6 k6
  have g6 := PySem.W.mg_of X G a6
  have b6 := F6.binds (ps := ["rows", "number"]) fun _ _ _ _ _ _ us hl => match us, hl with | [_, _], _ => rfl
  have F7 := fun_mk (st := sWithout) l7 c7 k7
  have g7 := PySem.W.mg_of X G a7
  have b7 := F7.binds (ps := ["rows", "number"]) fun _ _ _ _ _ _ us hl => match us, hl with | [_, _], _ => rfl
  have F8 := fun_mk (st := sUnnumbered) l8 c8 k8
  have g8 := PySem.W.mg_of X G a8
  have b8 := F8.binds (ps := ["rows"]) fun _ _ _ _ _ _ us hl => match us, hl with | [_], _ => rfl
  have F9 := fun_mk (st := sCheck_room) l9 c9 k9
  have g9 := PySem.W.mg_of X G a9
  have b9 := F9.binds (ps := ["rows"]) fun _ _ _ _ _ _ us hl => match us, hl with | [_], _ => rfl
  have F10 := fun_mk (st := sCheck_change) l10 c10 k10
  have g10 := PySem.W.mg_of X G a10
  have b10 := F10.binds (ps := ["many"]) fun _ _ _ _ _ _ us hl => match us, hl with | [_], _ => rfl
  have F11 := fun_mk (st := sBook_of) l11 c11 k11
  have g11 := PySem.W.mg_of X G a11
  have b11 := F11.binds (ps := ["sheet"]) fun _ _ _ _ _ _ us hl => match us, hl with | [_], _ => rfl
  have F12 := fun_mk (st := sWords_of) l12 c12 k12
  have g12 := PySem.W.mg_of X G a12
  have b12 := F12.binds (ps := ["row"]) fun _ _ _ _ _ _ us hl => match us, hl with | [_], _ => rfl
  have F13 := fun_mk (st := sNumber_of) l13 c13 k13
  have g13 := PySem.W.mg_of X G a13
  have b13 := F13.binds (ps := ["word"]) fun _ _ _ _ _ _ us hl => match us, hl with | [_], _ => rfl
  have F14 := fun_mk (st := sTurned_of) l14 c14 k14
  have g14 := PySem.W.mg_of X G a14
  have b14 := F14.binds (ps := ["word"]) fun _ _ _ _ _ _ us hl => match us, hl with | [_], _ => rfl
  have F15 := fun_mk (st := sSaying_of) l15 c15 k15
  have g15 := PySem.W.mg_of X G a15
  have b15 := F15.binds (ps := ["one", "other", "many", "way"]) fun _ _ _ _ _ _ us hl => match us, hl with | [_, _, _, _], _ => rfl
  have F16 := fun_mk (st := sRead) l16 c16 k16
  have g16 := PySem.W.mg_of X G a16
  have b16 := F16.binds (ps := ["text"]) fun _ _ _ _ _ _ us hl => match us, hl with | [_], _ => rfl
  have F17 := fun_mk (st := sFirst_sheet) l17 c17 k17
  have g17 := PySem.W.mg_of X G a17
  have b17 := F17.binds (ps := ["row"]) fun _ _ _ _ _ _ us hl => match us, hl with | [_], _ => rfl
  have F18 := fun_mk (st := sWith_row) l18 c18 k18
  have g18 := PySem.W.mg_of X G a18
  have b18 := F18.binds (ps := ["sheet", "row"]) fun _ _ _ _ _ _ us hl => match us, hl with | [_, _], _ => rfl
  have F19 := fun_mk (st := sRising) l19 c19 k19
  have g19 := PySem.W.mg_of X G a19
  have b19 := F19.binds (ps := ["sheet", "word"]) fun _ _ _ _ _ _ us hl => match us, hl with | [_, _], _ => rfl
  have F20 := fun_mk (st := sMix) l20 c20 k20
  have g20 := PySem.W.mg_of X G a20
  have b20 := F20.binds (ps := ["_law_seed"]) fun _ _ _ _ _ _ us hl => match us, hl with | [_], _ => rfl
  have F21 := fun_mk (st := sRaw) l21 c21 k21
  have g21 := PySem.W.mg_of X G a21
  have b21 := F21.binds (ps := ["_law_script", "_law_k"]) fun _ _ _ _ _ _ us hl => match us, hl with | [_, _], _ => rfl
  have F22 := fun_mk (st := sDig) l22 c22 k22
  have g22 := PySem.W.mg_of X G a22
  have b22 := F22.binds (ps := ["_law_script", "_law_k", "_law_sizes"]) fun _ _ _ _ _ _ us hl => match us, hl with | [_, _, _], _ => rfl
  have F23 := fun_mk (st := s_law_ten) l23 c23 k23
  have g23 := PySem.W.mg_of X G a23
  have b23 := F23.binds (ps := ["_law_figures"]) fun _ _ _ _ _ _ us hl => match us, hl with | [_], _ => rfl
  have F24 := fun_mk (st := s_law_book) l24 c24 k24
  have g24 := PySem.W.mg_of X G a24
  have b24 := F24.binds (ps := ["_law_length"]) fun _ _ _ _ _ _ us hl => match us, hl with | [_], _ => rfl
  have F25 := fun_mk (st := s_law_length_next) l25 c25 k25
  have g25 := PySem.W.mg_of X G a25
  have b25 := F25.binds (ps := ["_law_state", "_law_deed_here"]) fun _ _ _ _ _ _ us hl => match us, hl with | [_, _], _ => rfl
  have F26 := fun_mk (st := s_law_good_stretch) l26 c26 k26
  have g26 := PySem.W.mg_of X G a26
  have b26 := F26.binds (ps := ["_law_length", "_law_at", "_law_many"]) fun _ _ _ _ _ _ us hl => match us, hl with | [_, _, _], _ => rfl
  have F27 := fun_mk (st := s_law_numbers) l27 c27 k27
  have g27 := PySem.W.mg_of X G a27
  have b27 := F27.binds (ps := ["_law_rows"]) fun _ _ _ _ _ _ us hl => match us, hl with | [_], _ => rfl
  have F28 := fun_mk (st := s_law_row_next) l28 c28 k28
  have g28 := PySem.W.mg_of X G a28
  have b28 := F28.binds (ps := ["_law_state", "_law_deed_here"]) fun _ _ _ _ _ _ us hl => match us, hl with | [_, _], _ => rfl
  have F29 := fun_mk (st := s_law_do_model) l29 c29 k29
  have g29 := PySem.W.mg_of X G a29
  have b29 := F29.binds (ps := ["_law_book_here", "_law_deed_here"]) fun _ _ _ _ _ _ us hl => match us, hl with | [_, _], _ => rfl
  have F30 := fun_mk (st := sSame) l30 c30 k30
  have g30 := PySem.W.mg_of X G a30
  have b30 := F30.binds (ps := ["_law_told", "_law_due"]) fun _ _ _ _ _ _ us hl => match us, hl with | [_, _], _ => rfl
  have F31 := fun_mk (st := s_law_kin) l31 c31 k31
  have g31 := PySem.W.mg_of X G a31
  have b31 := F31.binds (ps := ["_law_e"]) fun _ _ _ _ _ _ us hl => match us, hl with | [_], _ => rfl
  have F32 := fun_mk (st := s_law_saying) l32 c32 k32
  have g32 := PySem.W.mg_of X G a32
  have b32 := F32.binds (ps := ["_law_script", "_law_k", "_law_length"]) fun _ _ _ _ _ _ us hl => match us, hl with | [_, _, _], _ => rfl
  have F33 := fun_mk (st := s_law_letter) l33 c33 k33
  have g33 := PySem.W.mg_of X G a33
  have b33 := F33.binds (ps := ["_law_raw_here"]) fun _ _ _ _ _ _ us hl => match us, hl with | [_], _ => rfl
  have F34 := fun_mk (st := s_law_deed) l34 c34 k34
  have g34 := PySem.W.mg_of X G a34
  have b34 := F34.binds (ps := ["_law_script", "_law_k", "_law_state"]) fun _ _ _ _ _ _ us hl => match us, hl with | [_, _, _], _ => rfl
  have F35 := fun_mk (st := s_law_great_deed) l35 c35 k35
  have g35 := PySem.W.mg_of X G a35
  have b35 := F35.binds (ps := ["_law_script", "_law_k", "_law_state"]) fun _ _ _ _ _ _ us hl => match us, hl with | [_, _, _], _ => rfl
  have F36 := fun_mk (st := s_law_page_text) l36 c36 k36
  have g36 := PySem.W.mg_of X G a36
  have b36 := F36.binds (ps := ["_law_state"]) fun _ _ _ _ _ _ us hl => match us, hl with | [_], _ => rfl
  have F37 := fun_mk (st := s_law_spoilt_text) l37 c37 k37
  have g37 := PySem.W.mg_of X G a37
  have b37 := F37.binds (ps := ["_law_script", "_law_k", "_law_text"]) fun _ _ _ _ _ _ us hl => match us, hl with | [_, _, _], _ => rfl
  have F38 := fun_mk (st := s_law_number_word) l38 c38 k38
  have g38 := PySem.W.mg_of X G a38
  have b38 := F38.binds (ps := ["_law_word"]) fun _ _ _ _ _ _ us hl => match us, hl with | [_], _ => rfl
  have F39 := fun_mk (st := s_law_things) l39 c39 k39
  have g39 := PySem.W.mg_of X G a39
  have b39 := F39.binds (ps := ["_law_words", "_law_kinds"]) fun _ _ _ _ _ _ us hl => match us, hl with | [_, _], _ => rfl
  have F40 := fun_mk (st := s_law_due_row) l40 c40 k40
  have g40 := PySem.W.mg_of X G a40
  have b40 := F40.binds (ps := ["_law_row", "_law_state"]) fun _ _ _ _ _ _ us hl => match us, hl with | [_, _], _ => rfl
  have F41 := fun_mk (st := s_law_due_page) l41 c41 k41
  have g41 := PySem.W.mg_of X G a41
  have b41 := F41.binds (ps := ["_law_text"]) fun _ _ _ _ _ _ us hl => match us, hl with | [_], _ => rfl
  have F42 := fun_mk (st := s_law_stands) l42 c42 k42
  have g42 := PySem.W.mg_of X G a42
  have b42 := F42.binds (ps := ["_law_book_here", "_law_model"]) fun _ _ _ _ _ _ us hl => match us, hl with | [_, _], _ => rfl
  have F43 := fun_mk (st := s_law_read) l43 c43 k43
  have g43 := PySem.W.mg_of X G a43
  have b43 := F43.binds (ps := ["_law_text"]) fun _ _ _ _ _ _ us hl => match us, hl with | [_], _ => rfl
  have F44 := fun_mk (st := sLaw) l44 c44 k44
  have g44 := PySem.W.mg_of X G a44
  have F45 := fun_mk (st := sSheetInit) l45 c45 k45
  have b45 := F45.binds (ps := ["self", "size", "upcoming", "said", "noted"]) fun _ _ _ _ _ _ us hl => match us, hl with | [_, _, _, _, _], _ => rfl
  have F46 := fun_mk (st := sSheetWith_saying) l46 c46 k46
  have b46 := F46.binds (ps := ["self", "row"]) fun _ _ _ _ _ _ us hl => match us, hl with | [_, _], _ => rfl
  have F47 := fun_mk (st := sSheetWith_memory) l47 c47 k47
  have b47 := F47.binds (ps := ["self", "row"]) fun _ _ _ _ _ _ us hl => match us, hl with | [_, _], _ => rfl
  have F48 := fun_mk (st := sSheetResized) l48 c48 k48
  have b48 := F48.binds (ps := ["self", "size"]) fun _ _ _ _ _ _ us hl => match us, hl with | [_, _], _ => rfl
  have F49 := fun_mk (st := sSheetUsed) l49 c49 k49
  have b49 := F49.binds (ps := ["self"]) fun _ _ _ _ _ _ us hl => match us, hl with | [_], _ => rfl
  have F50 := fun_mk (st := sSheetLast_number) l50 c50 k50
  have b50 := F50.binds (ps := ["self"]) fun _ _ _ _ _ _ us hl => match us, hl with | [_], _ => rfl
  have F51 := fun_mk (st := sBookInit) l51 c51 k51
  have b51 := F51.binds (ps := ["self", "length"]) fun _ _ _ _ _ _ us hl => match us, hl with | [_, _], _ => rfl
  have F52 := fun_mk (st := sBookSheet) l52 c52 k52
  have b52 := F52.binds (ps := ["self"]) fun _ _ _ _ _ _ us hl => match us, hl with | [_], _ => rfl
  have F53 := fun_mk (st := sBookLength) l53 c53 k53
  have b53 := F53.binds (ps := ["self"]) fun _ _ _ _ _ _ us hl => match us, hl with | [_], _ => rfl
  have F54 := fun_mk (st := sBookComing) l54 c54 k54
  have b54 := F54.binds (ps := ["self"]) fun _ _ _ _ _ _ us hl => match us, hl with | [_], _ => rfl
  have F55 := fun_mk (st := sBookSayings) l55 c55 k55
  have b55 := F55.binds (ps := ["self"]) fun _ _ _ _ _ _ us hl => match us, hl with | [_], _ => rfl
  have F56 := fun_mk (st := sBookMemories) l56 c56 k56
  have b56 := F56.binds (ps := ["self"]) fun _ _ _ _ _ _ us hl => match us, hl with | [_], _ => rfl
  have F57 := fun_mk (st := sBookUndoable) l57 c57 k57
  have b57 := F57.binds (ps := ["self"]) fun _ _ _ _ _ _ us hl => match us, hl with | [_], _ => rfl
  have F58 := fun_mk (st := sBookRedoable) l58 c58 k58
  have b58 := F58.binds (ps := ["self"]) fun _ _ _ _ _ _ us hl => match us, hl with | [_], _ => rfl
  have gC_BadLength := PySem.W.mg_of X G aC_BadLength
  have gC_BadStretch := PySem.W.mg_of X G aC_BadStretch
  have gC_NoPlace := PySem.W.mg_of X G aC_NoPlace
  have gC_NoNumber := PySem.W.mg_of X G aC_NoNumber
  have gC_BadLetter := PySem.W.mg_of X G aC_BadLetter
  have gC_Full := PySem.W.mg_of X G aC_Full
  have gC_InUse := PySem.W.mg_of X G aC_InUse
  have gC_NothingLeft := PySem.W.mg_of X G aC_NothingLeft
  have gC_BadPage := PySem.W.mg_of X G aC_BadPage
  have gC_RepriseError := PySem.W.mg_of X G aC_RepriseError
  have gC_Unfit := PySem.W.mg_of X G aC_Unfit
  have gC_Sheet := PySem.W.mg_of X G aC_Sheet
  have cl_Sheet : Cls K C_Sheet := ⟨pg_Sheet, hd_Sheet, po_Sheet, sa_Sheet⟩
  have gC_Book := PySem.W.mg_of X G aC_Book
  have cl_Book : Cls K C_Book := ⟨pg_Book, hd_Book, po_Book, sa_Book⟩
  have z_len := PySem.W.mg_none_of X G y_len
  have z_range := PySem.W.mg_none_of X G y_range
  have z_list := PySem.W.mg_none_of X G y_list
  have z_isinstance := PySem.W.mg_none_of X G y_isinstance
  have z_bool := PySem.W.mg_none_of X G y_bool
  have z_int := PySem.W.mg_none_of X G y_int
  have z_tuple := PySem.W.mg_none_of X G y_tuple
  have z_str := PySem.W.mg_none_of X G y_str
  have z_all := PySem.W.mg_none_of X G y_all
  have z_zip := PySem.W.mg_none_of X G y_zip
  have z_min := PySem.W.mg_none_of X G y_min
  have z_max := PySem.W.mg_none_of X G y_max
  have z_enumerate := PySem.W.mg_none_of X G y_enumerate
  have z_ValueError := PySem.W.mg_none_of X G y_ValueError
  have z_sorted := PySem.W.mg_none_of X G y_sorted
  have z_super := PySem.W.mg_none_of X G y_super
  have m_TOO_LONG : ∃ u, mg "TOO_LONG" = some u ∧ RelV (.int (10 ^ 40)) u := ⟨_, PySem.W.mg_of X G aI_TOO_LONG, r_TOO_LONG⟩
  have m_MOST : ∃ u, mg "MOST" = some u ∧ RelV (.int (24)) u := ⟨_, PySem.W.mg_of X G aI_MOST, r_MOST⟩
  have m_MOST_FIGURES : ∃ u, mg "MOST_FIGURES" = some u ∧ RelV (.int (40)) u := ⟨_, PySem.W.mg_of X G aI_MOST_FIGURES, r_MOST_FIGURES⟩
  have m_GREATEST_NEXT : ∃ u, mg "GREATEST_NEXT" = some u ∧ RelV (.int (999999)) u := ⟨_, PySem.W.mg_of X G aI_GREATEST_NEXT, r_GREATEST_NEXT⟩
  refine ⟨PySem.W.fnOf "law" "law" (defArgs sLaw) (defBody sLaw) (defScope sLaw) .none kV44 dc44 pm44 an44 cd44 ct44, [], spLawB K, ?_, ?_, ?_, fun s v => .of_eq rfl, ?_, fun base _ _ TBs => ?_⟩
  · intro p hp; cases hp
  · intro p hp; cases hp
  · intro p hp; cases hp
  · intro H a ns hl _ _ hS; exact ⟨a, ns, rfl, hS, hl, fun _ => rfl⟩
  have T : TySame mg := ⟨z_isinstance, z_bool, z_int, z_list, z_tuple, z_str, z_len, z_all, z_zip⟩
  have KM_ := (⟨rfl, fun i c h => match i, h with | 0, h => by cases h; exact gC_BadLength | 1, h => by cases h; exact gC_BadStretch | 2, h => by cases h; exact gC_NoPlace | 3, h => by cases h; exact gC_NoNumber | 4, h => by cases h; exact gC_BadLetter | 5, h => by cases h; exact gC_Full | 6, h => by cases h; exact gC_InUse | 7, h => by cases h; exact gC_NothingLeft | 8, h => by cases h; exact gC_BadPage | _ + 9, h => by simp at h⟩ : KinM mg [C_BadLength, C_BadStretch, C_NoPlace, C_NoNumber, C_BadLetter, C_Full, C_InUse, C_NothingLeft, C_BadPage])
  have XT_BadLength := (⟨gC_BadLength, x_BadLength, k_BadLength, b_BadLength, t_BadLength⟩ : ExT K mg "BadLength" C_BadLength)
  have XT_BadStretch := (⟨gC_BadStretch, x_BadStretch, k_BadStretch, b_BadStretch, t_BadStretch⟩ : ExT K mg "BadStretch" C_BadStretch)
  have XT_NoNumber := (⟨gC_NoNumber, x_NoNumber, k_NoNumber, b_NoNumber, t_NoNumber⟩ : ExT K mg "NoNumber" C_NoNumber)
  have XT_BadLetter := (⟨gC_BadLetter, x_BadLetter, k_BadLetter, b_BadLetter, t_BadLetter⟩ : ExT K mg "BadLetter" C_BadLetter)
  have XT_Full := (⟨gC_Full, x_Full, k_Full, b_Full, t_Full⟩ : ExT K mg "Full" C_Full)
  have XT_InUse := (⟨gC_InUse, x_InUse, k_InUse, b_InUse, t_InUse⟩ : ExT K mg "InUse" C_InUse)
  have XM_BadStretch := (PySem.W.exm_ref re_b re_d re_t s_BadStretch)
  have XM_BadLetter := (PySem.W.exm_ref re_b re_d re_t s_BadLetter)
  have XM_Full := (PySem.W.exm_ref re_b re_d re_t s_Full)
  have TXS : TxS K C_Sheet := ⟨cl_Sheet, n_Sheet_size, n_Sheet_upcoming, n_Sheet_said, n_Sheet_noted⟩
  have TPL : TPl K mg C_BadLength C_NoNumber C_Full := ⟨XT_BadLength, XT_NoNumber, XT_Full, m_TOO_LONG, m_MOST, z_len, z_enumerate⟩
  have GCl : FnOk l.prog w K mg base (L2N.CX l.prog w) 8 f1 _ ["length"] (spChklX C_BadLength) := (ok_chklX F1 TPL)
  have GCt : FnOk l.prog w K mg base (L2N.CX l.prog w) 7 f2 _ ["length", "at", "many"] (spChksX C_BadStretch) := (ok_chksX F2 XT_BadStretch)
  have GCs : FnOk l.prog w K mg base (L2N.CX l.prog w) 8 f3 _ ["length", "sayings"] (spChkssX K C_BadStretch) := (ok_chkssX F3 ⟨GCt, b2, k2, g2⟩)
  have GLt : FnOk l.prog w K mg base (L2N.CX l.prog w) 7 f4 _ ["letter"] (spLetterX C_BadLetter) := (ok_letterX F4 T XT_BadLetter)
  have GCm : FnOk l.prog w K mg base (L2N.CX l.prog w) 8 f5 _ ["length", "letter", "at", "many"] (spCmemX C_BadLetter C_BadStretch) := (ok_cmemX F5 GLt k4 b4 g4 GCt k2 b2 g2)
  have GPo : FnOk l.prog w K mg base (L2N.CX l.prog w) 8 f6 _ ["rows", "number"] (spPlo K C_NoNumber) := (ok_plo F6 TPL)
  have GPo7 : FnOk l.prog w K mg base (L2N.CX l.prog w) 7 f6 _ ["rows", "number"] (spPlo K C_NoNumber) := (ok_plo F6 TPL)
  have GWo : FnOk l.prog w K mg base (L2N.CX l.prog w) 8 f7 _ ["rows", "number"] (spWout K C_NoNumber) := (ok_wout F7 ⟨GPo7, b6, k6, g6⟩)
  have GUn : FnOk l.prog w K mg base CX0 8 f8 _ ["rows"] (spUnn K) := (ok_unn F8)
  have GCr : FnOk l.prog w K mg base (L2N.CX l.prog w) 8 f9 _ ["rows"] (spRoom K C_Full) := (ok_room F9 TPL)
  have GCg : FnOk l.prog w K mg base (L2N.CX l.prog w) 8 f10 _ ["many"] (spChg C_BadLength) := (ok_chg F10 TPL)
  have GSh : FnOk l.prog w K mg base CX0 7 f45 _ ["self", "size", "upcoming", "said", "noted"] (spSinit C_Sheet) := (ok_sinit F45 TXS)
  have TSH : TSh l.prog w K mg base C_Sheet C_BadLength C_NoNumber C_Full C_BadStretch C_BadLetter C_InUse f45 f1 f3 f5 f6 f7 f8 f9 f10 f48 f49 _ _ _ _ _ _ _ _ _ _ _ := ⟨TXS, ⟨mk_Sheet, a45, i45, kc_Sheet⟩, GSh, b45, gC_Sheet, GCl, b1, k1, g1, GCs, b3, k3, g3, GCm, b5, k5, g5, GPo, b6, k6, g6, GWo, b7, k7, g7, GUn, b8, k8, g8, GCr, b9, k9, g9, GCg, b10, k10, g10, ⟨a48, i48, k48⟩, b48, ⟨a49, i49, k49⟩, b49, XT_InUse, z_max⟩
  have G1 : FnOk l.prog w K mg base (L2N.CX l.prog w) 9 f46 _ ["self", "row"] (spShws C_Sheet C_BadStretch C_Full) := (ok_shws F46 TSH)
  have G2 : FnOk l.prog w K mg base (L2N.CX l.prog w) 9 f47 _ ["self", "row"] (spShwm C_Sheet C_BadLetter C_BadStretch C_Full) := (ok_shwm F47 TSH)
  have TXB : TxB K mg C_Book C_Sheet := ⟨TXS, cl_Book, n_Book_sheets, n_Book_here, n_Book_song, n_Book_notes, ne_BS, z_list, z_len⟩
  have Gbs : FnOk l.prog w K mg base CX0 7 f52 _ ["self"] (spBsheet C_Book C_Sheet) := (ok_bsheet F52 TXB)
  have TB1_ : TB1 l.prog w K mg base C_Book C_Sheet f52 _ := ⟨TXB, ⟨a52, i52, k52⟩, Gbs, b52⟩
  have Gbl : FnOk l.prog w K mg base CX0 8 f53 _ ["self"] (spBlen C_Book C_Sheet) := (ok_blen F53 TB1_)
  have Gbc : FnOk l.prog w K mg base CX0 8 f54 _ ["self"] (spBcom C_Book C_Sheet) := (ok_bcom F54 TB1_)
  have Gba : FnOk l.prog w K mg base CX0 8 f55 _ ["self"] (spBsay C_Book C_Sheet) := (ok_bsay F55 TB1_)
  have Gbm : FnOk l.prog w K mg base CX0 8 f56 _ ["self"] (spBmem C_Book C_Sheet) := (ok_bmem F56 TB1_)
  have Gbu : FnOk l.prog w K mg base CX0 7 f57 _ ["self"] (spBundb C_Book C_Sheet) := (ok_bundb F57 TXB)
  have Gbr : FnOk l.prog w K mg base CX0 7 f58 _ ["self"] (spBredb C_Book C_Sheet) := (ok_bredb F58 TXB)
  have GBi : FnOk l.prog w K mg base (L2N.CX l.prog w) 9 f51 _ ["self", "length"] (spBinit C_Book C_Sheet C_BadLength) := (ok_binit F51 TXB ⟨GCl, b1, k1, g1, ⟨mk_Sheet, a45, i45, kc_Sheet⟩, GSh, b45, gC_Sheet⟩)
  have GLn : FnOk l.prog w K mg base CX0 9 f25 _ ["_law_state", "_law_deed_here"] (spNx true) := (ok_lln F25 ⟨(ok_gs F26), b26, k26, g26, (ok_num F27), b27, k27, g27, z_max, z_len⟩)
  have GRn : FnOk l.prog w K mg base CX0 9 f28 _ ["_law_state", "_law_deed_here"] (spNx false) := (ok_lrn F28 ⟨(ok_gs F26), b26, k26, g26, (ok_num F27), b27, k27, g27, z_max, z_len⟩)
  have GDm : FnOk l.prog w K mg base CX0 10 f29 _ ["_law_book_here", "_law_deed_here"] spDm := (ok_ldm F29 ⟨GLn, b25, k25, g25, GRn, b28, k28, g28, z_int⟩)
  have GSt : FnOk l.prog w K mg base CX0 9 f42 _ ["_law_book_here", "_law_model"] (spStd C_Book C_Sheet) := (ok_lst F42 ⟨cl_Book, ⟨a53, i53, k53⟩, Gbl, b53, ⟨a54, i54, k54⟩, Gbc, b54, ⟨a55, i55, k55⟩, Gba, b55, ⟨a56, i56, k56⟩, Gbm, b56, ⟨a57, i57, k57⟩, Gbu, b57, ⟨a58, i58, k58⟩, Gbr, b58, (ok_same F30 b30 g30 T 7), b30, k30, g30, z_len⟩)
  have GLb : FnOk l.prog w K mg base CX0 8 f24 _ ["_law_length"] spLb := (ok_lb F24)
  have GD : FnOk l.prog w K mg base CX0 7 f22 _ ["_law_script", "_law_k", "_law_sizes"] (spDig K) := (ok_dig F22 (ok_raw F21 F20 b20 g20 z_len z_range) k21 b21 g21)
  have GDe : FnOk l.prog w K mg base CX0 8 f34 _ ["_law_script", "_law_k", "_law_state"] (spDeed K) := (ok_deed F34 ⟨GD, b22, k22, g22, (ok_say F32 (ok_dig F22 (ok_raw F21 F20 b20 g20 z_len z_range) k21 b21 g21) k22 b22 g22 z_min z_max), b32, k32, g32, (ok_ll F33), b33, k33, g33, z_max, z_int, z_len⟩)
  have GTe : FnOk l.prog w K mg base CX0 7 f23 _ ["_law_figures"] spTen := (ok_ten F23 z_range)
  have GGd : FnOk l.prog w K mg base CX0 9 f35 _ ["_law_script", "_law_k", "_law_state"] (spGd K) := (ok_lgd F35 ⟨GDe, b34, k34, g34, GD, b22, k22, g22⟩)
  have GLp : FnOk l.prog w K mg base CX0 8 f36 _ ["_law_state"] spLpt := (ok_lpt F36 ⟨z_str, z_int, z_sorted⟩)
  have GSp : FnOk l.prog w K mg base CX0 8 f37 _ ["_law_script", "_law_k", "_law_text"] (spSpl K) := (ok_spl F37 ⟨GD, b22, k22, g22, z_len⟩)
  have XU_ : ExU K mg "Unfit" C_Unfit := ⟨gC_Unfit, x_Unfit, k_Unfit, b_Unfit, t_Unfit⟩
  have GNw : FnOk l.prog w K mg base (L2N.CX l.prog w) 8 f13 _ ["word"] (spNumR C_Unfit) := (ok_numR F13 ⟨z_len, z_int, m_MOST_FIGURES, XU_⟩)
  have GTu : FnOk l.prog w K mg base (L2N.CX l.prog w) 8 f14 _ ["word"] (spTurR C_Unfit) := (ok_turR F14 XU_)
  have GSw : FnOk l.prog w K mg base (L2N.CX l.prog w) 9 f15 _ ["one", "other", "many", "way"] (spSayR C_Unfit) := (ok_sayR F15 ⟨GNw, b13, k13, g13, GTu, b14, k14, g14⟩)
  have GWd : FnOk l.prog w K mg base (L2N.CX l.prog w) 8 f12 _ ["row"] (spWdsR C_Unfit) := (ok_wdsR F12 XU_)
  have Gln : FnOk l.prog w K mg base CX0 8 f50 _ ["self"] (spLast C_Sheet) := (ok_last F50 TXS ⟨z_max⟩)
  have TRI : TRi l.prog w K mg base C_Sheet C_Unfit f13 f50 _ _ := ⟨TXS, GNw, b13, k13, g13, ⟨a50, i50, k50⟩, Gln, b50, XU_⟩
  have GRi : FnOk l.prog w K mg base (L2N.CX l.prog w) 9 f19 _ ["sheet", "word"] (spRis C_Sheet C_Unfit) := (ok_ris F19 TRI)
  have TRD : TRd l.prog w K mg base C_Sheet C_BadStretch C_BadLetter C_Full C_BadLength C_Unfit f13 f15 f12 f50 f19 f46 f47 f1 f45 _ _ _ _ _ _ _ _ _ := ⟨TRI, GSw, b15, k15, g15, GWd, b12, k12, g12, GRi, b19, k19, g19, ⟨a46, i46, k46⟩, G1, b46, ⟨a47, i47, k47⟩, G2, b47, GCl, b1, k1, g1, ⟨mk_Sheet, a45, i45, kc_Sheet⟩, GSh, b45, gC_Sheet, m_GREATEST_NEXT⟩
  have GSg : FnOk l.prog w K mg base (L2N.CX l.prog w) 9 f17 _ ["row"] (spSong C_Sheet (fun c => c = C_Unfit ∨ c = C_BadStretch ∨ c = C_BadLetter ∨ c = C_Full)) := (ok_sng F17 TRD (.inl rfl))
  have GRo : FnOk l.prog w K mg base (L2N.CX l.prog w) 10 f18 _ ["sheet", "row"] (spRow C_Sheet (fun c => c = C_Unfit ∨ c = C_BadStretch ∨ c = C_BadLetter ∨ c = C_Full)) := (ok_row F18 TRD (.inl rfl) (.inr (.inl rfl)) (.inr (.inr (.inl rfl))) (.inr (.inr (.inr rfl))))
  have GBo : FnOk l.prog w K mg base CX0 11 f11 _ ["sheet"] (spBof C_Book C_Sheet) := (ok_bof (BL := C_BadLength) F11 ⟨TXB, ⟨mk_Book, a51, i51, kc_Book⟩, (fn_calm GBi), b51, gC_Book⟩)
  have OX : OexC K C_BadPage := ⟨⟨nmB, qB, NB, bsB, bmB, snB, suB, abB, colB, ddB, k0B, k1B, k2B, k3B, k5B, lCB, rBm⟩, saB, b_BadPage, t_BadPage, k_BadPage⟩
  have TBP : TBp l.prog K mg C_BadPage fBP _ := ⟨⟨⟨"__init__", "BadPage.__init__", defArgs sBadPageInit, defBody sBadPageInit, defScope sBadPageInit, [(("__class__" : Str), ccB)], cdB⟩, ccB, dcB, pmB, ctB, ocB, odB, slB, rfl, lBP, cBP, rfl, rfl, rfl, ⟨⟨ocB, odB, slB, lBP⟩, ⟨_, rfl, rfl⟩, ⟨_, _, _, _, _, _, lcdB, v2B, flB⟩, ⟨_, _, _, lceB⟩, mrB, spB, opB, isB, z_super, toB⟩⟩, OX, atB⟩
  have GBP : FnH l.prog w K mg base CX0 9 fBP _ ["self", "at"] (spBpi C_BadPage) := ok_bpi TBP
  have xU1 : PySem.W.exmOne K (.ref C_Unfit) (.ref C_Unfit) = some true := PySem.W.exm_ref b_Unfit e4_Unfit t_Unfit w_Unfit_Unfit
  have xU2 : PySem.W.exmOne K (.ref C_Unfit) (.ref C_RepriseError) = some false := PySem.W.exm_ref re_b re_d re_t w_Unfit_RE
  have any2 : ∀ {c : Value} {x y : Bool}, PySem.W.exmOne K c (.ref C_Unfit) = some x → PySem.W.exmOne K c (.ref C_RepriseError) = some y → (x || y) = true → PySem.W.exmAny K c [.ref C_Unfit, .ref C_RepriseError] = some true := fun {c x y} h1 h2 h3 => by
    unfold PySem.W.exmAny PySem.W.exmAny PySem.W.exmAny
    rw [h1, h2]
    show some (x || (y || false)) = some true
    rw [Bool.or_false, h3]
  have xA_BadStretch := any2 (PySem.W.exm_ref b_Unfit e4_Unfit t_Unfit w_BadStretch_Unfit) XM_BadStretch rfl
  have xA_BadLetter := any2 (PySem.W.exm_ref b_Unfit e4_Unfit t_Unfit w_BadLetter_Unfit) XM_BadLetter rfl
  have xA_Full := any2 (PySem.W.exm_ref b_Unfit e4_Unfit t_Unfit w_Full_Unfit) XM_Full rfl
  have GRd : FnOk l.prog w K mg base (L2K.CX l.prog w) 12 f16 _ ["text"] (spReadR C_Book C_Sheet C_BadPage) := ok_readR (R := (fun c => c = C_Unfit ∨ c = C_BadStretch ∨ c = C_BadLetter ∨ c = C_Full)) F16 ⟨GSg, b17, k17, g17, GRo, b18, k18, g18, GBo, b11, k11, g11, z_enumerate, gC_Unfit, gC_RepriseError, gC_BadPage, OX, aBP, tBP, GBP, .all (fun us hl => match us, hl with | [_, _], _ => rfl), fun c hc => (by rcases hc with rfl | rfl | rfl | rfl <;> first | exact any2 xU1 xU2 rfl | exact xA_BadStretch | exact xA_BadLetter | exact xA_Full)⟩
  have GLw : FnOk l.prog w K mg base CX0 8 f38 _ ["_law_word"] spNw := (ok_nw F38 ⟨z_len, z_int⟩)
  have GTh : FnOk l.prog w K mg base CX0 9 f39 _ ["_law_words", "_law_kinds"] spTh := (ok_th F39 ⟨GLw, b38, k38, g38, z_len, z_zip⟩)
  have GDr : FnOk l.prog w K mg base CX0 10 f40 _ ["_law_row", "_law_state"] spDr := (ok_dr F40 ⟨(ok_num F27), b27, k27, g27, (ok_gs F26), b26, k26, g26, GTh, b39, k39, g39, z_len, z_max, z_tuple⟩)
  have GDp : FnOk l.prog w K mg base CX0 11 f41 _ ["_law_text"] spDp := (ok_dp F41 ⟨GTh, b39, k39, g39, GDr, b40, k40, g40, z_len, z_range⟩)
  have KD_BadPage := (⟨⟨e1_BadPage, e2_BadPage, b_BadPage, e4_BadPage, e5_BadPage, e6_all, e7_all, e8_BadPage⟩, by decide, fun i c h => match i, h with | 0, h => by cases h; exact q0_BadPage | 1, h => by cases h; exact q1_BadPage | 2, h => by cases h; exact q2_BadPage | 3, h => by cases h; exact q3_BadPage | 4, h => by cases h; exact q4_BadPage | 5, h => by cases h; exact q5_BadPage | 6, h => by cases h; exact q6_BadPage | 7, h => by cases h; exact q7_BadPage | 8, h => by cases h; exact q8_BadPage | _ + 9, h => by simp at h, qV_BadPage⟩ : KinD K [C_BadLength, C_BadStretch, C_NoPlace, C_NoNumber, C_BadLetter, C_Full, C_InUse, C_NothingLeft, C_BadPage] C_BadPage 8)
  have GKq : FnQ l.prog w K mg base CX0 8 f31 _ ["_law_e"] (spKinQ K [C_BadLength, C_BadStretch, C_NoPlace, C_NoNumber, C_BadLetter, C_Full, C_InUse, C_NothingLeft, C_BadPage]) := ok_kinQ F31 KM_ z_isinstance z_ValueError z_zip
  have GRl : FnOk l.prog w K mg base CX0 13 f43 _ ["_law_text"] (spRl C_Book C_Sheet) := (ok_rl F43 ⟨GRd, b16, k16, g16, GKq, b31, k31, g31, gC_BadPage, KD_BadPage, (PySem.W.exm_ref b_BadPage e4_BadPage t_BadPage w_BadPage_BadPage), ⟨e1_BadPage, e2_BadPage, b_BadPage, e4_BadPage⟩, atB⟩)
  exact ok_law41 F44 ⟨GD, b22, k22, g22, GTe, b23, k23, g23, GLb, b24, k24, g24, GDm, b29, k29, g29, GGd, b35, k35, g35, GLp, b36, k36, g36, GSp, b37, k37, g37, GDp, b41, k41, g41, GRl, b43, k43, g43, (ok_same F30 b30 g30 T 7), b30, k30, g30, GSt, b42, k42, g42, z_range⟩
end Rep
open PySem PySem.W PyProof.Rows
set_option maxRecDepth 100000 in
set_option maxHeartbeats 0 in
theorem PySem.Challenge.cw_reprise_k41_pages_refused_holds : PySem.Challenge.rw_reprise_k41_pages_refused.Holds := by
  w_on; o_law
  refine holds_open (q := Rep.mkK.view_1) (loose := Rep.looseK) (Xt := fun s => xlAt Rep.mkK.view_1 Rep.lvK s && recOk (RowW.records Rep.rowK.toRowW) s) (XP := XL Rep.mkK.view_1 Rep.lvK) (Yf := Hook.obs (kHook Rep.mkK.heap_1 Rep.asK Rep.asK_eq)) (Ya := Hook.val (kHook Rep.mkK.heap_1 Rep.asK Rep.asK_eq)) (YP := Hook.says (kHook Rep.mkK.heap_1 Rep.asK Rep.asK_eq)) (N := 20700) Rep.leftK (Hook.of (kHook Rep.mkK.heap_1 Rep.asK Rep.asK_eq)) (Hook.keeps (kHook Rep.mkK.heap_1 Rep.asK Rep.asK_eq)) (fun s e => xl_of s (Bool.and_eq_true_iff.mp e).1) XL.keeps (by rfl) (by rfl) (by rfl) (fun s e => recFacts_of (Bool.and_eq_true_iff.mp e).2) (by rfl) (by first | assumption | decide +kernel) (by decide +kernel) ⟨rfl, rfl, rfl, rfl, rfl, by decide +kernel⟩ ?hw ?hc
  (case hw => w_witness2)
  k_fill
  refine Rep.walk_top (l := PySem.Challenge.rw_reprise_k41_pages_refused) (n := 63) (k := 14) (x := "_law_script") (CX := fun _ => L2.CX0) rfl (by decide) rfl ⟨rfl, by decide, by decide⟩ (fun w h Y => PySem.W.kIn_of Y) ?F (fun _ _ _ _ _ h => h)
  case F =>
    intro w mg mb mean fa h KX TT hmg
    refine' Rep.all_mk KX TT hmg ?aC_Sheet ?aC_Book ?aC_BadLength ?aC_BadStretch ?aC_NoPlace ?aC_NoNumber ?aC_BadLetter ?aC_Full ?aC_InUse ?aC_NothingLeft ?aC_BadPage ?aC_RepriseError ?aC_Unfit ?a1 ?l1 ?c1 ?k1 ?a2 ?l2 ?c2 ?k2 ?a3 ?l3 ?c3 ?k3 ?a4 ?l4 ?c4 ?k4 ?a5 ?l5 ?c5 ?k5 ?a6 ?l6 ?c6 ?k6 ?a7 ?l7 ?c7 ?k7 ?a8 ?l8 ?c8 ?k8 ?a9 ?l9 ?c9 ?k9 ?a10 ?l10 ?c10 ?k10 ?a11 ?l11 ?c11 ?k11 ?a12 ?l12 ?c12 ?k12 ?a13 ?l13 ?c13 ?k13 ?a14 ?l14 ?c14 ?k14 ?a15 ?l15 ?c15 ?k15 ?a16 ?l16 ?c16 ?k16 ?a17 ?l17 ?c17 ?k17 ?a18 ?l18 ?c18 ?k18 ?a19 ?l19 ?c19 ?k19 ?a20 ?l20 ?c20 ?k20 ?a21 ?l21 ?c21 ?k21 ?a22 ?l22 ?c22 ?k22 ?a23 ?l23 ?c23 ?k23 ?a24 ?l24 ?c24 ?k24 ?a25 ?l25 ?c25 ?k25 ?a26 ?l26 ?c26 ?k26 ?a27 ?l27 ?c27 ?k27 ?a28 ?l28 ?c28 ?k28 ?a29 ?l29 ?c29 ?k29 ?a30 ?l30 ?c30 ?k30 ?a31 ?l31 ?c31 ?k31 ?a32 ?l32 ?c32 ?k32 ?a33 ?l33 ?c33 ?k33 ?a34 ?l34 ?c34 ?k34 ?a35 ?l35 ?c35 ?k35 ?a36 ?l36 ?c36 ?k36 ?a37 ?l37 ?c37 ?k37 ?a38 ?l38 ?c38 ?k38 ?a39 ?l39 ?c39 ?k39 ?a40 ?l40 ?c40 ?k40 ?a41 ?l41 ?c41 ?k41 ?a42 ?l42 ?c42 ?k42 ?a43 ?l43 ?c43 ?k43 ?a44 ?l44 ?c44 ?k44 ?a45 ?i45 ?l45 ?c45 ?k45 ?a46 ?i46 ?l46 ?c46 ?k46 ?a47 ?i47 ?l47 ?c47 ?k47 ?a48 ?i48 ?l48 ?c48 ?k48 ?a49 ?i49 ?l49 ?c49 ?k49 ?a50 ?i50 ?l50 ?c50 ?k50 ?a51 ?i51 ?l51 ?c51 ?k51 ?a52 ?i52 ?l52 ?c52 ?k52 ?a53 ?i53 ?l53 ?c53 ?k53 ?a54 ?i54 ?l54 ?c54 ?k54 ?a55 ?i55 ?l55 ?c55 ?k55 ?a56 ?i56 ?l56 ?c56 ?k56 ?a57 ?i57 ?l57 ?c57 ?k57 ?a58 ?i58 ?l58 ?c58 ?k58 ?pg_Sheet ?hd_Sheet ?po_Sheet ?sa_Sheet ?mk_Sheet ?kc_Sheet ?pg_Book ?hd_Book ?po_Book ?sa_Book ?mk_Book ?kc_Book ?n_Sheet_size ?n_Sheet_upcoming ?n_Sheet_said ?n_Sheet_noted ?n_Book_sheets ?n_Book_here ?n_Book_song ?n_Book_notes ?aI_TOO_LONG ?aI_MOST ?aI_MOST_FIGURES ?aI_GREATEST_NEXT ?y_len ?y_range ?y_list ?y_isinstance ?y_bool ?y_int ?y_tuple ?y_str ?y_all ?y_zip ?y_min ?y_max ?y_enumerate ?y_ValueError ?y_sorted ?y_super ?r_TOO_LONG ?r_MOST ?r_MOST_FIGURES ?r_GREATEST_NEXT ?re_b ?re_d ?re_t ?x_BadLength ?k_BadLength ?b_BadLength ?t_BadLength ?x_BadStretch ?k_BadStretch ?b_BadStretch ?t_BadStretch ?x_NoNumber ?k_NoNumber ?b_NoNumber ?t_NoNumber ?x_BadLetter ?k_BadLetter ?b_BadLetter ?t_BadLetter ?x_Full ?k_Full ?b_Full ?t_Full ?x_InUse ?k_InUse ?b_InUse ?t_InUse ?s_BadStretch ?w_BadStretch_Unfit ?s_BadLetter ?w_BadLetter_Unfit ?s_Full ?w_Full_Unfit ?e6_all ?e7_all ?ne_BS ?x_Unfit ?k_Unfit ?b_Unfit ?t_Unfit ?e4_Unfit ?k_BadPage ?b_BadPage ?t_BadPage ?e4_BadPage ?s_BadPage ?e1_BadPage ?e2_BadPage ?e5_BadPage ?e8_BadPage ?q0_BadPage ?q1_BadPage ?q2_BadPage ?q3_BadPage ?q4_BadPage ?q5_BadPage ?q6_BadPage ?q7_BadPage ?q8_BadPage ?qV_BadPage ?w_BadPage_BadPage ?w_Unfit_Unfit ?w_Unfit_RE ?aBP ?lBP ?tBP ?cBP ?lcdB ?v2B ?flB ?lceB ?lCB ?rBm ?saB ?atB ?mrB ?spB ?opB ?isB ?toB
    (case aC_Sheet => k_is)
    (case aC_Book => k_is)
    (case aC_BadLength => k_is)
    (case aC_BadStretch => k_is)
    (case aC_NoPlace => k_is)
    (case aC_NoNumber => k_is)
    (case aC_BadLetter => k_is)
    (case aC_Full => k_is)
    (case aC_InUse => k_is)
    (case aC_NothingLeft => k_is)
    (case aC_BadPage => k_is)
    (case aC_RepriseError => k_is)
    (case aC_Unfit => k_is)
    (case a1 => k_is)
    (case l1 => k_is)
    (case c1 => k_is)
    (case k1 => k_is)
    (case a2 => k_is)
    (case l2 => k_is)
    (case c2 => k_is)
    (case k2 => k_is)
    (case a3 => k_is)
    (case l3 => k_is)
    (case c3 => k_is)
    (case k3 => k_is)
    (case a4 => k_is)
    (case l4 => k_is)
    (case c4 => k_is)
    (case k4 => k_is)
    (case a5 => k_is)
    (case l5 => k_is)
    (case c5 => k_is)
    (case k5 => k_is)
    (case a6 => k_is)
    (case l6 => k_is)
    (case c6 => k_is)
    (case k6 => k_is)
    (case a7 => k_is)
    (case l7 => k_is)
    (case c7 => k_is)
    (case k7 => k_is)
    (case a8 => k_is)
    (case l8 => k_is)
    (case c8 => k_is)
    (case k8 => k_is)
    (case a9 => k_is)
    (case l9 => k_is)
    (case c9 => k_is)
    (case k9 => k_is)
    (case a10 => k_is)
    (case l10 => k_is)
    (case c10 => k_is)
    (case k10 => k_is)
    (case a11 => k_is)
    (case l11 => k_is)
    (case c11 => k_is)
    (case k11 => k_is)
    (case a12 => k_is)
    (case l12 => k_is)
    (case c12 => k_is)
    (case k12 => k_is)
    (case a13 => k_is)
    (case l13 => k_is)
    (case c13 => k_is)
    (case k13 => k_is)
    (case a14 => k_is)
    (case l14 => k_is)
    (case c14 => k_is)
    (case k14 => k_is)
    (case a15 => k_is)
    (case l15 => k_is)
    (case c15 => k_is)
    (case k15 => k_is)
    (case a16 => k_is)
    (case l16 => k_is)
    (case c16 => k_is)
    (case k16 => k_is)
    (case a17 => k_is)
    (case l17 => k_is)
    (case c17 => k_is)
    (case k17 => k_is)
    (case a18 => k_is)
    (case l18 => k_is)
    (case c18 => k_is)
    (case k18 => k_is)
    (case a19 => k_is)
    (case l19 => k_is)
    (case c19 => k_is)
    (case k19 => k_is)
    (case a20 => k_is)
    (case l20 => k_is)
    (case c20 => k_is)
    (case k20 => k_is)
    (case a21 => k_is)
    (case l21 => k_is)
    (case c21 => k_is)
    (case k21 => k_is)
    (case a22 => k_is)
    (case l22 => k_is)
    (case c22 => k_is)
    (case k22 => k_is)
    (case a23 => k_is)
    (case l23 => k_is)
    (case c23 => k_is)
    (case k23 => k_is)
    (case a24 => k_is)
    (case l24 => k_is)
    (case c24 => k_is)
    (case k24 => k_is)
    (case a25 => k_is)
    (case l25 => k_is)
    (case c25 => k_is)
    (case k25 => k_is)
    (case a26 => k_is)
    (case l26 => k_is)
    (case c26 => k_is)
    (case k26 => k_is)
    (case a27 => k_is)
    (case l27 => k_is)
    (case c27 => k_is)
    (case k27 => k_is)
    (case a28 => k_is)
    (case l28 => k_is)
    (case c28 => k_is)
    (case k28 => k_is)
    (case a29 => k_is)
    (case l29 => k_is)
    (case c29 => k_is)
    (case k29 => k_is)
    (case a30 => k_is)
    (case l30 => k_is)
    (case c30 => k_is)
    (case k30 => k_is)
    (case a31 => k_is)
    (case l31 => k_is)
    (case c31 => k_is)
    (case k31 => k_is)
    (case a32 => k_is)
    (case l32 => k_is)
    (case c32 => k_is)
    (case k32 => k_is)
    (case a33 => k_is)
    (case l33 => k_is)
    (case c33 => k_is)
    (case k33 => k_is)
    (case a34 => k_is)
    (case l34 => k_is)
    (case c34 => k_is)
    (case k34 => k_is)
    (case a35 => k_is)
    (case l35 => k_is)
    (case c35 => k_is)
    (case k35 => k_is)
    (case a36 => k_is)
    (case l36 => k_is)
    (case c36 => k_is)
    (case k36 => k_is)
    (case a37 => k_is)
    (case l37 => k_is)
    (case c37 => k_is)
    (case k37 => k_is)
    (case a38 => k_is)
    (case l38 => k_is)
    (case c38 => k_is)
    (case k38 => k_is)
    (case a39 => k_is)
    (case l39 => k_is)
    (case c39 => k_is)
    (case k39 => k_is)
    (case a40 => k_is)
    (case l40 => k_is)
    (case c40 => k_is)
    (case k40 => k_is)
    (case a41 => k_is)
    (case l41 => k_is)
    (case c41 => k_is)
    (case k41 => k_is)
    (case a42 => k_is)
    (case l42 => k_is)
    (case c42 => k_is)
    (case k42 => k_is)
    (case a43 => k_is)
    (case l43 => k_is)
    (case c43 => k_is)
    (case k43 => k_is)
    (case a44 => k_is)
    (case l44 => k_is)
    (case c44 => k_is)
    (case k44 => k_is)
    (case a45 => k_is)
    (case i45 => k_is)
    (case l45 => k_is)
    (case c45 => k_is)
    (case k45 => k_is)
    (case a46 => k_is)
    (case i46 => k_is)
    (case l46 => k_is)
    (case c46 => k_is)
    (case k46 => k_is)
    (case a47 => k_is)
    (case i47 => k_is)
    (case l47 => k_is)
    (case c47 => k_is)
    (case k47 => k_is)
    (case a48 => k_is)
    (case i48 => k_is)
    (case l48 => k_is)
    (case c48 => k_is)
    (case k48 => k_is)
    (case a49 => k_is)
    (case i49 => k_is)
    (case l49 => k_is)
    (case c49 => k_is)
    (case k49 => k_is)
    (case a50 => k_is)
    (case i50 => k_is)
    (case l50 => k_is)
    (case c50 => k_is)
    (case k50 => k_is)
    (case a51 => k_is)
    (case i51 => k_is)
    (case l51 => k_is)
    (case c51 => k_is)
    (case k51 => k_is)
    (case a52 => k_is)
    (case i52 => k_is)
    (case l52 => k_is)
    (case c52 => k_is)
    (case k52 => k_is)
    (case a53 => k_is)
    (case i53 => k_is)
    (case l53 => k_is)
    (case c53 => k_is)
    (case k53 => k_is)
    (case a54 => k_is)
    (case i54 => k_is)
    (case l54 => k_is)
    (case c54 => k_is)
    (case k54 => k_is)
    (case a55 => k_is)
    (case i55 => k_is)
    (case l55 => k_is)
    (case c55 => k_is)
    (case k55 => k_is)
    (case a56 => k_is)
    (case i56 => k_is)
    (case l56 => k_is)
    (case c56 => k_is)
    (case k56 => k_is)
    (case a57 => k_is)
    (case i57 => k_is)
    (case l57 => k_is)
    (case c57 => k_is)
    (case k57 => k_is)
    (case a58 => k_is)
    (case i58 => k_is)
    (case l58 => k_is)
    (case c58 => k_is)
    (case k58 => k_is)
    (case pg_Sheet => k_is)
    (case hd_Sheet => k_is)
    (case po_Sheet => k_is)
    (case sa_Sheet => k_is)
    (case mk_Sheet => k_is)
    (case kc_Sheet => k_is)
    (case pg_Book => k_is)
    (case hd_Book => k_is)
    (case po_Book => k_is)
    (case sa_Book => k_is)
    (case mk_Book => k_is)
    (case kc_Book => k_is)
    (case n_Sheet_size => k_is)
    (case n_Sheet_upcoming => k_is)
    (case n_Sheet_said => k_is)
    (case n_Sheet_noted => k_is)
    (case n_Book_sheets => k_is)
    (case n_Book_here => k_is)
    (case n_Book_song => k_is)
    (case n_Book_notes => k_is)
    (case aI_TOO_LONG => k_is)
    (case aI_MOST => k_is)
    (case aI_MOST_FIGURES => k_is)
    (case aI_GREATEST_NEXT => k_is)
    (case y_len => k_is)
    (case y_range => k_is)
    (case y_list => k_is)
    (case y_isinstance => k_is)
    (case y_bool => k_is)
    (case y_int => k_is)
    (case y_tuple => k_is)
    (case y_str => k_is)
    (case y_all => k_is)
    (case y_zip => k_is)
    (case y_min => k_is)
    (case y_max => k_is)
    (case y_enumerate => k_is)
    (case y_ValueError => k_is)
    (case y_sorted => k_is)
    (case y_super => k_is)
    (case r_TOO_LONG => exact ⟨_, rfl⟩)
    (case r_MOST => exact ⟨_, rfl⟩)
    (case r_MOST_FIGURES => exact ⟨_, rfl⟩)
    (case r_GREATEST_NEXT => exact ⟨_, rfl⟩)
    (case re_b => k_is)
    (case re_d => k_is)
    (case re_t => k_is)
    (case x_BadLength => k_exc)
    (case k_BadLength => k_is)
    (case b_BadLength => k_is)
    (case t_BadLength => k_is)
    (case x_BadStretch => k_exc)
    (case k_BadStretch => k_is)
    (case b_BadStretch => k_is)
    (case t_BadStretch => k_is)
    (case x_NoNumber => k_exc)
    (case k_NoNumber => k_is)
    (case b_NoNumber => k_is)
    (case t_NoNumber => k_is)
    (case x_BadLetter => k_exc)
    (case k_BadLetter => k_is)
    (case b_BadLetter => k_is)
    (case t_BadLetter => k_is)
    (case x_Full => k_exc)
    (case k_Full => k_is)
    (case b_Full => k_is)
    (case t_Full => k_is)
    (case x_InUse => k_exc)
    (case k_InUse => k_is)
    (case b_InUse => k_is)
    (case t_InUse => k_is)
    (case s_BadStretch => k_is)
    (case w_BadStretch_Unfit => k_is)
    (case s_BadLetter => k_is)
    (case w_BadLetter_Unfit => k_is)
    (case s_Full => k_is)
    (case w_Full_Unfit => k_is)
    (case e6_all => k_is)
    (case e7_all => k_is)
    (case ne_BS => decide)
    (case x_Unfit => k_exc)
    (case k_Unfit => k_is)
    (case b_Unfit => k_is)
    (case t_Unfit => k_is)
    (case e4_Unfit => k_is)
    (case k_BadPage => k_is)
    (case b_BadPage => k_is)
    (case t_BadPage => k_is)
    (case e4_BadPage => k_is)
    (case s_BadPage => k_is)
    (case e1_BadPage => k_is)
    (case e2_BadPage => k_is)
    (case e5_BadPage => k_is)
    (case e8_BadPage => k_is)
    (case q0_BadPage => kernel_rfl)
    (case q1_BadPage => kernel_rfl)
    (case q2_BadPage => kernel_rfl)
    (case q3_BadPage => kernel_rfl)
    (case q4_BadPage => kernel_rfl)
    (case q5_BadPage => kernel_rfl)
    (case q6_BadPage => kernel_rfl)
    (case q7_BadPage => kernel_rfl)
    (case q8_BadPage => kernel_rfl)
    (case qV_BadPage => kernel_rfl)
    (case w_BadPage_BadPage => k_is)
    (case w_Unfit_Unfit => k_is)
    (case w_Unfit_RE => k_is)
    (case aBP => k_is)
    (case lBP => k_is)
    (case tBP => k_is)
    (case cBP => k_is)
    (case lcdB => k_is)
    (case v2B => rfl)
    (case flB => first | rfl | decide +kernel | kernel_rfl)
    (case lceB => k_is)
    (case lCB => k_is)
    (case rBm => first | rfl | decide +kernel)
    (case saB => k_is)
    (case atB => k_is)
    (case mrB => k_is)
    (case spB => kernel_rfl)
    (case opB => k_is)
    (case isB => k_is)
    (case toB => first | rfl | decide +kernel | kernel_rfl)
