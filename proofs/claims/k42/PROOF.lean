import PyProof.Rows.All
import Wide.All
import OpenK.AllK
import Wide.FinOn
import HandS.ForMost
import HandS.Wide
import HandS.SortRule
import HandS.SortInts
import HandS.IsInst
import HandS.Zip
import HandS.TryOnly
import HandS.More
import HandS.Walk
import HandS.Codes
import HandS.Conv
import HandS.Style
import HandS.Flow
import HandS.SortKw
import HandS.Lambda
import HandS.EndTab
import KE.DataMinKey
import KE.DataFind
import KE.SortData
import HandS.HotCalls
import HandS.ExcIs
import HandS.CallSlots
import HandS.WordsExc
import HandS.MethStar
import HandS.FStr
import HandS.StrMore
import HandS.Text
import HandS.Codes
import HandS.FltList
import KE.OsRunLaw
import PySem.Challenge.RW_reprise_k42_orders_are_deeds
set_option Elab.async false
set_option linter.all false
set_option maxRecDepth 100000
set_option maxHeartbeats 4000000
namespace Rep
open PySem PySem.W PyProof.Rows
section
local macro_rules | `(tactic| kernel_rfl) => `(tactic| exact False.elim (by assumption))
set_option maxRecDepth 100000 in
set_option maxHeartbeats 0 in
/-- what the top leaves, by names alone: nothing is shown here -/
theorem mkK (p : False) : OpenRow.Holds (OpenLaw.row PySem.Challenge.rw_reprise_k42_orders_are_deeds) := by
  k_headL
  (case hw => w_witness2)
  exact p.elim
end
end Rep
namespace Rep
open PySem PySem.W PyProof.Rows
theorem run_all {α γ : Type} {β1 β2 β3 β4 β5 β6 β7 β8 β9 : Type} {x : Option α} {l : α → Bool} {f : α → β1 × β2 × β3 × β4 × β5 × β6 × β7 × β8 × β9} {g : α → γ} {d : γ} {c1 : β1} {c2 : β2} {c3 : β3} {c4 : β4} {c5 : β5} {c6 : β6} {c7 : β7} {c8 : β8} {c9 : β9}
    (h1 : x.map (fun s => (l s, (f s).2.1)) = some (true, c2)) (h2 : x.map (fun s => (f s).1) = some c1) (h3 : x.map (fun s => (f s).2.2.1) = some c3) (h4 : x.map (fun s => (f s).2.2.2.1) = some c4) (h5 : x.map (fun s => ((f s).2.2.2.2.1, (f s).2.2.2.2.2.2.1, (f s).2.2.2.2.2.2.2.2)) = some (c5, c7, c9)) (h6 : x.map (fun s => (f s).2.2.2.2.2.1) = some c6) (h8 : x.map (fun s => (f s).2.2.2.2.2.2.2.1) = some c8) (h9 : x.map g = some d) :
    x.map (fun s => (l s, f s, g s)) = some (true, (c1, c2, c3, c4, c5, c6, c7, c8, c9), d) := by
  cases x with
  | none => cases h2
  | some s =>
    obtain ⟨a1, a2⟩ := Prod.mk.inj (Option.some.inj h1)
    have b1 := Option.some.inj h2
    have b3 := Option.some.inj h3
    have b4 := Option.some.inj h4
    obtain ⟨b5, b7⟩ := Prod.mk.inj (Option.some.inj h5)
    obtain ⟨b7, b9⟩ := Prod.mk.inj b7
    have b6 := Option.some.inj h6
    have b8 := Option.some.inj h8
    have b10 := Option.some.inj h9
    show some (l s, f s, g s) = _
    rw [a1, ← b1, ← a2, ← b3, ← b4, ← b5, ← b6, ← b7, ← b8, ← b9, b10]
theorem map_fold {α β : Type} (f : α → β) (l : List α) : l.map f = l.foldr (fun c r => f c :: r) [] := by
  induction l with
  | nil => rfl
  | cons a l ih => rw [List.map_cons, List.foldr_cons, ih]
/-- what the plain classes ought to show, by the library's twins -/
noncomputable abbrev goodE (v : Program) (l : List Str) := (PySem.W.Fast.tw210736558901404530 v (PySem.W.Fast.tw821141287760084731 v l)).foldr (fun c r => some (PySem.W.Fast.tw12515865711710729776 c).plainShape :: r) []
theorem goodE_eq (v : Program) (l : List Str) : plainGoodE v (looseW v l) = goodE v l := by
  unfold plainGoodE goodE
  rw [← PySem.W.Fast.te210736558901404530, ← PySem.W.Fast.te821141287760084731, ← PySem.W.Fast.te12515865711710729776]
  exact map_fold _ _
abbrev rowK : OpenRow := OpenLaw.row PySem.Challenge.rw_reprise_k42_orders_are_deeds
abbrev looseK : List Str := [Str.ofString "TOO_LONG"]
abbrev lvK : List (Str × WData) := [(Str.ofString "TOO_LONG", WData.int 10000000000000000000000000000000000000000)]
def asK : List Addr := [2, 3, 15, 17, 18, 20, 21, 22, 29, 30, 31, 32, 35, 42, 43, 44, 47, 54, 55, 56, 59, 66, 67, 68, 71, 78, 79, 80, 83, 90, 91, 92, 95, 102, 103, 104, 107, 114, 115, 116, 119, 126, 127, 128, 131, 134, 139, 140, 142, 143, 145, 146, 147, 148, 149, 152, 154, 155, 157, 158, 159, 161, 162, 164, 165, 166, 168, 169, 171, 172, 173, 175, 176, 178, 179, 180, 182, 183, 185, 186, 187, 189, 190, 192, 193, 194, 196, 197, 199, 200, 201, 204, 205, 206, 208, 209, 211, 212, 213, 215, 216, 218, 219, 220, 222, 223, 225, 226, 227, 229, 230, 232, 233, 234, 237, 238, 239, 241, 242, 244, 245, 246, 248, 249, 251, 252, 253, 255, 256, 258, 259, 260, 262, 263, 265, 266, 267, 270, 271, 272, 274, 275, 277, 278, 279, 281, 282, 284, 285, 286, 289, 290, 291, 293, 294, 296, 297, 298, 300, 301, 303, 304, 305, 307, 308, 310, 311, 312, 315, 316, 317, 319, 320, 322, 323, 324, 326, 327, 329, 330, 331, 333, 334, 336, 337, 338, 340, 341, 343, 344, 352, 355, 356, 357, 359, 360, 362, 363, 364, 366, 367, 369, 370, 371, 373, 374, 376, 377, 378, 380, 381, 383, 384, 385, 387, 388, 390, 391, 392, 394, 395, 397, 398, 399, 401, 402, 404, 405, 406, 408, 409, 411, 412, 413, 414, 415, 416, 417, 427, 430, 431, 432, 434, 435, 437, 438, 439, 442, 443, 444, 446, 447, 449, 450, 451, 453, 454, 456, 457, 458, 460, 461, 463, 464, 465, 466, 467, 468, 469, 472, 474, 475, 477, 478, 479, 481, 482, 484, 485, 486, 489, 490, 491, 493, 494, 496, 497, 498, 500, 501, 503, 504, 512, 514, 515, 517, 518, 519, 521, 522, 524, 525, 526, 528, 529, 531, 532, 533, 535, 536, 538, 539, 540, 542, 543, 545, 546, 547, 549, 550, 552, 553, 554, 556, 557, 559, 560, 561, 563, 564, 566, 567, 568, 570, 571, 573, 574, 575, 577, 578, 580, 581, 582, 585, 586, 587, 589, 590, 592, 593, 594, 595, 596, 597, 598, 608, 610, 611, 613, 614, 615, 617, 618, 620, 621, 622, 624, 625, 627, 628, 629, 631, 632, 634, 635, 636, 638, 639, 641, 642, 643, 645, 646, 648, 649, 650, 652, 653, 655, 656, 657, 659, 660, 662, 663, 664, 666, 667, 669, 670, 671, 673, 674, 676, 677, 678, 680, 681, 683, 684, 685, 687, 688, 690, 691, 692, 694, 695, 697, 698, 699, 701, 702, 704, 705, 706, 708, 709, 711, 712, 713, 715, 716, 718, 719, 720, 722, 723, 725, 726, 727, 729, 730, 732, 733, 734, 736, 737, 739, 740, 741, 743, 744, 746, 747, 748, 750, 751, 753, 754, 755, 757, 758, 760, 761, 762, 764, 765, 767, 768, 769, 770, 771, 772, 773, 776, 778, 779, 781, 782, 783, 790, 791, 792, 793, 796, 798, 799, 801, 802, 803, 805, 806, 808, 809, 810, 812, 813, 815, 816, 817, 819, 820, 822, 823, 824, 826, 827, 829, 830, 831, 834, 835, 836, 839, 840, 841, 844, 845, 846, 849, 850, 858, 860, 861, 863, 864, 865, 867, 868, 870, 871, 872, 874, 875, 877, 878, 879, 880, 881, 882, 883, 886, 888, 889, 891, 892, 893, 895, 896, 898, 899, 900, 902, 903, 905, 906, 907, 909, 910, 912, 913, 914, 917, 918, 919, 921, 922, 924, 925, 926, 929, 930, 931, 934, 935, 936, 938, 939, 941, 942, 943, 946, 947, 948, 950, 951, 953, 954, 955, 958, 959, 960, 962, 963, 965, 966, 967, 969, 970, 972, 973, 974, 976, 977, 979, 980, 981, 983, 984, 986, 987, 988, 990, 991, 993, 994, 995, 998, 999, 1000, 1002, 1003, 1005, 1006, 1007, 1009, 1010, 1012, 1013, 1014, 1017, 1018, 1019, 1021, 1022, 1024, 1025, 1026, 1029, 1030, 1031, 1033, 1034, 1036, 1037]
theorem asK_eq (P : Params) : asK = (mkK.heap_1 P).map (·.1) := by kernel_rfl
theorem openK : opening rowK.prog = plainProg rowK.prog.main.scope.names := by kernel_rfl
theorem fenceK (s : Shared) : fenceModules? rowK.prog s = some s := by kernel_rfl
/-- the looks behind the top, by the library's twin -/
noncomputable abbrev seenK (s : SharedT) := HeadRun.seenQ mkK.view_1 looseK (importedModules rowK.prog.main.body) (fun s => xlAt mkK.view_1 lvK s && recOk (RowW.records rowK.toRowW) s) s.abs
set_option maxHeartbeats 0 in
theorem runB (w : World) (os : OsState) : (HeadRun.endF (HeadRun.stepQ (HeadRun.denQ HeadRun.tabQ) rowK.prog w) 20000 rowK.prog w os).map (fun s => ((seenK s).2.2.2.2.1, (seenK s).2.2.2.2.2.2.1, (seenK s).2.2.2.2.2.2.2.2)) = some (pinGoodD (drecsOf mkK.view_1), plainGoodD mkK.view_1 looseK, clsGoodW mkK.view_1 looseK) := by kernel_rfl
set_option maxHeartbeats 0 in
theorem runC (w : World) (os : OsState) : (HeadRun.endF (HeadRun.stepQ (HeadRun.denQ HeadRun.tabQ) rowK.prog w) 20000 rowK.prog w os).map (fun s => (seenK s).2.2.2.2.2.1) = some (goodE mkK.view_1 looseK) := by kernel_rfl
set_option maxHeartbeats 0 in
theorem runD (w : World) (os : OsState) : (HeadRun.endF (HeadRun.stepQ (HeadRun.denQ HeadRun.tabQ) rowK.prog w) 20000 rowK.prog w os).map (fun s => (seenK s).2.2.2.2.2.2.2.1) = some (wideGood mkK.view_1) := by kernel_rfl
set_option maxHeartbeats 0 in
theorem runE (w : World) (os : OsState) : (HeadRun.endF (HeadRun.stepQ (HeadRun.denQ HeadRun.tabQ) rowK.prog w) 20000 rowK.prog w os).map (fun s => (seenK s).1) = some (expectedOf mkK.view_1) := by kernel_rfl
set_option maxHeartbeats 0 in
theorem runF (w : World) (os : OsState) : (HeadRun.endF (HeadRun.stepQ (HeadRun.denQ HeadRun.tabQ) rowK.prog w) 20000 rowK.prog w os).map (fun s => (seenK s).2.2.1) = some true := by kernel_rfl
set_option maxHeartbeats 0 in
theorem runG (w : World) (os : OsState) : (HeadRun.endF (HeadRun.stepQ (HeadRun.denQ HeadRun.tabQ) rowK.prog w) 20000 rowK.prog w os).map (fun s => (seenK s).2.2.2.1) = some true := by kernel_rfl
set_option maxHeartbeats 0 in
theorem runA (w : World) (os : OsState) : (HeadRun.endF (HeadRun.stepQ (HeadRun.denQ HeadRun.tabQ) rowK.prog w) 20000 rowK.prog w os).map (fun s => (HeadRun.looksF rowK.prog (boot_heap w.params) s.abs, (seenK s).2.1)) = some (true, bltViewBooted) := by kernel_rfl
set_option maxHeartbeats 0 in
theorem runH (w : World) (os : OsState) : (HeadRun.endF (HeadRun.stepQ (HeadRun.denQ HeadRun.tabQ) rowK.prog w) 20000 rowK.prog w os).map (fun s => asK.map (HeadRun.getT s)) = some ((mkK.heap_1 w.params).map fun x => some x.2) := by kernel_rfl
theorem leftK : LeftO rowK.prog mkK.view_1 looseK (fun s => xlAt mkK.view_1 lvK s && recOk (RowW.records rowK.toRowW) s) (Hook.obs (kHook mkK.heap_1 asK asK_eq)) (Hook.val (kHook mkK.heap_1 asK asK_eq)) 20700 true :=
  HeadRun.left_oneK (M := 20000) openK (by rfl) fenceK (by rfl) fun w os =>
    run_all (f := seenK) (runA w os) (runE w os) (runF w os) (runG w os) (runB w os) ((runC w os).trans (congrArg some (goodE_eq _ _).symm)) (runD w os) (runH w os)
end Rep
namespace Rep
abbrev Pr := Int × Int
def cov (ps : List Pr) (x : Int) : Prop := ∃ p ∈ ps, p.1 ≤ x ∧ x < p.2
structure Tdy (ps : List Pr) : Prop where
  ok : ∀ p ∈ ps, p.1 < p.2
  gap : ps.Pairwise (fun p q => p.2 < q.1)
theorem cov_cons {p : Pr} {ps : List Pr} {x : Int} : cov (p :: ps) x ↔ (p.1 ≤ x ∧ x < p.2) ∨ cov ps x := by
  unfold cov
  constructor
  · rintro ⟨q, hq, h⟩
    rcases List.mem_cons.mp hq with e | hq
    · subst e; exact .inl h
    · exact .inr ⟨q, hq, h⟩
  · rintro (h | ⟨q, hq, h⟩)
    · exact ⟨p, List.mem_cons_self, h⟩
    · exact ⟨q, List.mem_cons_of_mem _ hq, h⟩
theorem cov_nil {x : Int} : ¬ cov [] x := by
  rintro ⟨q, hq, _⟩; cases hq
theorem Tdy.tail {p : Pr} {ps : List Pr} (h : Tdy (p :: ps)) : Tdy ps :=
  ⟨fun q hq => h.ok q (List.mem_cons_of_mem _ hq), (List.pairwise_cons.mp h.gap).2⟩
theorem Tdy.behind {p : Pr} {ps : List Pr} (h : Tdy (p :: ps)) {x : Int} (c : cov ps x) : p.2 < x := by
  obtain ⟨q, hq, h1, h2⟩ := c
  have := (List.pairwise_cons.mp h.gap).1 q hq
  omega
theorem Tdy.uniq : ∀ {a b : List Pr}, Tdy a → Tdy b → (∀ x, cov a x ↔ cov b x) → a = b
  | [], [], _, _, _ => rfl
  | [], q :: b, _, hb, h => by
    have h1 := hb.ok q List.mem_cons_self
    exact absurd ((h q.1).mpr (cov_cons.mpr (.inl ⟨Int.le_refl _, h1⟩))) cov_nil
  | p :: a, [], ha, _, h => by
    have h1 := ha.ok p List.mem_cons_self
    exact absurd ((h p.1).mp (cov_cons.mpr (.inl ⟨Int.le_refl _, h1⟩))) cov_nil
  | p :: a, q :: b, ha, hb, h => by
    have hp := ha.ok p List.mem_cons_self
    have hq := hb.ok q List.mem_cons_self
    have e1 : p.1 = q.1 := by
      have x1 := (h p.1).mp (cov_cons.mpr (.inl ⟨Int.le_refl _, hp⟩))
      have x2 := (h q.1).mpr (cov_cons.mpr (.inl ⟨Int.le_refl _, hq⟩))
      rcases cov_cons.mp x1 with x1 | x1 <;> rcases cov_cons.mp x2 with x2 | x2
      · omega
      · have := ha.behind x2; omega
      · have := hb.behind x1; omega
      · have := ha.behind x2; have := hb.behind x1; omega
    have e2 : p.2 = q.2 := by
      rcases Int.lt_trichotomy p.2 q.2 with l | l | l
      · have x1 := (h p.2).mpr (cov_cons.mpr (.inl ⟨by omega, l⟩))
        rcases cov_cons.mp x1 with x1 | x1
        · omega
        · have := ha.behind x1; omega
      · exact l
      · have x1 := (h q.2).mp (cov_cons.mpr (.inl ⟨by omega, l⟩))
        rcases cov_cons.mp x1 with x1 | x1
        · omega
        · have := hb.behind x1; omega
    have e : p = q := Prod.ext e1 e2
    subst e
    have et : a = b := by
      refine Tdy.uniq ha.tail hb.tail fun x => ⟨fun c => ?_, fun c => ?_⟩
      · have l := ha.behind c
        rcases cov_cons.mp ((h x).mp (cov_cons.mpr (.inr c))) with z | z
        · omega
        · exact z
      · have l := hb.behind c
        rcases cov_cons.mp ((h x).mpr (cov_cons.mpr (.inr c))) with z | z
        · omega
        · exact z
    rw [et]
/-- one turn of tidy, what is made so far held the wrong way round -/
def tStep (acc : List Pr) (p : Pr) : List Pr :=
  if p.2 ≤ p.1 then acc else match acc with
    | [] => [p]
    | q :: r => if q.2 < p.1 then p :: q :: r else if q.2 < p.2 then (q.1, p.2) :: r else q :: r
structure RT (acc : List Pr) : Prop where
  ok : ∀ p ∈ acc, p.1 < p.2
  gap : acc.Pairwise (fun p q => q.2 < p.1)
theorem RT.tdy {acc : List Pr} (h : RT acc) : Tdy acc.reverse :=
  ⟨fun p hp => h.ok p (List.mem_reverse.mp hp), List.pairwise_reverse.mpr h.gap⟩
theorem cov_rev {acc : List Pr} {x : Int} : cov acc.reverse x ↔ cov acc x := by
  unfold cov
  constructor
  · rintro ⟨q, hq, h⟩; exact ⟨q, List.mem_reverse.mp hq, h⟩
  · rintro ⟨q, hq, h⟩; exact ⟨q, List.mem_reverse.mpr hq, h⟩
theorem RT.step {acc : List Pr} {p : Pr} (h : RT acc) (hh : ∀ q ∈ acc, q.1 ≤ p.1) :
    RT (tStep acc p) ∧ (∀ x, cov (tStep acc p) x ↔ cov acc x ∨ (p.1 ≤ x ∧ x < p.2)) ∧ ∀ q ∈ tStep acc p, q.1 ≤ p.1 := by
  unfold tStep
  by_cases e : p.2 ≤ p.1
  · rw [if_pos e]
    refine ⟨h, fun x => ⟨.inl, fun z => ?_⟩, hh⟩
    rcases z with z | z
    · exact z
    · omega
  · rw [if_neg e]
    cases acc with
    | nil =>
      refine ⟨⟨fun q hq => ?_, List.pairwise_singleton _ _⟩, fun x => ?_, fun q hq => ?_⟩
      · rw [List.mem_singleton.mp hq]; omega
      · show cov [p] x ↔ _
        rw [cov_cons]
        exact ⟨fun z => z.elim .inr .inl, fun z => z.elim .inr .inl⟩
      · rw [List.mem_singleton.mp hq]; exact Int.le_refl _
    | cons q r =>
      have hq1 := h.ok q List.mem_cons_self
      have hr : RT r := ⟨fun z hz => h.ok z (List.mem_cons_of_mem _ hz), (List.pairwise_cons.mp h.gap).2⟩
      have hg := (List.pairwise_cons.mp h.gap).1
      have hl := hh q List.mem_cons_self
      show RT (if q.2 < p.1 then p :: q :: r else if q.2 < p.2 then (q.1, p.2) :: r else q :: r) ∧ (∀ x, cov (if q.2 < p.1 then p :: q :: r else if q.2 < p.2 then (q.1, p.2) :: r else q :: r) x ↔ _) ∧ ∀ z ∈ (if q.2 < p.1 then p :: q :: r else if q.2 < p.2 then (q.1, p.2) :: r else q :: r), _
      by_cases c1 : q.2 < p.1
      · rw [if_pos c1]
        refine ⟨⟨fun z hz => ?_, List.pairwise_cons.mpr ⟨fun z hz => ?_, h.gap⟩⟩, fun x => ?_, fun z hz => ?_⟩
        · rcases List.mem_cons.mp hz with rfl | hz
          · omega
          · exact h.ok z hz
        · rcases List.mem_cons.mp hz with rfl | hz
          · exact c1
          · have := hg z hz; omega
        · rw [cov_cons]; exact Or.comm
        · rcases List.mem_cons.mp hz with rfl | hz
          · exact Int.le_refl _
          · exact hh z hz
      · rw [if_neg c1]
        by_cases c2 : q.2 < p.2
        · rw [if_pos c2]
          refine ⟨⟨fun z hz => ?_, List.pairwise_cons.mpr ⟨fun z hz => hg z hz, hr.gap⟩⟩, fun x => ?_, fun z hz => ?_⟩
          · rcases List.mem_cons.mp hz with rfl | hz
            · show q.1 < p.2; omega
            · exact hr.ok z hz
          · rw [cov_cons, cov_cons]
            show (q.1 ≤ x ∧ x < p.2) ∨ cov r x ↔ _
            constructor
            · rintro (z | z)
              · by_cases x < q.2
                · exact .inl (.inl ⟨z.1, by assumption⟩)
                · exact .inr ⟨by omega, z.2⟩
              · exact .inl (.inr z)
            · rintro ((z | z) | z)
              · exact .inl ⟨z.1, by omega⟩
              · exact .inr z
              · exact .inl ⟨by omega, z.2⟩
          · rcases List.mem_cons.mp hz with rfl | hz
            · exact hl
            · exact hh z (List.mem_cons_of_mem _ hz)
        · rw [if_neg c2]
          refine ⟨h, fun x => ⟨.inl, fun z => ?_⟩, hh⟩
          rcases z with z | z
          · exact z
          · exact cov_cons.mpr (.inl ⟨by omega, by omega⟩)
theorem fold_tidy : ∀ (ys acc : List Pr), RT acc → ys.Pairwise (fun p q => p.1 ≤ q.1) → (∀ q ∈ acc, ∀ p ∈ ys, q.1 ≤ p.1) →
    RT (ys.foldl tStep acc) ∧ ∀ x, cov (ys.foldl tStep acc) x ↔ cov acc x ∨ cov ys x
  | [], acc, h, _, _ => ⟨h, fun x => ⟨.inl, fun z => z.elim id fun z => absurd z cov_nil⟩⟩
  | p :: ys, acc, h, hs, hh => by
    obtain ⟨h1, h2, h3⟩ := h.step (p := p) fun q hq => hh q hq p List.mem_cons_self
    have hs' := List.pairwise_cons.mp hs
    obtain ⟨k1, k2⟩ := fold_tidy ys (tStep acc p) h1 hs'.2 fun q hq z hz => Int.le_trans (h3 q hq) (hs'.1 z hz)
    refine ⟨k1, fun x => ?_⟩
    show cov (ys.foldl tStep (tStep acc p)) x ↔ _
    rw [k2, h2, cov_cons, or_assoc]
/-- what tidy makes of rows in order -/
def tidyF (ys : List Pr) : List Pr := (ys.foldl tStep []).reverse
theorem tidyF_tdy {ys : List Pr} (hs : ys.Pairwise (fun p q => p.1 ≤ q.1)) : Tdy (tidyF ys) ∧ ∀ x, cov (tidyF ys) x ↔ cov ys x := by
  obtain ⟨h1, h2⟩ := fold_tidy ys [] ⟨fun p hp => (by cases hp), List.Pairwise.nil⟩ hs (fun q hq => by cases hq)
  refine ⟨h1.tdy, fun x => ?_⟩
  unfold tidyF
  rw [cov_rev, h2]
  exact ⟨fun z => z.elim (fun z => absurd z cov_nil) id, .inr⟩
/-- how many places -/
def wid (ps : List Pr) : Int := (ps.map fun p => p.2 - p.1).sum
theorem wid_cons {p : Pr} {r : List Pr} : wid (p :: r) = p.2 - p.1 + wid r := by
  unfold wid; rw [List.map_cons, List.sum_cons]
theorem wid_append {a b : List Pr} : wid (a ++ b) = wid a + wid b := by
  unfold wid; rw [List.map_append, List.sum_append]
theorem wid_rev : ∀ (a : List Pr), wid a.reverse = wid a
  | [] => rfl
  | p :: r => by
    rw [List.reverse_cons, wid_append, wid_rev r, wid_cons, wid_cons]
    show wid r + (p.2 - p.1 + 0) = _
    omega
/-- one turn of the law's own rows -/
def rStep (acc : List Pr) (x : Int) : List Pr := match acc with
  | [] => [(x, x + 1)]
  | q :: r => if q.2 = x then (q.1, x + 1) :: r else (x, x + 1) :: q :: r
theorem rStep_wid (acc : List Pr) (x : Int) : wid (rStep acc x) = wid acc + 1 := by
  cases acc with
  | nil => unfold rStep; rw [wid_cons]; show x + 1 - x + 0 = 0 + 1; omega
  | cons q r =>
    show wid (if q.2 = x then (q.1, x + 1) :: r else (x, x + 1) :: q :: r) = _
    by_cases c : q.2 = x
    · rw [if_pos c, wid_cons, wid_cons]; show x + 1 - q.1 + wid r = _; omega
    · rw [if_neg c, wid_cons]; show x + 1 - x + wid (q :: r) = _; omega
theorem rStep_eq {acc : List Pr} {x : Int} (h : ∀ q ∈ acc, q.2 ≤ x) : rStep acc x = tStep acc (x, x + 1) := by
  unfold tStep
  rw [if_neg (show ¬ (x + 1 ≤ x) by omega)]
  cases acc with
  | nil => rfl
  | cons q r =>
    have := h q List.mem_cons_self
    show (if q.2 = x then (q.1, x + 1) :: r else (x, x + 1) :: q :: r) = (if q.2 < x then (x, x + 1) :: q :: r else if q.2 < x + 1 then (q.1, x + 1) :: r else q :: r)
    by_cases c : q.2 = x
    · rw [if_pos c, if_neg (by omega), if_pos (by omega)]
    · rw [if_neg c, if_pos (by omega)]
theorem rStep_le {acc : List Pr} {x : Int} (h : ∀ q ∈ acc, q.2 ≤ x) : ∀ q ∈ rStep acc x, q.2 ≤ x + 1 := by
  intro q hq
  cases acc with
  | nil =>
    have e : q = (x, x + 1) := List.mem_singleton.mp hq
    rw [e]; exact Int.le_refl _
  | cons p r =>
    have hq : q ∈ (if p.2 = x then (p.1, x + 1) :: r else (x, x + 1) :: p :: r) := hq
    by_cases c : p.2 = x
    · rw [if_pos c] at hq
      rcases List.mem_cons.mp hq with e | hq
      · rw [e]; exact Int.le_refl _
      · have := h q (List.mem_cons_of_mem _ hq); omega
    · rw [if_neg c] at hq
      rcases List.mem_cons.mp hq with e | hq
      · rw [e]; exact Int.le_refl _
      · have := h q hq; omega
def ones (xs : List Int) : List Pr := xs.map fun x => (x, x + 1)
theorem fold_rows : ∀ (xs : List Int) (acc : List Pr), xs.Pairwise (· < ·) → (∀ q ∈ acc, ∀ x ∈ xs, q.2 ≤ x) →
    xs.foldl rStep acc = (ones xs).foldl tStep acc ∧ wid (xs.foldl rStep acc) = wid acc + xs.length
  | [], acc, _, _ => ⟨rfl, by show wid acc = wid acc + 0; omega⟩
  | x :: xs, acc, hs, hh => by
    have hs' := List.pairwise_cons.mp hs
    have h1 : ∀ q ∈ acc, q.2 ≤ x := fun q hq => hh q hq x List.mem_cons_self
    obtain ⟨k1, k2⟩ := fold_rows xs (rStep acc x) hs'.2 fun q hq z hz => by
      have a := rStep_le h1 q hq
      have b := hs'.1 z hz
      omega
    constructor
    · show xs.foldl rStep (rStep acc x) = (ones xs).foldl tStep (tStep acc (x, x + 1))
      rw [k1, rStep_eq h1]
    · show wid (xs.foldl rStep (rStep acc x)) = _
      rw [k2, rStep_wid, List.length_cons]
      omega
theorem cov_ones {xs : List Int} {x : Int} : cov (ones xs) x ↔ x ∈ xs := by
  unfold cov ones
  constructor
  · rintro ⟨q, hq, h⟩
    obtain ⟨y, hy, e⟩ := List.mem_map.mp hq
    subst e
    have h1 : y ≤ x := h.1
    have h2 : x < y + 1 := h.2
    have e : x = y := by omega
    rw [e]; exact hy
  · intro h
    exact ⟨(x, x + 1), List.mem_map.mpr ⟨x, h, rfl⟩, Int.le_refl _, by show x < x + 1; omega⟩
/-- the law's own rows of places in order -/
def rowsF (xs : List Int) : List Pr := (xs.foldl rStep []).reverse
theorem rowsF_tdy {xs : List Int} (hs : xs.Pairwise (· < ·)) : Tdy (rowsF xs) ∧ (∀ x, cov (rowsF xs) x ↔ x ∈ xs) ∧ wid (rowsF xs) = xs.length := by
  obtain ⟨k1, k2⟩ := fold_rows xs [] hs fun q hq => by cases hq
  have e : rowsF xs = tidyF (ones xs) := by unfold rowsF tidyF; rw [k1]
  have hp : (ones xs).Pairwise (fun p q => p.1 ≤ q.1) := by
    unfold ones
    rw [List.pairwise_map]
    exact hs.imp fun h => Int.le_of_lt h
  obtain ⟨t1, t2⟩ := tidyF_tdy hp
  refine ⟨e ▸ t1, fun x => ?_, ?_⟩
  · rw [e, t2, cov_ones]
  · unfold rowsF; rw [wid_rev, k2]; show (0 : Int) + _ = _; omega
/-- times by, and moved -/
def sc (by_ high : Int) (p : Pr) : Pr := (p.1 * by_ + high, p.2 * by_ + high)
theorem cov_sc {by_ high : Int} (hb : 0 < by_) {ps : List Pr} {x : Int} : cov (ps.map (sc by_ high)) x ↔ cov ps ((x - high) / by_) := by
  have key : ∀ a : Int, a * by_ + high ≤ x ↔ a ≤ (x - high) / by_ := fun a => by
    rw [Int.le_ediv_iff_mul_le hb]; omega
  unfold cov
  constructor
  · rintro ⟨q, hq, h1, h2⟩
    obtain ⟨p, hp, rfl⟩ := List.mem_map.mp hq
    have k1 := key p.1
    have k2 := key p.2
    have h1 : p.1 * by_ + high ≤ x := h1
    have h2 : x < p.2 * by_ + high := h2
    refine ⟨p, hp, k1.mp h1, ?_⟩
    have : ¬ p.2 ≤ (x - high) / by_ := fun z => by have := k2.mpr z; omega
    omega
  · rintro ⟨p, hp, h1, h2⟩
    have k1 := key p.1
    have k2 := key p.2
    refine ⟨sc by_ high p, List.mem_map.mpr ⟨p, hp, rfl⟩, k1.mpr h1, ?_⟩
    show x < p.2 * by_ + high
    have : ¬ p.2 * by_ + high ≤ x := fun z => by have := k2.mp z; omega
    omega
theorem sc_lt {by_ a b : Int} (high : Int) (hb : 0 < by_) (h : a < b) : a * by_ + high < b * by_ + high := by
  have := Int.mul_lt_mul_of_pos_right h hb
  omega
theorem Tdy.scale {by_ high : Int} (hb : 0 < by_) {ps : List Pr} (h : Tdy ps) : Tdy (ps.map (sc by_ high)) := by
  refine ⟨fun q hq => ?_, ?_⟩
  · obtain ⟨p, hp, rfl⟩ := List.mem_map.mp hq
    exact sc_lt high hb (h.ok p hp)
  · rw [List.pairwise_map]
    exact h.gap.imp fun z => sc_lt high hb z
theorem wid_sc {by_ high : Int} : ∀ ps : List Pr, wid (ps.map (sc by_ high)) = wid ps * by_
  | [] => by show (0 : Int) = 0 * by_; rw [Int.zero_mul]
  | p :: r => by
    rw [List.map_cons, wid_cons, wid_cons, wid_sc r, Int.add_mul, Int.sub_mul]
    show p.2 * by_ + high - (p.1 * by_ + high) + _ = _
    omega
end Rep
namespace Rep
open PySem L2
/-! pairs on the heap -/
def kOf (H : Hp) (v : V) : Pr := match v with
  | .ref t => (match H t with
    | some (.tup [.int a, .int b]) => (a, b)
    | _ => (0, 0))
  | _ => (0, 0)
def IsPr (H : Hp) (v : V) : Prop := ∃ t, v = .ref t ∧ H t = some (.tup [.int (kOf H v).1, .int (kOf H v).2])
theorem kOf_at {H : Hp} {t : Addr} {a b : Int} (h : H t = some (.tup [.int a, .int b])) : kOf H (.ref t) = (a, b) := by
  show (match H t with
    | some (.tup [.int a, .int b]) => (a, b)
    | _ => (0, 0)) = (a, b)
  rw [h]
theorem IsPr.of {H : Hp} {t : Addr} {a b : Int} (h : H t = some (.tup [.int a, .int b])) : IsPr H (.ref t) :=
  ⟨t, rfl, by rw [kOf_at h]; exact h⟩
/-- tuples stay -/
def TS (H H' : Hp) : Prop := ∀ t xs, H t = some (.tup xs) → H' t = some (.tup xs)
theorem TS.of {H H' : Hp} (h : Same H H') : TS H H' := fun t xs e => h t _ e
theorem TS.refl (H : Hp) : TS H H := fun _ _ e => e
theorem TS.trans {H H1 H2 : Hp} (a : TS H H1) (b : TS H1 H2) : TS H H2 := fun t xs e => b t xs (a t xs e)
theorem TS.lst {H : Hp} {o : Addr} {zs : List V} {u : HO} (h : H o = some (.lst zs)) : TS H (upd H o u) := fun t xs e => by
  rw [upd_ne (ne_of e h (by intro z; cases z))]
  exact e
theorem TS.dict {H : Hp} {o : Addr} {zs : List (Key × V)} {u : HO} (h : H o = some (.dK zs)) : TS H (upd H o u) := fun t xs e => by
  rw [upd_ne (ne_of e h (by intro z; cases z))]
  exact e
theorem same_upd {H : Hp} {p : Addr} {o : HO} (h : H p = none) : Same H (upd H p o) := fun b x e => by
  rw [upd_ne (ne_of_none e h)]
  exact e
theorem TS.new {H : Hp} {p : Addr} {o : HO} (h : H p = none) : TS H (upd H p o) := TS.of (same_upd h)
theorem same_over {H H' : Hp} {o : Addr} {u : HO} (h : Same H H') (n : H o = none) : Same H (upd H' o u) := fun b x e => by
  rw [upd_ne (ne_of_none e n)]
  exact h b x e
theorem kOf_ts {H H' : Hp} (s : TS H H') {v : V} (h : IsPr H v) : kOf H' v = kOf H v := by
  obtain ⟨t, e, h⟩ := h
  have h2 := s _ _ h
  subst e
  rw [kOf_at h2]
theorem IsPr.ts {H H' : Hp} (s : TS H H') {v : V} (h : IsPr H v) : IsPr H' v := by
  have e := kOf_ts s h
  obtain ⟨t, rfl, h⟩ := h
  exact ⟨t, rfl, by rw [e]; exact s _ _ h⟩
structure PL (H : Hp) (vs : List V) (ps : List Pr) : Prop where
  all : ∀ v ∈ vs, IsPr H v
  eq : vs.map (kOf H) = ps
theorem PL.nil {H : Hp} : PL H [] [] := ⟨fun v h => (by cases h), rfl⟩
theorem PL.len {H : Hp} {vs : List V} {ps : List Pr} (h : PL H vs ps) : vs.length = ps.length := by rw [← h.eq, List.length_map]
theorem PL.ts {H H' : Hp} (s : TS H H') {vs : List V} {ps : List Pr} (h : PL H vs ps) : PL H' vs ps := by
  refine ⟨fun v hv => (h.all v hv).ts s, ?_⟩
  rw [← h.eq]
  exact List.map_congr_left fun v hv => kOf_ts s (h.all v hv)
theorem PL.snoc {H : Hp} {vs : List V} {ps : List Pr} {t : Addr} {a b : Int} (h : PL H vs ps) (ht : H t = some (.tup [.int a, .int b])) : PL H (vs ++ [.ref t]) (ps ++ [(a, b)]) := by
  refine ⟨fun v hv => ?_, ?_⟩
  · rcases List.mem_append.mp hv with hv | hv
    · exact h.all v hv
    · rw [List.mem_singleton.mp hv]; exact .of ht
  · rw [List.map_append, h.eq]
    show ps ++ [kOf H (.ref t)] = _
    rw [kOf_at ht]
theorem PL.get {H : Hp} {vs : List V} {ps : List Pr} (h : PL H vs ps) {i : Nat} {v : V} (e : vs[i]? = some v) : ∃ t p, v = .ref t ∧ H t = some (.tup [.int p.1, .int p.2]) ∧ ps[i]? = some p := by
  obtain ⟨t, et, ht⟩ := h.all v (List.mem_of_getElem? e)
  refine ⟨t, kOf H v, et, ht, ?_⟩
  rw [← h.eq, List.getElem?_map, e]
  rfl
theorem PL.cut {H : Hp} {vs : List V} {ps : List Pr} {p : Pr} (h : PL H vs (ps ++ [p])) : ∃ ws t, vs = ws ++ [.ref t] ∧ PL H ws ps ∧ H t = some (.tup [.int p.1, .int p.2]) := by
  have hl := h.len
  rw [List.length_append, List.length_singleton] at hl
  have hn : vs ≠ [] := fun e => by rw [e] at hl; simp at hl
  refine ⟨vs.dropLast, ?_⟩
  have e := (List.dropLast_concat_getLast hn).symm
  obtain ⟨t, et, ht⟩ := h.all _ (List.getLast_mem hn)
  have q := h.eq
  rw [e, List.map_append] at q
  have q2 : vs.dropLast.map (kOf H) = ps ∧ [kOf H (vs.getLast hn)] = [p] := List.append_inj' q rfl
  refine ⟨t, by rw [← et]; exact e, ⟨fun v hv => h.all v (List.dropLast_subset _ hv), q2.1⟩, ?_⟩
  have q3 : kOf H (vs.getLast hn) = p := by simpa using q2.2
  rw [← q3]; exact ht
theorem PL.perm {H : Hp} {vs ys : List V} {ps : List Pr} (h : PL H vs ps) (p : ys.Perm vs) : PL H ys (ys.map (kOf H)) ∧ (ys.map (kOf H)).Perm ps :=
  ⟨⟨fun v hv => h.all v (p.mem_iff.mp hv), rfl⟩, by rw [← h.eq]; exact p.map _⟩
theorem cov_perm {a b : List Pr} (h : a.Perm b) {x : Int} : cov a x ↔ cov b x := by
  unfold cov
  constructor
  · rintro ⟨q, hq, z⟩; exact ⟨q, h.mem_iff.mp hq, z⟩
  · rintro ⟨q, hq, z⟩; exact ⟨q, h.mem_iff.mpr hq, z⟩
theorem tYes_ok {σ : L2.St} {H : Hp} {A : Bool → Hp → Prop} (h : A true H) : tYes σ H A := h
/-! data at a depth -/
inductive DT (H : Hp) : Nat → V → PyData → Prop
  | non {n : Nat} : DT H n .non .none
  | bl {n : Nat} (b : Bool) : DT H n (.bl b) (.bool b)
  | int {n : Nat} (i : Int) : DT H n (.int i) (.int i)
  | str {n : Nat} (x : Str) : DT H n (.str x) (.str x)
  | lst {n : Nat} {a : Addr} {xs : List V} {ds : List PyData} : H a = some (.lst xs) → xs.length = ds.length → xs.length ≤ 14000000 → (∀ (i : Nat) (x : V) (d : PyData), xs[i]? = some x → ds[i]? = some d → DT H n x d) → DT H (n + 1) (.ref a) (.list ds)
  | tup {n : Nat} {a : Addr} {xs : List V} {ds : List PyData} : H a = some (.tup xs) → xs.length = ds.length → xs.length ≤ 14000000 → (∀ (i : Nat) (x : V) (d : PyData), xs[i]? = some x → ds[i]? = some d → DT H n x d) → DT H (n + 1) (.ref a) (.tuple ds)
theorem DT.same {H H' : Hp} (s : Same H H') {n : Nat} {v : V} {d : PyData} (h : DT H n v d) : DT H' n v d := by
  induction h with
  | non => exact .non
  | bl b => exact .bl b
  | int i => exact .int i
  | str x => exact .str x
  | lst e l b _ ih => exact .lst (s _ _ e) l b ih
  | tup e l b _ ih => exact .tup (s _ _ e) l b ih
def pD (p : Pr) : PyData := .tuple [.int p.1, .int p.2]
theorem DT.pair {H : Hp} {n : Nat} {t : Addr} {p : Pr} (h : H t = some (.tup [.int p.1, .int p.2])) : DT H (n + 1) (.ref t) (pD p) := by
  refine .tup h rfl (by show 2 ≤ 14000000; decide) fun i x d hx hd => ?_
  match i, hx, hd with
  | 0, hx, hd => cases hx; cases hd; exact .int _
  | 1, hx, hd => cases hx; cases hd; exact .int _
theorem PL.dt {H : Hp} {n : Nat} {a : Addr} {vs : List V} {ps : List Pr} (h : PL H vs ps) (ha : H a = some (.lst vs)) (hl : ps.length ≤ 14000000) : DT H (n + 2) (.ref a) (.list (ps.map pD)) := by
  refine .lst ha (by rw [h.len, List.length_map]) (by rw [h.len]; exact hl) fun i x d hx hd => ?_
  obtain ⟨t, p, rfl, ht, hp⟩ := h.get hx
  rw [List.getElem?_map, hp] at hd
  cases hd
  exact .pair ht
/-- as the layer's deep data -/
theorem PL.dp {K : PySem.W.Frag} {H : Hp} : ∀ {vs : List V} {ps : List Pr}, PL H vs ps → DpAll K H vs (ps.map pD)
  | [], ps, h => by
    have := h.eq
    subst this
    exact .nil
  | v :: vs, ps, h => by
    have e := h.eq
    subst e
    obtain ⟨t, et, ht⟩ := h.all v List.mem_cons_self
    refine .cons ?_ (PL.dp ⟨fun w hw => h.all w (List.mem_cons_of_mem _ hw), rfl⟩)
    rw [et] at ht ⊢
    exact .tup (.inl (.inl ht)) (.cons (.int _) (.cons (.int _) .nil))
theorem canAll : ∀ ps : List Pr, PyData.canLayAll0 (ps.map pD) = true
  | [] => rfl
  | _ :: r => by
    show (true && PyData.canLayAll0 (r.map pD)) = true
    rw [canAll r]; rfl
end Rep
namespace Rep
/-! likeness by steps in either direction -/
inductive Eqv (R : Int → Int → Prop) : Int → Int → Prop
  | refl (x : Int) : Eqv R x x
  | of {x y : Int} : R x y → Eqv R x y
  | symm {x y : Int} : Eqv R x y → Eqv R y x
  | trans {x y z : Int} : Eqv R x y → Eqv R y z → Eqv R x z
theorem Eqv.bind {R S : Int → Int → Prop} (h : ∀ x y, R x y → Eqv S x y) {x y : Int} (e : Eqv R x y) : Eqv S x y := by
  induction e with
  | refl x => exact .refl x
  | of r => exact h _ _ r
  | symm _ ih => exact .symm ih
  | trans _ _ a b => exact .trans a b
theorem Eqv.mono {R S : Int → Int → Prop} (h : ∀ x y, R x y → S x y) {x y : Int} (e : Eqv R x y) : Eqv S x y := e.bind fun x y r => .of (h x y r)
/-- a saying: the lesser start, the greater, how many, turned -/
structure Sy where
  lo : Int
  hi : Int
  n : Int
  t : Bool
  deriving DecidableEq
def Sy.en (s : Sy) : Int := s.hi + s.n
/-- the place that a place of the first stretch is said alike to -/
def mate (lo hi n : Int) (t : Bool) (x : Int) : Int := if t then lo + hi + n - 1 - x else x - lo + hi
def says (lo hi n : Int) (t : Bool) (x y : Int) : Prop := lo ≤ x ∧ x < lo + n ∧ y = mate lo hi n t x
def rel (s : Sy) (x y : Int) : Prop := says s.lo s.hi s.n s.t x y
def relL (K : List Sy) (x y : Int) : Prop := ∃ s ∈ K, rel s x y
/-- a saying of what is left of the song, below e -/
structure Ok (e : Int) (s : Sy) : Prop where
  lo0 : 0 ≤ s.lo
  lt : s.lo < s.hi
  n1 : 1 ≤ s.n
  le : s.hi + s.n ≤ e
  ov : s.t = true → s.lo + s.n ≤ s.hi
theorem Ok.mono {e e' : Int} {s : Sy} (h : Ok e s) (l : s.hi + s.n ≤ e') : Ok e' s := ⟨h.lo0, h.lt, h.n1, l, h.ov⟩
theorem says_t {lo hi n x y : Int} : says lo hi n true x y ↔ lo ≤ x ∧ x < lo + n ∧ y = lo + hi + n - 1 - x := Iff.rfl
theorem says_f {lo hi n x y : Int} : says lo hi n false x y ↔ lo ≤ x ∧ x < lo + n ∧ y = x - lo + hi := Iff.rfl
/-! as it is kept -/
def keptF (a b n : Int) (t : Bool) : Option Sy :=
  let lo := min a b
  let hi := max a b
  if t = true ∧ hi < lo + n then
    let r := hi + n - lo
    if r / 2 < 1 ∨ lo = lo + r - r / 2 then none else some ⟨lo, lo + r - r / 2, r / 2, t⟩
  else if n < 1 ∨ lo = hi then none else some ⟨lo, hi, n, t⟩
/-- what a kept form says, if there is one -/
def relO (o : Option Sy) (x y : Int) : Prop := ∃ s, o = some s ∧ rel s x y
theorem says_swap {a b n : Int} {t : Bool} {x y : Int} (h : says a b n t x y) : says b a n t y x := by
  cases t with
  | true => rw [says_t] at *; omega
  | false => rw [says_f] at *; omega
theorem says_minmax {a b n : Int} {t : Bool} {x y : Int} (h : says a b n t x y) : Eqv (says (min a b) (max a b) n t) x y := by
  rcases Int.le_total a b with l | l
  · rw [Int.min_eq_left l, Int.max_eq_right l]; exact .of h
  · rw [Int.min_eq_right l, Int.max_eq_left l]; exact .symm (.of (says_swap h))
theorem minmax_says {a b n : Int} {t : Bool} {x y : Int} (h : says (min a b) (max a b) n t x y) : Eqv (says a b n t) x y := by
  rcases Int.le_total a b with l | l
  · rw [Int.min_eq_left l, Int.max_eq_right l] at h; exact .of h
  · rw [Int.min_eq_right l, Int.max_eq_left l] at h; exact .symm (.of (says_swap h))
theorem kept_ok {a b n e : Int} {t : Bool} {s : Sy} (ha : 0 ≤ a) (hb : 0 ≤ b) (hae : a + n ≤ e) (hbe : b + n ≤ e) (h : keptF a b n t = some s) : Ok e s ∧ s.hi + s.n = max a b + n := by
  unfold keptF at h
  have h0 : 0 ≤ min a b := by omega
  have h1 : max a b + n ≤ e := by omega
  have h2 : min a b ≤ max a b := by omega
  generalize min a b = lo at *
  generalize max a b = hi at *
  by_cases c : t = true ∧ hi < lo + n
  · rw [if_pos c] at h
    by_cases d : (hi + n - lo) / 2 < 1 ∨ lo = lo + (hi + n - lo) - (hi + n - lo) / 2
    · rw [if_pos d] at h; cases h
    · rw [if_neg d] at h
      cases h
      refine ⟨⟨h0, ?_, ?_, ?_, fun _ => ?_⟩, ?_⟩
      · show lo < lo + (hi + n - lo) - (hi + n - lo) / 2; omega
      · show 1 ≤ (hi + n - lo) / 2; omega
      · show lo + (hi + n - lo) - (hi + n - lo) / 2 + (hi + n - lo) / 2 ≤ e; omega
      · show lo + (hi + n - lo) / 2 ≤ lo + (hi + n - lo) - (hi + n - lo) / 2; omega
      · show lo + (hi + n - lo) - (hi + n - lo) / 2 + (hi + n - lo) / 2 = _; omega
  · rw [if_neg c] at h
    by_cases d : n < 1 ∨ lo = hi
    · rw [if_pos d] at h; cases h
    · rw [if_neg d] at h
      cases h
      refine ⟨⟨h0, by show lo < hi; omega, by show 1 ≤ n; omega, h1, fun ht => ?_⟩, rfl⟩
      show lo + n ≤ hi
      have ht : t = true := ht
      have : ¬ hi < lo + n := fun z => c ⟨ht, z⟩
      omega
/-- nothing is lost and nothing is added -/
theorem kept_eq {a b n : Int} {t : Bool} : (∀ x y, says a b n t x y → Eqv (relO (keptF a b n t)) x y) ∧ ∀ x y, relO (keptF a b n t) x y → Eqv (says a b n t) x y := by
  have key : (∀ x y, says (min a b) (max a b) n t x y → Eqv (relO (keptF a b n t)) x y) ∧ ∀ x y, relO (keptF a b n t) x y → Eqv (says (min a b) (max a b) n t) x y := by
    unfold keptF
    have h2 : min a b ≤ max a b := by omega
    generalize min a b = lo at *
    generalize max a b = hi at *
    by_cases c : t = true ∧ hi < lo + n
    · simp only [if_pos c]
      obtain ⟨rfl, c⟩ := c
      by_cases d : (hi + n - lo) / 2 < 1 ∨ lo = lo + (hi + n - lo) - (hi + n - lo) / 2
      · rw [if_pos d]
        refine ⟨fun x y h => ?_, fun x y h => ?_⟩
        · rw [says_t] at h
          have e : x = y := by omega
          rw [e]; exact .refl y
        · obtain ⟨s, hs, _⟩ := h; cases hs
      · rw [if_neg d]
        refine ⟨fun x y h => ?_, fun x y h => ?_⟩
        · rw [says_t] at h
          by_cases c1 : x < lo + (hi + n - lo) / 2
          · refine .of ⟨_, rfl, ?_⟩
            show says lo (lo + (hi + n - lo) - (hi + n - lo) / 2) ((hi + n - lo) / 2) true x y
            rw [says_t]; omega
          · by_cases c2 : x = y
            · rw [c2]; exact .refl y
            · refine .symm (.of ⟨_, rfl, ?_⟩)
              show says lo (lo + (hi + n - lo) - (hi + n - lo) / 2) ((hi + n - lo) / 2) true y x
              rw [says_t]; omega
        · obtain ⟨s, hs, h⟩ := h
          cases hs
          have h : says lo (lo + (hi + n - lo) - (hi + n - lo) / 2) ((hi + n - lo) / 2) true x y := h
          refine .of ?_
          rw [says_t] at *
          omega
    · simp only [if_neg c]
      by_cases d : n < 1 ∨ lo = hi
      · rw [if_pos d]
        refine ⟨fun x y h => ?_, fun x y h => ?_⟩
        · cases t with
          | true =>
            rw [says_t] at h
            have : ¬ hi < lo + n := fun z => c ⟨rfl, z⟩
            omega
          | false =>
            rw [says_f] at h
            have e : x = y := by omega
            rw [e]; exact .refl y
        · obtain ⟨s, hs, _⟩ := h; cases hs
      · rw [if_neg d]
        refine ⟨fun x y h => .of ⟨_, rfl, h⟩, fun x y h => ?_⟩
        obtain ⟨s, hs, h⟩ := h
        cases hs
        exact .of h
  exact ⟨fun x y h => (says_minmax h).bind key.1, fun x y h => (key.2 x y h).bind fun x y h => minmax_says h⟩
/-! two beats -/
/-- each two places of [a, b) that are t apart are alike -/
def Beat (E : Int → Int → Prop) (a b t : Int) : Prop := ∀ x, a ≤ x → x + t < b → E x (x + t)
theorem beat_sub {R : Int → Int → Prop} {a b t u : Int} (ht : 0 < t) (hu : t < u) (hl : t + u ≤ b - a) (h1 : Beat (Eqv R) a b t) (h2 : Beat (Eqv R) a b u) : Beat (Eqv R) a b (u - t) := by
  intro x hx hb
  by_cases c : x + u < b
  · have e1 := h2 x hx c
    have e2 := h1 (x + (u - t)) (by omega) (by omega)
    rw [show x + (u - t) + t = x + u by omega] at e2
    exact .trans e1 (.symm e2)
  · have e1 := h1 (x - t) (by omega) (by omega)
    rw [show x - t + t = x by omega] at e1
    have e2 := h2 (x - t) (by omega) (by omega)
    rw [show x - t + u = x + (u - t) by omega] at e2
    exact .trans (.symm e1) e2
theorem beat_gcd {R : Int → Int → Prop} {a b : Int} : ∀ (k : Nat) (t u : Nat), t + u ≤ k → 0 < t → 0 < u → (t : Int) + u ≤ b - a → Beat (Eqv R) a b t → Beat (Eqv R) a b u → Beat (Eqv R) a b (Nat.gcd t u : Nat)
  | 0, t, u, hk, ht, hu, _, _, _ => by omega
  | k + 1, t, u, hk, ht, hu, hl, h1, h2 => by
    rcases Nat.lt_trichotomy t u with c | c | c
    · have h3 : Beat (Eqv R) a b ((u - t : Nat) : Int) := by
        have := beat_sub (by omega) (by omega) hl h1 h2
        rw [show ((u - t : Nat) : Int) = (u : Int) - (t : Int) by omega]
        exact this
      have := beat_gcd k t (u - t) (by omega) ht (by omega) (by omega) h1 h3
      rw [Nat.gcd_sub_self_right (Nat.le_of_lt c)] at this
      exact this
    · subst c
      rw [Nat.gcd_self]
      exact h1
    · have h3 : Beat (Eqv R) a b ((t - u : Nat) : Int) := by
        have := beat_sub (R := R) (a := a) (b := b) (t := u) (u := t) (by omega) (by omega) (by omega) h2 h1
        rw [show ((t - u : Nat) : Int) = (t : Int) - (u : Int) by omega]
        exact this
      have := beat_gcd k (t - u) u (by omega) (by omega) hu (by omega) h3 h2
      rw [Nat.gcd_sub_self_left (Nat.le_of_lt c)] at this
      exact this
/-- a beat, many times -/
theorem beat_mul {R : Int → Int → Prop} {a b t : Int} (ht : 0 < t) (h : Beat (Eqv R) a b t) : ∀ (k : Nat) (x : Int), a ≤ x → x + (k : Int) * t < b → Eqv R x (x + (k : Int) * t)
  | 0, x, _, _ => by
    rw [show x + ((0 : Nat) : Int) * t = x by rw [Int.natCast_zero, Int.zero_mul]; omega]
    exact .refl x
  | k + 1, x, hx, hb => by
    have e : ((k + 1 : Nat) : Int) * t = (k : Int) * t + t := by rw [Int.natCast_add, Int.add_mul]; omega
    rw [e] at hb ⊢
    have hk : 0 ≤ (k : Int) * t := Int.mul_nonneg (by omega) (by omega)
    have h1 := beat_mul ht h k x hx (by omega)
    have h2 := h (x + (k : Int) * t) (by omega) (by omega)
    rw [show x + (k : Int) * t + t = x + ((k : Int) * t + t) by omega] at h2
    exact .trans h1 h2
/-- from a part to the whole: a beat t of the whole carries each place into the part -/
theorem into_part {R : Int → Int → Prop} {a b a' b' t : Int} (ht : 0 < t) (h : Beat (Eqv R) a b t) (h1 : a ≤ a') (h2 : b' ≤ b) (h3 : t ≤ b' - a') {x : Int} (hx : a ≤ x) (hb : x < b) :
    ∃ y, Eqv R x y ∧ a' ≤ y ∧ y < a' + t ∧ ∃ k : Int, y = x + k * t := by
  -- the place of [a', a' + t) that is a number of beats away
  have e := Int.emod_add_mul_ediv (x - a') t
  have m0 : 0 ≤ (x - a') % t := Int.emod_nonneg _ (by omega)
  have m1 : (x - a') % t < t := Int.emod_lt_of_pos _ ht
  generalize hr : (x - a') % t = r at *
  generalize hk : (x - a') / t = k at *
  have ey : a' + r = x + (-k) * t := by rw [Int.neg_mul, Int.mul_comm k t]; omega
  refine ⟨a' + r, ?_, by omega, by omega, -k, ey⟩
  rcases Int.le_total 0 k with c | c
  · obtain ⟨j, rfl⟩ : ∃ j : Nat, k = (j : Int) := ⟨k.toNat, by omega⟩
    have hx' : x = a' + r + (j : Int) * t := by rw [Int.mul_comm]; omega
    have := beat_mul ht h j (a' + r) (by omega) (by rw [← hx']; exact hb)
    rw [← hx'] at this
    exact .symm this
  · obtain ⟨j, rfl⟩ : ∃ j : Nat, k = -(j : Int) := ⟨(-k).toNat, by omega⟩
    have hx' : a' + r = x + (j : Int) * t := by rw [ey, Int.neg_neg]
    have := beat_mul ht h j x hx (by rw [← hx']; omega)
    rw [← hx'] at this
    exact this
theorem beat_spread {R : Int → Int → Prop} {a b a' b' t g : Int} (ht : 0 < t) (hg : 0 < g) (h : Beat (Eqv R) a b t) (h1 : a ≤ a') (h2 : b' ≤ b) (h3 : t + g ≤ b' - a') (hp : Beat (Eqv R) a' b' g) : Beat (Eqv R) a b g := by
  intro x hx hb
  obtain ⟨y, e1, l1, l2, k, ek⟩ := into_part ht h h1 h2 (by omega) hx (by omega)
  have e2 := hp y l1 (by omega)
  -- and x + g comes to y + g by as many beats
  have e3 : Eqv R (x + g) (y + g) := by
    have ey : y + g = x + g + k * t := by omega
    rcases Int.le_total 0 k with c | c
    · obtain ⟨j, rfl⟩ : ∃ j : Nat, k = (j : Int) := ⟨k.toNat, by omega⟩
      have := beat_mul ht h j (x + g) (by omega) (by rw [← ey]; omega)
      rw [← ey] at this
      exact this
    · obtain ⟨j, rfl⟩ : ∃ j : Nat, k = -(j : Int) := ⟨(-k).toNat, by omega⟩
      have ey' : x + g = y + g + (j : Int) * t := by rw [ey, Int.neg_mul]; omega
      have := beat_mul ht h j (y + g) (by omega) (by rw [← ey']; exact hb)
      rw [← ey'] at this
      exact .symm this
  exact .trans e1 (.trans e2 (.symm e3))
end Rep
namespace Rep
/-! two lists of sayings that say the same -/
structure EqR (R S : Int → Int → Prop) : Prop where
  to : ∀ x y, R x y → Eqv S x y
  back : ∀ x y, S x y → Eqv R x y
theorem EqR.refl (R : Int → Int → Prop) : EqR R R := ⟨fun _ _ h => .of h, fun _ _ h => .of h⟩
theorem EqR.symm {R S : Int → Int → Prop} (h : EqR R S) : EqR S R := ⟨h.back, h.to⟩
theorem EqR.trans {R S T : Int → Int → Prop} (h : EqR R S) (k : EqR S T) : EqR R T := ⟨fun x y r => (h.to x y r).bind k.to, fun x y r => (k.back x y r).bind h.back⟩
theorem EqR.iff {R S : Int → Int → Prop} (h : EqR R S) {x y : Int} : Eqv R x y ↔ Eqv S x y := ⟨fun e => e.bind h.to, fun e => e.bind h.back⟩
theorem EqR.of_iff {R S : Int → Int → Prop} (h : ∀ x y, R x y ↔ S x y) : EqR R S := ⟨fun x y r => .of ((h x y).mp r), fun x y r => .of ((h x y).mpr r)⟩
def orR (R S : Int → Int → Prop) (x y : Int) : Prop := R x y ∨ S x y
theorem EqR.orl {R S : Int → Int → Prop} (T : Int → Int → Prop) (h : EqR R S) : EqR (orR R T) (orR S T) :=
  ⟨fun x y r => r.elim (fun r => (h.to x y r).mono fun _ _ z => .inl z) fun r => .of (.inr r), fun x y r => r.elim (fun r => (h.back x y r).mono fun _ _ z => .inl z) fun r => .of (.inr r)⟩
theorem EqR.orr {R S : Int → Int → Prop} (T : Int → Int → Prop) (h : EqR R S) : EqR (orR T R) (orR T S) :=
  ⟨fun x y r => r.elim (fun r => .of (.inl r)) fun r => (h.to x y r).mono fun _ _ z => .inr z, fun x y r => r.elim (fun r => .of (.inl r)) fun r => (h.back x y r).mono fun _ _ z => .inr z⟩
/-- what is added follows -/
theorem EqR.more {R S T : Int → Int → Prop} (h : ∀ x y, S x y → Eqv (orR R T) x y) (k : ∀ x y, T x y → Eqv (orR R S) x y) : EqR (orR R S) (orR R T) :=
  ⟨fun x y r => r.elim (fun r => .of (.inl r)) fun r => h x y r, fun x y r => r.elim (fun r => .of (.inl r)) fun r => k x y r⟩
theorem relL_cons {s : Sy} {K : List Sy} {x y : Int} : relL (s :: K) x y ↔ orR (rel s) (relL K) x y := by
  unfold relL orR
  constructor
  · rintro ⟨u, hu, h⟩
    rcases List.mem_cons.mp hu with rfl | hu
    · exact .inl h
    · exact .inr ⟨u, hu, h⟩
  · rintro (h | ⟨u, hu, h⟩)
    · exact ⟨s, List.mem_cons_self, h⟩
    · exact ⟨u, List.mem_cons_of_mem _ hu, h⟩
theorem relL_append {K L : List Sy} {x y : Int} : relL (K ++ L) x y ↔ orR (relL K) (relL L) x y := by
  unfold relL orR
  constructor
  · rintro ⟨u, hu, h⟩
    rcases List.mem_append.mp hu with hu | hu
    · exact .inl ⟨u, hu, h⟩
    · exact .inr ⟨u, hu, h⟩
  · rintro (⟨u, hu, h⟩ | ⟨u, hu, h⟩)
    · exact ⟨u, List.mem_append_left _ hu, h⟩
    · exact ⟨u, List.mem_append_right _ hu, h⟩
theorem relL_mem {K L : List Sy} (h : ∀ s, s ∈ K ↔ s ∈ L) : EqR (relL K) (relL L) :=
  .of_iff fun x y => ⟨fun ⟨s, hs, r⟩ => ⟨s, (h s).mp hs, r⟩, fun ⟨s, hs, r⟩ => ⟨s, (h s).mpr hs, r⟩⟩
theorem relL_nil {x y : Int} : ¬ relL [] x y := fun ⟨_, h, _⟩ => by cases h
/-! joining -/
def lead (s : Sy) : Int := s.hi - s.lo
def gcdI (a b : Int) : Int := (Nat.gcd a.toNat b.toNat : Nat)
def shared (s o : Sy) : Int := min (s.hi + s.n) (o.hi + o.n) - max s.lo o.lo
def joinF (s o : Sy) : Sy := ⟨min s.lo o.lo, min s.lo o.lo + gcdI (lead s) (lead o), max (s.hi + s.n) (o.hi + o.n) - min s.lo o.lo - gcdI (lead s) (lead o), false⟩
theorem gcd_facts {a b : Int} (ha : 0 < a) (hb : 0 < b) : 0 < gcdI a b ∧ gcdI a b ≤ a ∧ gcdI a b ≤ b ∧ (∃ k : Nat, a = (k : Int) * gcdI a b) ∧ ∃ k : Nat, b = (k : Int) * gcdI a b := by
  unfold gcdI
  have h0 : 0 < Nat.gcd a.toNat b.toNat := Nat.gcd_pos_of_pos_left _ (by omega)
  have h1 : Nat.gcd a.toNat b.toNat ≤ a.toNat := Nat.gcd_le_left _ (by omega)
  have h2 : Nat.gcd a.toNat b.toNat ≤ b.toNat := Nat.gcd_le_right _ (by omega)
  obtain ⟨k, hk⟩ := Nat.gcd_dvd_left a.toNat b.toNat
  obtain ⟨j, hj⟩ := Nat.gcd_dvd_right a.toNat b.toNat
  refine ⟨by omega, by omega, by omega, ⟨k, ?_⟩, ⟨j, ?_⟩⟩
  · have e := congrArg (fun n : Nat => (n : Int)) hk
    simp only [Int.natCast_mul] at e
    rw [Int.mul_comm]
    omega
  · have e := congrArg (fun n : Nat => (n : Int)) hj
    simp only [Int.natCast_mul] at e
    rw [Int.mul_comm]
    omega
theorem rel_straight {s : Sy} (h : s.t = false) {x y : Int} : rel s x y ↔ s.lo ≤ x ∧ x < s.lo + s.n ∧ y = x + lead s := by
  unfold rel
  rw [h, says_f]
  unfold lead
  constructor
  · intro z; omega
  · intro z; omega
theorem rel_beat {s : Sy} (h : s.t = false) {R : Int → Int → Prop} (hr : ∀ x y, rel s x y → Eqv R x y) : Beat (Eqv R) s.lo (s.hi + s.n) (lead s) := by
  intro x hx hb
  refine hr _ _ ((rel_straight h).mpr ⟨hx, ?_, rfl⟩)
  unfold lead at hb
  omega
theorem join_ok {e : Int} {s o : Sy} (hs : Ok e s) (ho : Ok e o) (hsh : lead s + lead o ≤ shared s o) : Ok e (joinF s o) := by
  have l1 : 0 < lead s := by have := hs.lt; unfold lead; omega
  have l2 : 0 < lead o := by have := ho.lt; unfold lead; omega
  obtain ⟨g0, g1, g2, _, _⟩ := gcd_facts l1 l2
  have a1 := hs.lo0
  have a2 := ho.lo0
  have a3 := hs.le
  have a4 := ho.le
  unfold shared at hsh
  unfold joinF
  generalize gcdI (lead s) (lead o) = g at *
  refine ⟨?_, ?_, ?_, ?_, fun h => (by cases h)⟩
  · show 0 ≤ min s.lo o.lo; omega
  · show min s.lo o.lo < min s.lo o.lo + g; omega
  · show 1 ≤ max (s.hi + s.n) (o.hi + o.n) - min s.lo o.lo - g; omega
  · show min s.lo o.lo + g + (max (s.hi + s.n) (o.hi + o.n) - min s.lo o.lo - g) ≤ e; omega
theorem join_eq {e : Int} {s o : Sy} (hs : Ok e s) (ho : Ok e o) (ts : s.t = false) (to : o.t = false) (hsh : lead s + lead o ≤ shared s o) : EqR (orR (rel s) (rel o)) (rel (joinF s o)) := by
  have l1 : 0 < lead s := by have := hs.lt; unfold lead; omega
  have l2 : 0 < lead o := by have := ho.lt; unfold lead; omega
  obtain ⟨g0, g1, g2, ⟨k1, e1⟩, ⟨k2, e2⟩⟩ := gcd_facts l1 l2
  have jl : lead (joinF s o) = gcdI (lead s) (lead o) := by unfold lead joinF; show min s.lo o.lo + _ - min s.lo o.lo = _; unfold lead; omega
  have je : (joinF s o).hi + (joinF s o).n = max (s.hi + s.n) (o.hi + o.n) := by
    show min s.lo o.lo + gcdI (lead s) (lead o) + (max (s.hi + s.n) (o.hi + o.n) - min s.lo o.lo - gcdI (lead s) (lead o)) = _
    omega
  have jb := rel_beat (s := joinF s o) rfl (R := rel (joinF s o)) fun x y h => .of h
  rw [jl, je] at jb
  have jb : Beat (Eqv (rel (joinF s o))) (min s.lo o.lo) (max (s.hi + s.n) (o.hi + o.n)) (gcdI (lead s) (lead o)) := jb
  have sb := rel_beat ts (R := orR (rel s) (rel o)) fun x y h => .of (.inl h)
  have ob := rel_beat to (R := orR (rel s) (rel o)) fun x y h => .of (.inr h)
  have d1 := hs.n1
  have d2 := ho.n1
  refine ⟨fun x y h => ?_, fun x y h => ?_⟩
  · rcases h with h | h
    · have h := (rel_straight ts).mp h
      have := beat_mul g0 jb k1 x (by omega) (by rw [← e1]; unfold lead; omega)
      rw [← e1, ← h.2.2] at this
      exact this
    · have h := (rel_straight to).mp h
      have := beat_mul g0 jb k2 x (by omega) (by rw [← e2]; unfold lead; omega)
      rw [← e2, ← h.2.2] at this
      exact this
  · have h := (rel_straight (s := joinF s o) rfl).mp h
    rw [jl] at h
    have hx : min s.lo o.lo ≤ x := h.1
    have hb : x + gcdI (lead s) (lead o) < max (s.hi + s.n) (o.hi + o.n) := by
      have := h.2.1
      have h2 : x < min s.lo o.lo + (max (s.hi + s.n) (o.hi + o.n) - min s.lo o.lo - gcdI (lead s) (lead o)) := this
      omega
    -- the beat within what both have
    have ib : Beat (Eqv (orR (rel s) (rel o))) (max s.lo o.lo) (min (s.hi + s.n) (o.hi + o.n)) (gcdI (lead s) (lead o)) := by
      have b1 : Beat (Eqv (orR (rel s) (rel o))) (max s.lo o.lo) (min (s.hi + s.n) (o.hi + o.n)) ((lead s).toNat : Int) := fun z h1 h2 => by
        rw [show ((lead s).toNat : Int) = lead s by omega] at h2 ⊢
        exact sb z (by omega) (by omega)
      have b2 : Beat (Eqv (orR (rel s) (rel o))) (max s.lo o.lo) (min (s.hi + s.n) (o.hi + o.n)) ((lead o).toNat : Int) := fun z h1 h2 => by
        rw [show ((lead o).toNat : Int) = lead o by omega] at h2 ⊢
        exact ob z (by omega) (by omega)
      unfold shared at hsh
      exact beat_gcd _ (lead s).toNat (lead o).toNat (Nat.le_refl _) (by omega) (by omega) (by omega) b1 b2
    unfold shared at hsh
    rw [h.2.2]
    generalize gcdI (lead s) (lead o) = g at *
    by_cases c : s.lo ≤ x ∧ x + g < s.hi + s.n
    · exact beat_spread l1 g0 sb (by omega) (by omega) (by omega) ib x c.1 c.2
    · exact beat_spread l2 g0 ob (by omega) (by omega) (by omega) ib x (by omega) (by omega)
/-! taking in -/
def fits (s o : Sy) : Bool := !o.t && decide (lead s + lead o ≤ shared s o)
def partnerF (K : List Sy) (s : Sy) : Option Nat := if s.t = true then none else K.findIdx? (fits s)
theorem partner_some {K : List Sy} {s : Sy} {k : Nat} (h : partnerF K s = some k) : s.t = false ∧ ∃ o, K[k]? = some o ∧ o.t = false ∧ lead s + lead o ≤ shared s o := by
  unfold partnerF at h
  by_cases c : s.t = true
  · rw [if_pos c] at h; cases h
  · rw [if_neg c] at h
    obtain ⟨hk, hf, _⟩ := List.findIdx?_eq_some_iff_getElem.mp h
    unfold fits at hf
    rw [Bool.and_eq_true] at hf
    refine ⟨by cases e : s.t with | false => rfl | true => exact absurd e c, K[k], List.getElem?_eq_getElem hk, ?_, of_decide_eq_true hf.2⟩
    have := hf.1
    cases e : K[k].t with
    | false => rfl
    | true => rw [e] at this; cases this
def takenF : Nat → List Sy → List Sy → List Sy
  | 0, out, _ => out
  | _ + 1, out, [] => out
  | f + 1, out, s :: w => match partnerF out s with
    | none => takenF f (out ++ [s]) w
    | some k => match out[k]? with
      | none => out
      | some o => takenF f (out.eraseIdx k) (joinF o s :: w)
theorem shared_comm (s o : Sy) : shared s o = shared o s := by
  unfold shared
  rw [Int.min_comm, Int.max_comm]
theorem mem_erase {α : Type} {l : List α} {k : Nat} {o : α} (h : l[k]? = some o) (x : α) : x ∈ l ↔ x = o ∨ x ∈ l.eraseIdx k := by
  obtain ⟨hk, e⟩ := List.getElem?_eq_some_iff.mp h
  rw [List.eraseIdx_eq_take_drop_succ]
  conv => lhs; rw [← List.take_append_drop k l, List.drop_eq_getElem_cons hk, e]
  rw [List.mem_append, List.mem_append, List.mem_cons]
  constructor
  · rintro (h | h | h)
    · exact .inr (.inl h)
    · exact .inl h
    · exact .inr (.inr h)
  · rintro (h | h | h)
    · exact .inr (.inl h)
    · exact .inl h
    · exact .inr (.inr h)
theorem taken_ok {e : Int} : ∀ (f : Nat) (out w : List Sy), 2 * w.length + out.length ≤ f → (∀ s ∈ out, Ok e s) → (∀ s ∈ w, Ok e s) →
    (∀ s ∈ takenF f out w, Ok e s) ∧ EqR (relL (takenF f out w)) (orR (relL out) (relL w)) ∧ (takenF f out w).length ≤ out.length + w.length
  | 0, out, w, hf, ho, hw => by
    have e0 : w = [] := List.length_eq_zero_iff.mp (by omega)
    subst e0
    refine ⟨ho, .of_iff fun x y => ⟨.inl, fun h => h.elim id fun h => absurd h relL_nil⟩, by show out.length ≤ _; omega⟩
  | f + 1, out, [], hf, ho, hw => ⟨ho, .of_iff fun x y => ⟨.inl, fun h => h.elim id fun h => absurd h relL_nil⟩, by show out.length ≤ _; omega⟩
  | f + 1, out, s :: w, hf, ho, hw => by
    have hs := hw s List.mem_cons_self
    have hw' : ∀ u ∈ w, Ok e u := fun u hu => hw u (List.mem_cons_of_mem _ hu)
    rw [List.length_cons] at hf
    show (∀ u ∈ (match partnerF out s with | none => takenF f (out ++ [s]) w | some k => match out[k]? with | none => out | some o => takenF f (out.eraseIdx k) (joinF o s :: w)), Ok e u) ∧ EqR (relL (match partnerF out s with | none => takenF f (out ++ [s]) w | some k => match out[k]? with | none => out | some o => takenF f (out.eraseIdx k) (joinF o s :: w))) _ ∧ (match partnerF out s with | none => takenF f (out ++ [s]) w | some k => match out[k]? with | none => out | some o => takenF f (out.eraseIdx k) (joinF o s :: w)).length ≤ _
    cases hp : partnerF out s with
    | none =>
      obtain ⟨a, b, c⟩ := taken_ok f (out ++ [s]) w (by rw [List.length_append, List.length_singleton]; omega) (fun u hu => by
        rcases List.mem_append.mp hu with hu | hu
        · exact ho u hu
        · rw [List.mem_singleton.mp hu]; exact hs) hw'
      refine ⟨a, b.trans (.of_iff fun x y => ?_), ?_⟩
      · unfold orR
        rw [relL_append, relL_cons]
        unfold orR
        rw [relL_cons]
        unfold orR
        constructor
        · rintro ((h | h | h) | h)
          · exact .inl h
          · exact .inr (.inl h)
          · exact absurd h relL_nil
          · exact .inr (.inr h)
        · rintro (h | h | h)
          · exact .inl (.inl h)
          · exact .inl (.inr (.inl h))
          · exact .inr h
      · rw [List.length_append, List.length_singleton] at c
        rw [List.length_cons]
        simp only
        omega
    | some k =>
      obtain ⟨ts, o, hk, to, hsh⟩ := partner_some hp
      have hoo := ho o (List.mem_of_getElem? hk)
      have hsh' : lead o + lead s ≤ shared o s := by rw [shared_comm]; omega
      have hkl : k < out.length := (List.getElem?_eq_some_iff.mp hk).1
      have hlen : (out.eraseIdx k).length = out.length - 1 := by rw [List.length_eraseIdx, if_pos hkl]
      simp only [hk]
      obtain ⟨a, b, c⟩ := taken_ok f (out.eraseIdx k) (joinF o s :: w) (by rw [List.length_cons, hlen]; omega) (fun u hu => ho u ((mem_erase hk u).mpr (.inr hu))) (fun u hu => by
        rcases List.mem_cons.mp hu with rfl | hu
        · exact join_ok hoo hs hsh'
        · exact hw' u hu)
      refine ⟨a, b.trans ?_, ?_⟩
      · have j := (join_eq hoo hs to ts hsh').symm
        have e1 : EqR (orR (relL (out.eraseIdx k)) (relL (joinF o s :: w))) (orR (rel (joinF o s)) (orR (relL (out.eraseIdx k)) (relL w))) := .of_iff fun x y => by
          unfold orR; rw [relL_cons]; unfold orR
          constructor
          · rintro (h | h | h)
            · exact .inr (.inl h)
            · exact .inl h
            · exact .inr (.inr h)
          · rintro (h | h | h)
            · exact .inr (.inl h)
            · exact .inl h
            · exact .inr (.inr h)
        refine e1.trans ((j.orl _).trans (.of_iff fun x y => ?_))
        unfold orR
        rw [relL_cons]
        unfold orR
        have em : relL out x y ↔ rel o x y ∨ relL (out.eraseIdx k) x y := by
          unfold relL
          constructor
          · rintro ⟨u, hu, h⟩
            rcases (mem_erase hk u).mp hu with rfl | hu
            · exact .inl h
            · exact .inr ⟨u, hu, h⟩
          · rintro (h | ⟨u, hu, h⟩)
            · exact ⟨o, (mem_erase hk o).mpr (.inl rfl), h⟩
            · exact ⟨u, (mem_erase hk u).mpr (.inr hu), h⟩
        rw [em]
        constructor
        · rintro ((h | h) | h | h)
          · exact .inl (.inl h)
          · exact .inr (.inl h)
          · exact .inl (.inr h)
          · exact .inr (.inr h)
        · rintro ((h | h) | h | h)
          · exact .inl (.inl h)
          · exact .inr (.inl h)
          · exact .inl (.inr h)
          · exact .inr (.inr h)
      · rw [List.length_cons, hlen] at c
        rw [List.length_cons]
        omega
end Rep
namespace Rep
/-! carrying by the leader -/
/-- the places of (st, n) are, by R, those of (st', n), the one way round or the other -/
def Mv (R : Int → Int → Prop) (st st' n : Int) (f : Bool) : Prop := ∀ i, 0 ≤ i → i < n → Eqv R (st + i) (if f = true then st' + n - 1 - i else st' + i)
theorem Mv.id (R : Int → Int → Prop) (st n : Int) : Mv R st st n false := fun i _ _ => by
  rw [if_neg (by decide)]; exact .refl _
theorem carry_eq {R : Int → Int → Prop} {a a' b b' n : Int} {t f g : Bool} (ha : Mv R a a' n f) (hb : Mv R b b' n g) : EqR (orR R (says a b n t)) (orR R (says a' b' n ((t ^^ f) ^^ g))) := by
  refine .more (fun x y h => ?_) (fun x y h => ?_)
  · -- x = a + i
    obtain ⟨i, hi0, hi1, rfl⟩ : ∃ i, 0 ≤ i ∧ i < n ∧ x = a + i := ⟨x - a, by have := h.1; omega, by have := h.2.1; omega, by omega⟩
    have hy : y = b + (if t = true then n - 1 - i else i) := by
      cases t with
      | true => rw [says_t] at h; rw [if_pos rfl]; omega
      | false => rw [says_f] at h; rw [if_neg (by decide)]; omega
    have e1 := (ha i hi0 hi1).mono (S := orR R (says a' b' n ((t ^^ f) ^^ g))) fun _ _ z => .inl z
    have e2 : Eqv (orR R (says a' b' n ((t ^^ f) ^^ g))) y (if g = true then b' + n - 1 - (if t = true then n - 1 - i else i) else b' + (if t = true then n - 1 - i else i)) := by
      rw [hy]
      refine (hb _ ?_ ?_).mono fun _ _ z => .inl z
      · split <;> omega
      · split <;> omega
    refine .trans e1 (.trans (.of (.inr ?_)) (.symm e2))
    cases t <;> cases f <;> cases g <;> simp only [Bool.true_xor, Bool.false_xor, Bool.not_true, Bool.not_false, if_true, if_false, Bool.false_eq_true] <;> first | (rw [says_t]; omega) | (rw [says_f]; omega)
  · obtain ⟨j, hj0, hj1, rfl⟩ : ∃ j, 0 ≤ j ∧ j < n ∧ x = a' + j := ⟨x - a', by have := h.1; omega, by have := h.2.1; omega, by omega⟩
    -- the place of the stretch that was carried there
    have hi : ∃ i, 0 ≤ i ∧ i < n ∧ (if f = true then a' + n - 1 - i else a' + i) = a' + j ∧ (if g = true then b' + n - 1 - (if t = true then n - 1 - i else i) else b' + (if t = true then n - 1 - i else i)) = y := by
      cases f with
      | true =>
        refine ⟨n - 1 - j, by omega, by omega, by rw [if_pos rfl]; omega, ?_⟩
        cases t <;> cases g <;> simp only [Bool.true_xor, Bool.false_xor, Bool.not_true, Bool.not_false, if_true, if_false, Bool.false_eq_true] at h ⊢ <;> first | (rw [says_t] at h; omega) | (rw [says_f] at h; omega)
      | false =>
        refine ⟨j, hj0, hj1, by rw [if_neg (by decide)], ?_⟩
        cases t <;> cases g <;> simp only [Bool.true_xor, Bool.false_xor, Bool.not_true, Bool.not_false, if_true, if_false, Bool.false_eq_true] at h ⊢ <;> first | (rw [says_t] at h; omega) | (rw [says_f] at h; omega)
    obtain ⟨i, h0, h1, ex, ey⟩ := hi
    have e1 := (ha i h0 h1).mono (S := orR R (says a b n t)) fun _ _ z => .inl z
    have e2 : Eqv (orR R (says a b n t)) (b + (if t = true then n - 1 - i else i)) y := by
      rw [← ey]
      refine (hb _ ?_ ?_).mono fun _ _ z => .inl z
      · split <;> omega
      · split <;> omega
    rw [ex] at e1
    refine .trans (.symm e1) (.trans (.of (.inr ?_)) e2)
    cases t with
    | true => rw [says_t, if_pos rfl]; omega
    | false => rw [says_f, if_neg (by decide)]; omega
/-- where a stretch within the leader's high one starts when it is carried -/
def cstart (l : Sy) (st n : Int) : Int := if l.t = true then l.lo + l.hi + l.n - st - n else st - ((st - l.hi) / (l.hi - l.lo) + 1) * (l.hi - l.lo)
theorem mul_le_of {q d x : Int} (hd : 0 < d) : q * d ≤ x ↔ q ≤ x / d := (Int.le_ediv_iff_mul_le hd).symm
theorem div_bounds {x d : Int} (hd : 0 < d) : x / d * d ≤ x ∧ x < (x / d + 1) * d := by
  have h1 := Int.emod_nonneg x (show d ≠ 0 by omega)
  have h2 := Int.emod_lt_of_pos x hd
  have h3 := Int.emod_add_mul_ediv x d
  rw [Int.mul_comm] at h3
  rw [Int.add_mul]
  omega
theorem cstart_mv {e : Int} {l : Sy} (hl : Ok e l) (he : l.hi + l.n = e) {st n : Int} (h1 : l.hi ≤ st) (h2 : st + n ≤ e) (hn : 1 ≤ n) :
    Mv (rel l) st (cstart l st n) n l.t ∧ 0 ≤ cstart l st n ∧ cstart l st n < st := by
  have hlt := hl.lt
  have h0 := hl.lo0
  unfold cstart
  by_cases c : l.t = true
  · rw [if_pos c]
    have hov := hl.ov c
    refine ⟨fun i hi0 hi1 => ?_, by omega, by omega⟩
    rw [if_pos c]
    refine .symm (.of ?_)
    unfold rel
    rw [c, says_t]
    omega
  · rw [if_neg c]
    have c' : l.t = false := by cases e : l.t with | false => rfl | true => exact absurd e c
    have hd : 0 < l.hi - l.lo := by omega
    obtain ⟨b1, b2⟩ := div_bounds (x := st - l.hi) hd
    have hq : 0 ≤ (st - l.hi) / (l.hi - l.lo) := Int.ediv_nonneg (by omega) (by omega)
    have hB := rel_beat c' (R := rel l) fun x y h => .of h
    rw [he] at hB
    have eL : lead l = l.hi - l.lo := rfl
    obtain ⟨k, hk⟩ : ∃ k : Nat, (st - l.hi) / (l.hi - l.lo) + 1 = (k : Int) := ⟨((st - l.hi) / (l.hi - l.lo) + 1).toNat, by omega⟩
    rw [hk] at b2 ⊢
    have b3 : (k : Int) * (l.hi - l.lo) ≤ st - l.hi + (l.hi - l.lo) := by
      rw [← hk, Int.add_mul]
      omega
    have b4 : l.hi - l.lo ≤ (k : Int) * (l.hi - l.lo) := by
      rw [← hk, Int.add_mul]
      have := Int.mul_nonneg hq (show 0 ≤ l.hi - l.lo by omega)
      omega
    refine ⟨fun i hi0 hi1 => ?_, by omega, by omega⟩
    rw [if_neg c]
    have := beat_mul (R := rel l) (t := lead l) hd hB k (st - (k : Int) * (l.hi - l.lo) + i) (by omega) (by rw [eL]; omega)
    rw [eL, show st - (k : Int) * (l.hi - l.lo) + i + (k : Int) * (l.hi - l.lo) = st + i by omega] at this
    exact .symm this
/-- a saying, each of its stretches carried that lies within the leader's high one: not yet as it is kept -/
def carryF (l s : Sy) : Int × Int × Int × Bool :=
  (if l.hi ≤ s.lo then cstart l s.lo s.n else s.lo, if l.hi ≤ s.hi then cstart l s.hi s.n else s.hi, s.n, (s.t ^^ (decide (l.hi ≤ s.lo) && l.t)) ^^ (decide (l.hi ≤ s.hi) && l.t))
def saysQ (q : Int × Int × Int × Bool) (x y : Int) : Prop := says q.1 q.2.1 q.2.2.1 q.2.2.2 x y
theorem carryF_ok {e : Int} {l s : Sy} (hl : Ok e l) (he : l.hi + l.n = e) (hs : Ok e s) (hh : l.hi ≤ s.hi) :
    EqR (orR (rel l) (rel s)) (orR (rel l) (saysQ (carryF l s))) ∧ 0 ≤ (carryF l s).1 ∧ 0 ≤ (carryF l s).2.1 ∧ (carryF l s).1 + s.n < e ∧ (carryF l s).2.1 + s.n < e := by
  have a1 := hs.lo0
  have a2 := hs.lt
  have a3 := hs.n1
  have a4 := hs.le
  obtain ⟨m2, c2, d2⟩ := cstart_mv hl he hh a4 a3
  have eh : (if l.hi ≤ s.hi then cstart l s.hi s.n else s.hi) = cstart l s.hi s.n := if_pos hh
  have fh : (decide (l.hi ≤ s.hi) && l.t) = l.t := by rw [decide_eq_true hh]; rfl
  unfold carryF saysQ
  simp only [eh, fh]
  by_cases c : l.hi ≤ s.lo
  · obtain ⟨m1, c1, d1⟩ := cstart_mv hl he c (show s.lo + s.n ≤ e by omega) a3
    rw [if_pos c, decide_eq_true c]
    simp only [Bool.true_and]
    exact ⟨carry_eq m1 m2, c1, c2, by omega, by omega⟩
  · rw [if_neg c, decide_eq_false c]
    simp only [Bool.false_and]
    exact ⟨carry_eq (Mv.id _ _ _) m2, a1, c2, by omega, by omega⟩
/-! the cut -/
structure Ct where
  lo : Int
  be : Int
  by_ : Int
  t : Bool
def led (c : Ct) (x : Int) : Int := if c.t = true then c.by_ - x else x - ((x - c.lo) / c.by_ + 1) * c.by_
def link (c : Ct) (x y : Int) : Prop := 0 < c.by_ ∧ c.lo ≤ x ∧ x < c.be ∧ y = led c x
def shortF (l : Sy) (e' : Int) : Int × Int × Int × Bool := if l.t = true then (l.lo + (l.hi + l.n - e'), l.hi, l.n - (l.hi + l.n - e'), true) else (l.lo, l.hi, l.n - (l.hi + l.n - e'), false)
def cutF (l : Sy) (e' : Int) : Ct := ⟨e', l.hi + l.n, if l.t = true then l.lo + l.hi + l.n - 1 else l.hi - l.lo, l.t⟩
theorem cut_by_pos {e : Int} {l : Sy} (hl : Ok e l) (e' : Int) : 0 < (cutF l e').by_ := by
  have := hl.lt
  have := hl.lo0
  have := hl.n1
  unfold cutF
  show 0 < if l.t = true then _ else _
  split <;> omega
theorem cut_led {e e' : Int} {l : Sy} (hl : Ok e l) (h1 : l.hi ≤ e') {x : Int} (hx : e' ≤ x) (hb : x < l.hi + l.n) : 0 ≤ led (cutF l e') x ∧ led (cutF l e') x < e' ∧ Eqv (rel l) x (led (cutF l e') x) := by
  have hlt := hl.lt
  have h0 := hl.lo0
  unfold led cutF
  by_cases c : l.t = true
  · simp only [if_pos c]
    have hov := hl.ov c
    refine ⟨by omega, by omega, .symm (.of ?_)⟩
    unfold rel
    rw [c, says_t]
    omega
  · simp only [if_neg c]
    have c' : l.t = false := by cases e : l.t with | false => rfl | true => exact absurd e c
    have hd : 0 < l.hi - l.lo := by omega
    obtain ⟨b1, b2⟩ := div_bounds (x := x - e') hd
    have hq : 0 ≤ (x - e') / (l.hi - l.lo) := Int.ediv_nonneg (by omega) (by omega)
    have hB := rel_beat c' (R := rel l) fun x y h => .of h
    have eL : lead l = l.hi - l.lo := rfl
    obtain ⟨k, hk⟩ : ∃ k : Nat, (x - e') / (l.hi - l.lo) + 1 = (k : Int) := ⟨((x - e') / (l.hi - l.lo) + 1).toNat, by omega⟩
    rw [hk] at b2 ⊢
    have b3 : (k : Int) * (l.hi - l.lo) ≤ x - e' + (l.hi - l.lo) := by
      rw [← hk, Int.add_mul]
      omega
    refine ⟨by omega, by omega, ?_⟩
    have := beat_mul (R := rel l) (t := lead l) hd hB k (x - (k : Int) * (l.hi - l.lo)) (by omega) (by rw [eL]; omega)
    rw [eL, show x - (k : Int) * (l.hi - l.lo) + (k : Int) * (l.hi - l.lo) = x by omega] at this
    exact .symm this
theorem cut_eq {e e' : Int} {l : Sy} (hl : Ok e l) (h1 : l.hi ≤ e') (h2 : e' ≤ l.hi + l.n) : EqR (rel l) (orR (saysQ (shortF l e')) (link (cutF l e'))) := by
  have hlt := hl.lt
  have h0 := hl.lo0
  refine ⟨fun x y h => ?_, fun x y h => ?_⟩
  · by_cases c : l.t = true
    · have hs : saysQ (shortF l e') = says (l.lo + (l.hi + l.n - e')) l.hi (l.n - (l.hi + l.n - e')) true := by unfold saysQ shortF; rw [if_pos c]
      have hov := hl.ov c
      unfold rel at h
      rw [c, says_t] at h
      by_cases d : y < e'
      · refine .of (.inl ?_)
        rw [hs, says_t]
        omega
      · refine .symm (.of (.inr ⟨cut_by_pos hl e', ?_, ?_, ?_⟩))
        · show e' ≤ y; omega
        · show y < l.hi + l.n; omega
        · unfold led cutF
          simp only [if_pos c]
          omega
    · have c' : l.t = false := by cases e : l.t with | false => rfl | true => exact absurd e c
      have hs : saysQ (shortF l e') = says l.lo l.hi (l.n - (l.hi + l.n - e')) false := by unfold saysQ shortF; rw [if_neg c]
      have h := (rel_straight c').mp h
      have eL : lead l = l.hi - l.lo := rfl
      rw [eL] at h
      have hd : 0 < l.hi - l.lo := by omega
      by_cases d : y < e'
      · refine .of (.inl ?_)
        rw [hs, says_f]
        omega
      · have hy : Eqv (orR (saysQ (shortF l e')) (link (cutF l e'))) y (led (cutF l e') y) := .of (.inr ⟨cut_by_pos hl e', by show e' ≤ y; omega, by show y < l.hi + l.n; omega, rfl⟩)
        have ly : led (cutF l e') y = y - ((y - e') / (l.hi - l.lo) + 1) * (l.hi - l.lo) := by
          unfold led cutF; simp only [if_neg c]
        by_cases g : x < e'
        · have e0 : (y - e') / (l.hi - l.lo) = 0 := Int.ediv_eq_zero_of_lt (by omega) (by omega)
          rw [ly, e0] at hy
          rw [show y - (0 + 1) * (l.hi - l.lo) = x by omega] at hy
          exact .symm hy
        · have hx : Eqv (orR (saysQ (shortF l e')) (link (cutF l e'))) x (led (cutF l e') x) := .of (.inr ⟨cut_by_pos hl e', by show e' ≤ x; omega, by show x < l.hi + l.n; omega, rfl⟩)
          have lx : led (cutF l e') x = x - ((x - e') / (l.hi - l.lo) + 1) * (l.hi - l.lo) := by
            unfold led cutF; simp only [if_neg c]
          have e0 : (y - e') / (l.hi - l.lo) = (x - e') / (l.hi - l.lo) + 1 := by
            have : y - e' = (x - e') + (l.hi - l.lo) := by omega
            rw [this, Int.add_ediv_of_dvd_right (Int.dvd_refl _), Int.ediv_self (by omega)]
          have ee : led (cutF l e') y = led (cutF l e') x := by
            rw [ly, lx, e0, Int.add_mul, Int.add_mul]
            omega
          rw [ee] at hy
          exact .trans hx (.symm hy)
  · rcases h with h | h
    · by_cases c : l.t = true
      · have hs : saysQ (shortF l e') = says (l.lo + (l.hi + l.n - e')) l.hi (l.n - (l.hi + l.n - e')) true := by unfold saysQ shortF; rw [if_pos c]
        rw [hs, says_t] at h
        refine .of ?_
        unfold rel
        rw [c, says_t]
        omega
      · have c' : l.t = false := by cases e : l.t with | false => rfl | true => exact absurd e c
        have hs : saysQ (shortF l e') = says l.lo l.hi (l.n - (l.hi + l.n - e')) false := by unfold saysQ shortF; rw [if_neg c]
        rw [hs, says_f] at h
        refine .of ?_
        unfold rel
        rw [c', says_f]
        omega
    · obtain ⟨_, hx, hb, rfl⟩ := h
      exact (cut_led hl h1 hx hb).2.2
/-! following -/
def fOf : List Ct → Int → Int
  | [], x => x
  | c :: r, x => if c.lo ≤ x then (if 0 < c.by_ then fOf r (led c x) else x) else fOf r x
/-- what the cuts of a song below e are to the sayings that are left: told from the song's end -/
inductive Stg : Int → List Sy → List Ct → Prop
  | nil {K : List Sy} : (∀ s ∈ K, Ok 0 s) → Stg 0 K []
  | free {e e' : Int} {K : List Sy} {C : List Ct} : 0 ≤ e' → e' < e → (∀ s ∈ K, Ok e' s) → Stg e' K C → Stg e K (⟨e', e, 0, false⟩ :: C)
  | led {e e' : Int} {K K' : List Sy} {c : Ct} {C : List Ct} : 0 ≤ e' → e' < e → (∀ s ∈ K, Ok e s) → (∀ s ∈ K', Ok e' s) → c.lo = e' → c.be = e → 0 < c.by_ → (∀ x, e' ≤ x → x < e → 0 ≤ led c x ∧ led c x < e') →
      EqR (relL K) (orR (relL K') (link c)) → Stg e' K' C → Stg e K (c :: C)
theorem Ok.both {e : Int} {s : Sy} (h : Ok e s) {x y : Int} (r : rel s x y) : (0 ≤ x ∧ x < e) ∧ 0 ≤ y ∧ y < e := by
  have a1 := h.lo0
  have a2 := h.lt
  have a4 := h.le
  unfold rel at r
  cases c : s.t with
  | true => rw [c, says_t] at r; omega
  | false => rw [c, says_f] at r; omega
theorem fOf_ok {e : Int} {K : List Sy} {C : List Ct} (h : Stg e K C) :
    (∀ x, 0 ≤ x → x < e → 0 ≤ fOf C x ∧ fOf C x ≤ x ∧ Eqv (relL K) x (fOf C x)) ∧ ∀ x y, Eqv (relL K) x y → (x = y ∨ (0 ≤ x ∧ x < e ∧ 0 ≤ y ∧ y < e ∧ fOf C x = fOf C y)) := by
  -- a relation within [0, e) that f keeps is kept along any number of steps
  have along : ∀ {R : Int → Int → Prop} {e : Int} {F : Int → Int}, (∀ x y, R x y → 0 ≤ x ∧ x < e ∧ 0 ≤ y ∧ y < e ∧ F x = F y) → ∀ x y, Eqv R x y → (x = y ∨ (0 ≤ x ∧ x < e ∧ 0 ≤ y ∧ y < e ∧ F x = F y)) := by
    intro R e F hR x y h
    induction h with
    | refl x => exact .inl rfl
    | of r => exact .inr (hR _ _ r)
    | symm _ ih =>
      rcases ih with e | ⟨a, b, c, d, e⟩
      · exact .inl e.symm
      · exact .inr ⟨c, d, a, b, e.symm⟩
    | trans _ _ i1 i2 =>
      rcases i1 with e1 | ⟨a, b, c, d, e1⟩
      · rw [e1]; exact i2
      · rcases i2 with e2 | ⟨_, _, c', d', e2⟩
        · rw [← e2]; exact .inr ⟨a, b, c, d, e1⟩
        · exact .inr ⟨a, b, c', d', e1.trans e2⟩
  induction h with
  | nil hK =>
    refine ⟨fun x h0 h1 => by omega, along fun x y ⟨s, hs, r⟩ => ?_⟩
    have := (hK s hs).both r
    omega
  | @free e e' K C h0 h1 hK _ ih =>
    obtain ⟨i1, i2⟩ := ih
    have f1 : ∀ x, e' ≤ x → fOf (⟨e', e, 0, false⟩ :: C) x = x := fun x hx => by
      show (if e' ≤ x then (if (0 : Int) < 0 then _ else x) else _) = x
      rw [if_pos hx, if_neg (by decide)]
    have f2 : ∀ x, x < e' → fOf (⟨e', e, 0, false⟩ :: C) x = fOf C x := fun x hx => by
      show (if e' ≤ x then _ else fOf C x) = _
      rw [if_neg (by omega)]
    refine ⟨fun x hx hb => ?_, along fun x y ⟨s, hs, r⟩ => ?_⟩
    · by_cases c : e' ≤ x
      · rw [f1 x c]; exact ⟨hx, Int.le_refl _, .refl x⟩
      · rw [f2 x (by omega)]; exact i1 x hx (by omega)
    · have hb := (hK s hs).both r
      refine ⟨hb.1.1, by omega, hb.2.1, by omega, ?_⟩
      rw [f2 x (by omega), f2 y (by omega)]
      rcases i2 x y (.of ⟨s, hs, r⟩) with e | e
      · rw [e]
      · exact e.2.2.2.2
  | @led e e' K K' c C h0 h1 hK hK' hlo hbe hby hled heq _ ih =>
    obtain ⟨i1, i2⟩ := ih
    have f1 : ∀ x, e' ≤ x → fOf (c :: C) x = fOf C (led c x) := fun x hx => by
      show (if c.lo ≤ x then (if 0 < c.by_ then _ else x) else _) = _
      rw [hlo, if_pos hx, if_pos hby]
    have f2 : ∀ x, x < e' → fOf (c :: C) x = fOf C x := fun x hx => by
      show (if c.lo ≤ x then _ else fOf C x) = _
      rw [hlo, if_neg (by omega)]
    have up : ∀ {x y}, Eqv (relL K') x y → Eqv (relL K) x y := fun {x y} h => heq.iff.mpr (h.mono fun _ _ z => .inl z)
    refine ⟨fun x hx hb => ?_, fun x y h => ?_⟩
    · by_cases d : e' ≤ x
      · obtain ⟨l0, l1⟩ := hled x d hb
        obtain ⟨a, b, g⟩ := i1 _ l0 l1
        rw [f1 x d]
        refine ⟨a, by omega, .trans (heq.iff.mpr (.of (.inr ⟨hby, by rw [hlo]; exact d, by rw [hbe]; exact hb, rfl⟩))) (up g)⟩
      · rw [f2 x (by omega)]
        obtain ⟨a, b, g⟩ := i1 x hx (by omega)
        exact ⟨a, b, up g⟩
    · refine along (R := orR (relL K') (link c)) (fun x y r => ?_) x y (heq.iff.mp h)
      rcases r with ⟨s, hs, r⟩ | ⟨_, hx, hb, rfl⟩
      · have hb := (hK' s hs).both r
        refine ⟨hb.1.1, by omega, hb.2.1, by omega, ?_⟩
        rw [f2 x (by omega), f2 y (by omega)]
        rcases i2 x y (.of ⟨s, hs, r⟩) with e | e
        · rw [e]
        · exact e.2.2.2.2
      · rw [hlo] at hx
        rw [hbe] at hb
        obtain ⟨l0, l1⟩ := hled x hx hb
        refine ⟨by omega, hb, l0, by omega, ?_⟩
        rw [f1 x hx, f2 _ l1]
/-- so what is come to is the least place alike -/
theorem fOf_least {e : Int} {K : List Sy} {C : List Ct} (h : Stg e K C) {x y : Int} (hx : 0 ≤ x) (hb : x < e) (hy : Eqv (relL K) x y) : fOf C x ≤ y := by
  obtain ⟨a, b⟩ := fOf_ok h
  rcases b x y hy with e | ⟨_, _, c, d, e⟩
  · rw [← e]; exact (a x hx hb).2.1
  · rw [e]; exact (a y c d).2.1
end Rep
namespace Rep
/-! the whole reckoning -/
def keptL (qs : List (Int × Int × Int × Bool)) : List Sy := qs.filterMap fun q => keptF q.1 q.2.1 q.2.2.1 q.2.2.2
def relQ (qs : List (Int × Int × Int × Bool)) (x y : Int) : Prop := ∃ q ∈ qs, saysQ q x y
theorem keptL_eq (qs : List (Int × Int × Int × Bool)) : EqR (relQ qs) (relL (keptL qs)) := by
  refine ⟨fun x y ⟨q, hq, h⟩ => ?_, fun x y ⟨s, hs, h⟩ => ?_⟩
  · refine ((kept_eq (a := q.1) (b := q.2.1) (n := q.2.2.1) (t := q.2.2.2)).1 x y h).mono fun x y ⟨s, e, r⟩ => ⟨s, ?_, r⟩
    exact List.mem_filterMap.mpr ⟨q, hq, e⟩
  · obtain ⟨q, hq, e⟩ := List.mem_filterMap.mp hs
    exact ((kept_eq (a := q.1) (b := q.2.1) (n := q.2.2.1) (t := q.2.2.2)).2 x y ⟨s, e, h⟩).mono fun x y r => ⟨q, hq, r⟩
def gE (K : List Sy) : Int := K.foldl (fun a s => max a (s.hi + s.n)) 0
theorem gE_fold : ∀ (K : List Sy) (a : Int), a ≤ K.foldl (fun a s => max a (s.hi + s.n)) a ∧ (∀ s ∈ K, s.hi + s.n ≤ K.foldl (fun a s => max a (s.hi + s.n)) a) ∧ ∀ e, a < e → (∀ s ∈ K, s.hi + s.n < e) → K.foldl (fun a s => max a (s.hi + s.n)) a < e
  | [], a => ⟨Int.le_refl _, fun s h => (by cases h), fun e h _ => h⟩
  | s :: K, a => by
    obtain ⟨h1, h2, h3⟩ := gE_fold K (max a (s.hi + s.n))
    refine ⟨?_, fun u hu => ?_, fun e ha hK => ?_⟩
    · show a ≤ K.foldl _ (max a (s.hi + s.n)); omega
    · show u.hi + u.n ≤ K.foldl _ (max a (s.hi + s.n))
      rcases List.mem_cons.mp hu with rfl | hu
      · omega
      · exact h2 u hu
    · refine h3 e ?_ fun u hu => hK u (List.mem_cons_of_mem _ hu)
      have := hK s List.mem_cons_self
      omega
theorem gE_nonneg (K : List Sy) : 0 ≤ gE K := (gE_fold K 0).1
theorem gE_ge {K : List Sy} {s : Sy} (h : s ∈ K) : s.hi + s.n ≤ gE K := (gE_fold K 0).2.1 s h
theorem gE_lt {K : List Sy} {e : Int} (h0 : 0 < e) (h : ∀ s ∈ K, s.hi + s.n < e) : gE K < e := (gE_fold K 0).2.2 e h0 h
/-- ends later, or as late with longer stretches -/
def better (a b : Sy) : Bool := decide (b.hi + b.n < a.hi + a.n ∨ (b.hi + b.n = a.hi + a.n ∧ b.n < a.n))
def bestF (s : Sy) (K : List Sy) : Sy := K.foldl (fun b s => if better s b = true then s else b) s
theorem best_ok : ∀ (K : List Sy) (s : Sy), bestF s K ∈ s :: K ∧ ∀ u ∈ s :: K, better u (bestF s K) = false
  | [], s => ⟨List.mem_cons_self, fun u hu => by
    have e : u = s := List.mem_singleton.mp hu
    rw [e]
    show better s s = false
    unfold better
    exact decide_eq_false (by omega)⟩
  | v :: K, s => by
    show (K.foldl _ (if better v s = true then v else s)) ∈ _ ∧ ∀ u ∈ _, better u (K.foldl _ (if better v s = true then v else s)) = false
    have hv : ∀ u, u = s ∨ u = v → better u (if better v s = true then v else s) = false := by
      intro u hu
      unfold better
      by_cases c : v.hi + v.n > s.hi + s.n ∨ (s.hi + s.n = v.hi + v.n ∧ s.n < v.n)
      · rw [if_pos (decide_eq_true (by omega))]
        rcases hu with rfl | rfl
        · exact decide_eq_false (by omega)
        · exact decide_eq_false (by omega)
      · rw [if_neg (fun z => c (by have := of_decide_eq_true z; omega))]
        rcases hu with rfl | rfl
        · exact decide_eq_false (by omega)
        · exact decide_eq_false (by omega)
    obtain ⟨a, b⟩ := best_ok K (if better v s = true then v else s)
    unfold bestF at a b
    refine ⟨?_, fun u hu => ?_⟩
    · rcases List.mem_cons.mp a with a | a
      · rw [a]
        by_cases c : better v s = true
        · rw [if_pos c]; exact List.mem_cons_of_mem _ List.mem_cons_self
        · rw [if_neg c]; exact List.mem_cons_self
      · exact List.mem_cons_of_mem _ (List.mem_cons_of_mem _ a)
    · rcases List.mem_cons.mp hu with h | hu
      · have h1 := hv u (.inl h)
        have h2 := b _ List.mem_cons_self
        unfold better at *
        have h1 := of_decide_eq_false h1
        have h2 := of_decide_eq_false h2
        exact decide_eq_false (by omega)
      · rcases List.mem_cons.mp hu with h | hu
        · have h1 := hv u (.inr h)
          have h2 := b _ List.mem_cons_self
          unfold better at *
          have h1 := of_decide_eq_false h1
          have h2 := of_decide_eq_false h2
          exact decide_eq_false (by omega)
        · exact b u (List.mem_cons_of_mem _ hu)
def leadF : List Sy → Option Sy
  | [] => none
  | s :: K => some (bestF s K)
/-- what is left behind the leader's cut, and where the song ends then -/
def stillF (l : Sy) (O : List Sy) : List Sy := O.filter fun s => decide (s.hi < l.hi)
def freshF (l : Sy) (O : List Sy) : List Sy := keptL ((O.filter fun s => decide (l.hi ≤ s.hi)).map (carryF l))
def endF (l : Sy) (O : List Sy) : Int := max (max l.hi (gE (stillF l O))) (gE (freshF l O))
def nextF (l : Sy) (O : List Sy) : List Sy :=
  let fr := freshF l O ++ keptL [shortF l (endF l O)]
  takenF (2 * fr.length + (stillF l O).length) (stillF l O) fr.reverse
structure Leads (e : Int) (l : Sy) (O : List Sy) : Prop where
  ok : Ok e l
  en : l.hi + l.n = e
  oth : ∀ s ∈ O, Ok e s
  best : ∀ s ∈ O, better s l = false
theorem Leads.still {e : Int} {l : Sy} {O : List Sy} (h : Leads e l O) : ∀ s ∈ stillF l O, Ok e s ∧ s.hi + s.n < e := by
  intro s hs
  obtain ⟨h1, h2⟩ := List.mem_filter.mp hs
  have h2 := of_decide_eq_true h2
  have h3 := h.oth s h1
  have h4 := of_decide_eq_false (h.best s h1)
  have h5 := h3.le
  have h6 := h.en
  exact ⟨h3, by omega⟩
theorem Leads.fresh {e : Int} {l : Sy} {O : List Sy} (h : Leads e l O) : ∀ s ∈ freshF l O, Ok e s ∧ s.hi + s.n < e := by
  intro s hs
  obtain ⟨q, hq, e1⟩ := List.mem_filterMap.mp hs
  obtain ⟨u, hu, rfl⟩ := List.mem_map.mp hq
  obtain ⟨h1, h2⟩ := List.mem_filter.mp hu
  have h2 := of_decide_eq_true h2
  obtain ⟨_, c1, c2, c3, c4⟩ := carryF_ok h.ok h.en (h.oth u h1) h2
  have en : (carryF l u).2.2.1 = u.n := rfl
  rw [en] at e1
  obtain ⟨k1, k2⟩ := kept_ok c1 c2 (show (carryF l u).1 + u.n ≤ e by omega) (show (carryF l u).2.1 + u.n ≤ e by omega) e1
  exact ⟨k1, by omega⟩
theorem Leads.end_ {e : Int} {l : Sy} {O : List Sy} (h : Leads e l O) : l.hi ≤ endF l O ∧ endF l O < e := by
  have h1 := h.ok.lo0
  have h2 := h.ok.lt
  have h3 := h.ok.n1
  have h4 := h.en
  have g1 := gE_lt (K := stillF l O) (e := e) (by omega) fun s hs => (h.still s hs).2
  have g2 := gE_lt (K := freshF l O) (e := e) (by omega) fun s hs => (h.fresh s hs).2
  unfold endF
  omega
theorem Leads.stage {e : Int} {l : Sy} {O : List Sy} (h : Leads e l O) :
    (∀ s ∈ nextF l O, Ok (endF l O) s) ∧ EqR (orR (rel l) (relL O)) (orR (relL (nextF l O)) (link (cutF l (endF l O)))) ∧ (nextF l O).length ≤ O.length + 1 := by
  obtain ⟨e1, e2⟩ := h.end_
  have en := h.en
  have l0 := h.ok.lo0
  have l1 := h.ok.lt
  have l2 := h.ok.n1
  -- the shortened leader
  have hsh : ∀ s ∈ keptL [shortF l (endF l O)], Ok (endF l O) s := fun s hs => by
    obtain ⟨q, hq, k⟩ := List.mem_filterMap.mp hs
    have eq_ : q = shortF l (endF l O) := List.mem_singleton.mp hq
    subst eq_
    by_cases c : l.t = true
    · have es : shortF l (endF l O) = (l.lo + (l.hi + l.n - endF l O), l.hi, l.n - (l.hi + l.n - endF l O), true) := if_pos c
      rw [es] at k
      have hov := h.ok.ov c
      exact (kept_ok (by show 0 ≤ l.lo + (l.hi + l.n - endF l O); omega) (by show 0 ≤ l.hi; omega) (by show l.lo + (l.hi + l.n - endF l O) + (l.n - (l.hi + l.n - endF l O)) ≤ endF l O; omega) (by show l.hi + (l.n - (l.hi + l.n - endF l O)) ≤ endF l O; omega) k).1
    · have es : shortF l (endF l O) = (l.lo, l.hi, l.n - (l.hi + l.n - endF l O), false) := if_neg c
      rw [es] at k
      exact (kept_ok (by show 0 ≤ l.lo; omega) (by show 0 ≤ l.hi; omega) (by show l.lo + (l.n - (l.hi + l.n - endF l O)) ≤ endF l O; omega) (by show l.hi + (l.n - (l.hi + l.n - endF l O)) ≤ endF l O; omega) k).1
  have hst : ∀ s ∈ stillF l O, Ok (endF l O) s := fun s hs => (h.still s hs).1.mono (by have := gE_ge hs; unfold endF; omega)
  have hfr : ∀ s ∈ freshF l O, Ok (endF l O) s := fun s hs => (h.fresh s hs).1.mono (by have := gE_ge hs; unfold endF; omega)
  have hw : ∀ s ∈ (freshF l O ++ keptL [shortF l (endF l O)]).reverse, Ok (endF l O) s := fun s hs => by
    rcases List.mem_append.mp (List.mem_reverse.mp hs) with hs | hs
    · exact hfr s hs
    · exact hsh s hs
  obtain ⟨t1, t2, t3⟩ := taken_ok (e := endF l O) (2 * (freshF l O ++ keptL [shortF l (endF l O)]).length + (stillF l O).length) (stillF l O) (freshF l O ++ keptL [shortF l (endF l O)]).reverse (by rw [List.length_reverse]; omega) hst hw
  refine ⟨t1, ?_, ?_⟩
  · -- the others, carried
    have c1 : EqR (orR (rel l) (relL O)) (orR (rel l) (orR (relL (stillF l O)) (relQ ((O.filter fun s => decide (l.hi ≤ s.hi)).map (carryF l))))) := by
      refine .more (fun x y ⟨s, hs, r⟩ => ?_) (fun x y r => ?_)
      · by_cases c : l.hi ≤ s.hi
        · refine ((carryF_ok h.ok en (h.oth s hs) c).1.to x y (.inr r)).mono fun x y z => ?_
          rcases z with z | z
          · exact .inl z
          · exact .inr (.inr ⟨_, List.mem_map.mpr ⟨s, List.mem_filter.mpr ⟨hs, decide_eq_true c⟩, rfl⟩, z⟩)
        · exact .of (.inr (.inl ⟨s, List.mem_filter.mpr ⟨hs, decide_eq_true (by omega)⟩, r⟩))
      · rcases r with ⟨s, hs, r⟩ | ⟨q, hq, r⟩
        · exact .of (.inr ⟨s, (List.mem_filter.mp hs).1, r⟩)
        · obtain ⟨s, hs, rfl⟩ := List.mem_map.mp hq
          obtain ⟨h1, h2⟩ := List.mem_filter.mp hs
          refine ((carryF_ok h.ok en (h.oth s h1) (of_decide_eq_true h2)).1.back x y (.inr r)).mono fun x y z => ?_
          rcases z with z | z
          · exact .inl z
          · exact .inr ⟨s, h1, z⟩
    have c2 : EqR (relQ ((O.filter fun s => decide (l.hi ≤ s.hi)).map (carryF l))) (relL (freshF l O)) := keptL_eq _
    have c3 : EqR (rel l) (orR (relL (keptL [shortF l (endF l O)])) (link (cutF l (endF l O)))) := by
      refine (cut_eq h.ok e1 (by omega)).trans (EqR.orl _ ?_)
      refine EqR.trans (.of_iff fun x y => ?_) (keptL_eq [shortF l (endF l O)])
      constructor
      · intro r; exact ⟨_, List.mem_singleton.mpr rfl, r⟩
      · rintro ⟨q, hq, r⟩
        rw [List.mem_singleton.mp hq] at r
        exact r
    refine (c1.trans (((c2.orr _).orr _).trans (c3.orl _))).trans ?_
    refine EqR.trans (.of_iff fun x y => ?_) (EqR.orl _ (t2.symm))
    unfold orR
    have em : relL (freshF l O ++ keptL [shortF l (endF l O)]).reverse x y ↔ relL (freshF l O) x y ∨ relL (keptL [shortF l (endF l O)]) x y := by
      have e0 : relL (freshF l O ++ keptL [shortF l (endF l O)]).reverse x y ↔ relL (freshF l O ++ keptL [shortF l (endF l O)]) x y :=
        ⟨fun ⟨s, hs, r⟩ => ⟨s, List.mem_reverse.mp hs, r⟩, fun ⟨s, hs, r⟩ => ⟨s, List.mem_reverse.mpr hs, r⟩⟩
      rw [e0, relL_append]
      rfl
    rw [em]
    constructor
    · rintro ((h | h) | h | h)
      · exact .inl (.inr (.inr h))
      · exact .inr h
      · exact .inl (.inl h)
      · exact .inl (.inr (.inl h))
    · rintro ((h | h | h) | h)
      · exact .inr (.inl h)
      · exact .inr (.inr h)
      · exact .inl (.inl h)
      · exact .inl (.inr h)
  · refine Nat.le_trans t3 ?_
    rw [List.length_reverse, List.length_append]
    have f1 : (freshF l O).length ≤ (O.filter fun s => decide (l.hi ≤ s.hi)).length := by
      unfold freshF keptL
      refine Nat.le_trans (List.length_filterMap_le _ _) ?_
      rw [List.length_map]
      exact Nat.le_refl _
    have f2 : (keptL [shortF l (endF l O)]).length ≤ 1 := List.length_filterMap_le _ _
    have f3 : (stillF l O).length + (O.filter fun s => decide (l.hi ≤ s.hi)).length = O.length := by
      unfold stillF
      clear t1 t2 t3 hw hfr hst hsh f1 f2 h en e1 e2
      induction O with
      | nil => rfl
      | cons s O ih =>
        by_cases c : s.hi < l.hi
        · have e1 : (s :: O).filter (fun s => decide (s.hi < l.hi)) = s :: O.filter (fun s => decide (s.hi < l.hi)) := by simp [c]
          have e2 : (s :: O).filter (fun s => decide (l.hi ≤ s.hi)) = O.filter (fun s => decide (l.hi ≤ s.hi)) := by
            have c' : ¬ l.hi ≤ s.hi := by omega
            simp [c']
          rw [e1, e2, List.length_cons, List.length_cons]
          omega
        · have e1 : (s :: O).filter (fun s => decide (s.hi < l.hi)) = O.filter (fun s => decide (s.hi < l.hi)) := by simp [c]
          have e2 : (s :: O).filter (fun s => decide (l.hi ≤ s.hi)) = s :: O.filter (fun s => decide (l.hi ≤ s.hi)) := by
            have c' : l.hi ≤ s.hi := by omega
            simp [c']
          rw [e1, e2, List.length_cons, List.length_cons]
          omega
    omega
/-- one cut of what is left -/
def cutBy (K : List Sy) : Option (Ct × List Sy) := match leadF K with
  | none => none
  | some l => some (cutF l (endF l (K.erase l)), nextF l (K.erase l))
theorem lead_leads {e : Int} {K : List Sy} {l : Sy} (hK : ∀ s ∈ K, Ok e s) (he : e ≤ gE K) (h0 : 0 < e) (hl : leadF K = some l) : Leads e l (K.erase l) ∧ l ∈ K := by
  cases K with
  | nil => cases hl
  | cons s K =>
    cases hl
    obtain ⟨a, b⟩ := best_ok K s
    refine ⟨⟨hK _ a, ?_, fun u hu => hK u (List.mem_of_mem_erase hu), fun u hu => b u (List.mem_of_mem_erase hu)⟩, a⟩
    -- it ends last
    have h1 := (hK _ a).le
    by_cases c : (bestF s K).hi + (bestF s K).n < e
    · have : gE (s :: K) < e := gE_lt h0 fun u hu => by
        have := of_decide_eq_false (b u hu)
        omega
      omega
    · omega
theorem lead_some {K : List Sy} (h : 0 < gE K) : ∃ l, leadF K = some l := by
  cases K with
  | nil => exact absurd h (by decide)
  | cons s K => exact ⟨_, rfl⟩
theorem relL_erase {K : List Sy} {l : Sy} (h : l ∈ K) : EqR (relL K) (orR (rel l) (relL (K.erase l))) := .of_iff fun x y => by
  constructor
  · rintro ⟨s, hs, r⟩
    by_cases c : s = l
    · subst c; exact .inl r
    · exact .inr ⟨s, (List.mem_erase_of_ne c).mpr hs, r⟩
  · rintro (r | ⟨s, hs, r⟩)
    · exact ⟨l, h, r⟩
    · exact ⟨s, List.mem_of_mem_erase hs, r⟩
/-- all cuts, from the song's end -/
def cutsF : Nat → Int → List Sy → List Ct
  | 0, _, _ => []
  | f + 1, e, K => if e ≤ 0 then [] else if gE K < e then ⟨gE K, e, 0, false⟩ :: cutsF f (gE K) K else match cutBy K with
    | none => []
    | some (c, K') => c :: cutsF f c.lo K'
theorem cuts_stg : ∀ (f : Nat) (e : Int) (K : List Sy), e ≤ (f : Int) → 0 ≤ e → (∀ s ∈ K, Ok e s) → Stg e K (cutsF f e K)
  | 0, e, K, hf, h0, hK => by
    have e0 : e = 0 := by omega
    subst e0
    exact .nil hK
  | f + 1, e, K, hf, h0, hK => by
    show Stg e K (if e ≤ 0 then [] else if gE K < e then ⟨gE K, e, 0, false⟩ :: cutsF f (gE K) K else match cutBy K with | none => [] | some (c, K') => c :: cutsF f c.lo K')
    by_cases c : e ≤ 0
    · have e0 : e = 0 := by omega
      subst e0
      rw [if_pos c]
      exact .nil hK
    · rw [if_neg c]
      by_cases d : gE K < e
      · rw [if_pos d]
        have hK' : ∀ s ∈ K, Ok (gE K) s := fun s hs => (hK s hs).mono (gE_ge hs)
        exact .free (gE_nonneg K) d hK' (cuts_stg f (gE K) K (by omega) (gE_nonneg K) hK')
      · rw [if_neg d]
        obtain ⟨l, hl⟩ := lead_some (K := K) (by omega)
        obtain ⟨L, hm⟩ := lead_leads hK (by omega) (by omega) hl
        obtain ⟨s1, s2, s3⟩ := L.stage
        obtain ⟨e1, e2⟩ := L.end_
        have en := L.en
        have b0 := L.ok.lo0
        have b1 := L.ok.lt
        have ec : cutBy K = some (cutF l (endF l (K.erase l)), nextF l (K.erase l)) := by unfold cutBy; rw [hl]
        rw [ec]
        refine .led (e' := endF l (K.erase l)) (by omega) e2 hK s1 rfl (by show l.hi + l.n = e; exact en) (cut_by_pos L.ok _) (fun x hx hb => ?_) ((relL_erase hm).trans s2) (cuts_stg f (endF l (K.erase l)) _ (by omega) (by omega) s1)
        have := cut_led L.ok e1 hx (by rw [en]; exact hb)
        exact ⟨this.1, this.2.1⟩
end Rep
namespace Rep
open PySem PySem.Spec PyProof.Rows L2
/-! rules that the layer lacks: max(ints, default=d), xs.remove(tuple) -/
theorem dp_ints {K : PySem.W.Frag} {H : Hp} : ∀ ns : List Int, DpAll K H (ns.map V.int) (ns.map PyData.int)
  | [] => .nil
  | n :: r => .cons (.int n) (dp_ints r)
theorem depth_ints : ∀ ns : List Int, PyData.depthAll (ns.map PyData.int) = 0
  | [] => rfl
  | n :: r => by
    show max 0 (PyData.depthAll (r.map PyData.int)) = 0
    rw [depth_ints r]; rfl
def maxI : List Int → Int → Int
  | [], d => d
  | n :: r, _ => r.foldl max n
theorem cr_maxD {X : Cx} (hc : X.calm = true) (hu : X.A.units + 64 < cLine) : CallRK X (.builtin "max") [Str.ofString "default"] (fun vs zs H Q => ∃ (a : Addr) (ns : List Int) (d : Int), vs = [.ref a] ∧ zs = [.int d] ∧ SqL X.K H a (ns.map V.int) ∧ Q (.int (maxI ns d)) H) := by
  intro pins s σ H vs zs us ws Q I r rz h
  obtain ⟨a, ns, d, rfl, rfl, hs, q⟩ := h
  obtain rfl := Vals.ref1 r
  obtain ⟨w1, rfl, e1⟩ := vals1 rz
  obtain ⟨t1, rfl⟩ := e1
  obtain ⟨its, rv, hl, hz⟩ := I.list hs
  obtain ⟨as, hr⟩ := Dp.readsAll I _ _ its (dp_ints ns) rv
  refine PySem.W.max_list_default (xs := ns.map PyData.int) (I.ok.hd hc) hl.isList (by simpa using hr) ⟨fun x hx y hy => ?_, fun x hx => ?_⟩ (by rw [depth_ints]; omega) (fun e h' tk k => ?_) (fun y ys i v h' tk bs e hv rd k => ?_)
  · obtain ⟨i, _, rfl⟩ := List.mem_map.mp hx
    obtain ⟨j, _, rfl⟩ := List.mem_map.mp hy
    rfl
  · obtain ⟨i, _, rfl⟩ := List.mem_map.mp hx
    intro z; cases z
  · have e0 : ns = [] := List.map_eq_nil_iff.mp e
    subst e0
    exact ⟨.int d, H, I.kept k, ⟨t1, rfl⟩, q⟩
  · cases ns with
    | nil => cases e
    | cons n rr =>
      cases e
      rw [PySem.W.maxD_ints] at rd
      cases rd
      exact ⟨.int _, H, I.kept k, ⟨_, rfl⟩, q⟩
/-- xs.remove(v), the items and v data: the first that is == v goes -/
theorem mt_removeD {X : Cx} (hu : X.A.units + 200 < cLine) : MtM X "list.remove" (fun x xs H Q => ∃ (l : Addr) (ys : List V) (y : V) (ds : List PyData) (d : PyData) (j : Nat), x = .ref l ∧ xs = [y] ∧ H l = some (.lst ys) ∧ DpAll X.K H ys ds ∧ Dp X.K H y d ∧ PyData.plainAll ds = true ∧ d.plain = true ∧ d.depth ≤ 64 ∧
    SeqAt.dataPlace ds d = some j ∧ Q .non (upd H l (.lst (ys.eraseIdx j)))) := by
  intro pins s σ H x xs v us Q I rx rxs h
  obtain ⟨l, ys, y, ds, d, j, rfl, rfl, hH, hds, hd, p1, p2, p3, hj, q⟩ := h
  cases rx
  obtain ⟨u, rfl, ru⟩ := vals1 rxs
  obtain ⟨z, its, n, r, hl, e⟩ := I.lstM hH
  obtain ⟨as, hr⟩ := Dp.readsAll I _ _ its hds r
  obtain ⟨bs, hr2⟩ := Dp.reads I d y u hd ru
  refine SeqAt.remove_list_data (vs := its.toArray) ⟨_, e, rfl, n, rfl⟩ (by simpa using hr) hr2 p1 p2 (by have := Nat.min_le_right (PyData.depthAll ds) d.depth; omega) hj (by rw [List.size_toArray]; omega) ?_
  refine ⟨.non, _, I.lset (its' := its.eraseIdx j) hH e ?_ (r.eraseIdx j) ?_, rfl, q⟩
  · show its.toArray.eraseIdxIfInBounds j = (its.eraseIdx j).toArray
    rw [List.eraseIdxIfInBounds_toArray]
  · have := len_erase ys j
    omega
end Rep
namespace Rep
open PySem PySem.Spec PyProof.Rows L2
/-! a lambda of one parameter that captures nothing, called -/
theorem lam1_run {P : Program} {w : World} {K : PySem.W.Frag} {mg : Str → Option Value} {base : Heap} {A : Around} {outer : List Env} {s : Shared} {H : Hp} {f c' : Addr} {q x : Str} {params : Arguments} {body : Expr} {scope : Scope} {pm ctv u : Value} {v : V} {N : List Str} {k : Nat} {Q : VK} {t : TE}
    (S : FnScope N [x] scope) (hf : s.heap.get? f = some (PySem.W.kla_obj "<lambda>" q params body scope [] pm c' ctv)) (hco : H c' = some (LamX.CodeO c' q)) (hr : Room (k + 1) A) (e0 : Env0 P w K mg base A outer s H)
    (hb : bindArgs (PySem.W.kla_fn "<lambda>" q params body scope [] pm (.ref c') ctv) ⟨[u], []⟩ = pure [(x, u)]) (rv : RelV v u)
    (hbody : Room k (A.deeper (envOfC q scope s.heap.objs.size f (.ref c'))) → PE (cxOf CX0 P w K mg base N q scope f (.ref c') A outer s H E0).nox body t) (hq : t (L2.start N [v]) H Q) :
    codeAny (model P w) A (.call (.ref f) ⟨[u], []⟩) (CR CX0 outer P w H s Q E0) s := by
  have lim : s.heap.NoLimit := e0.mod.nolimit.keeps fun b o e => (e0.bs b o e).1
  obtain ⟨⟨oc, vs, tq, hoc, hdc, hvc⟩, _, _⟩ := e0.hok c' _ hco
  refine PySem.W.kla_callFunE hr.depth hf rfl S.co S.gen rfl ⟨c', oc, vs, tq, rfl, hoc, hdc, hvc⟩ ?_
  rw [hb]
  have hkind : ∀ y ∈ [(x, u)], scope.names.lookup y.1 = some .local ∨ (scope.names.lookup y.1 = some .cell ∧ ((cellsFrom (s.heap.objs.size + 1) scope.names []).lookup y.1).isSome = true) := fun y hy => by
    rw [List.mem_singleton.mp hy]
    rcases S.par x List.mem_cons_self with h | h
    · exact .inl h
    · exact .inr ⟨h, PySem.W.cellsFrom_some _ _ _ (.inl h)⟩
  refine wpAny_pure (wpAny_newFunctionEnv_cells S.kind hkind fun env he s1 xc => ?_)
  subst he
  refine ⟨lim.keeps xc.toInCall.keep, ?_⟩
  have I : Inv (cxOf CX0 P w K mg base N q scope f (.ref c') A outer s H E0) [] (L2.start N [v]) H s1 := inv_start (us := [u]) S hr.hd e0 rfl (.cons rv .nil) xc
  refine PySem.W.kla_codeExpr (wpAny_mono (((hbody (hr.deeper _)).nox).run [] s1 (L2.start N [v]) H Q I hq) (fun v' s' hs => ?_) fun e s' hs => hs)
  obtain ⟨w', H', J, rv', q'⟩ := hs
  exact ⟨w', H', J.os, J.bare, J.base, J.hok, rv', q'⟩
end Rep
namespace Rep
open PySem PySem.W PySem.Spec PyProof.Rows L2
section
variable {X : Cx} {pins : List (Addr × Obj)} {σ : L2.St} {H H2 : Hp} {s s0 : Shared}
theorem no_frame (I : Inv X pins σ H s) {f : Addr} (hf : s.heap.objs.size ≤ f) : f ∉ frs X.stack := fun z => by
  rcases List.mem_cons.mp (I.stkSub _ z) with e | e
  · have h1 := I.lt
    rw [← e] at h1
    exact Nat.lt_irrefl _ (Nat.lt_of_lt_of_le h1 hf)
  · exact I.nofs hf e
theorem relV_int {a : V} {i : Int} {t : Tok} (h : RelV a (.int i t)) : a = .int i := by
  cases a with
  | int j => obtain ⟨t', e⟩ := h; cases e; rfl
  | non => cases h
  | bl b => cases h
  | str x => obtain ⟨_, e⟩ := h; cases e
  | byt x => obtain ⟨_, e⟩ := h; cases e
  | flt x => obtain ⟨_, e⟩ := h; cases e
  | ref x => cases h
  | ty x => cases h
/-- H' is H2 and, besides, tuples -/
structure Grown (H2 H' : Hp) : Prop where
  all : ∀ b o, H2 b = some o → H' b = some o
  new : ∀ b o, H2 b = none → H' b = some o → ∃ xs, o = .tup xs
theorem Grown.refl (H : Hp) : Grown H H := ⟨fun _ _ h => h, fun b o h h' => by rw [h] at h'; cases h'⟩
theorem Grown.tup {H2 H' : Hp} (g : Grown H2 H') {p : Addr} {xs : List V} (n : H' p = none) : Grown H2 (upd H' p (.tup xs)) := by
  refine ⟨fun b o h => ?_, fun b o h h' => ?_⟩
  · have h1 := g.all b o h
    rw [upd_ne (ne_of_none h1 n)]
    exact h1
  · by_cases e : b = p
    · subst e
      rw [upd_same] at h'
      exact ⟨xs, (Option.some.inj h').symm⟩
    · rw [upd_ne e] at h'
      exact g.new b o h h'
/-- what stays while max asks for its keys -/
structure Asks (X : Cx) (pins : List (Addr × Obj)) (σ : L2.St) (H2 : Hp) (f I S : Addr) (fo : Obj) (s : Shared) : Prop where
  ex : ∃ H', Inv X pins σ H' s ∧ Grown H2 H' ∧ H' I = none ∧ H' S = none ∧ H' f = none
  fn : s.heap.get? f = some fo
/-- the key of an item, as it lies on the heap -/
def KeyAt (H2 : Hp) (S I : Addr) (k : Int × Int) (v : Value) (s : Shared) : Prop := ∃ (t : Addr) (o : Obj) (n : Nat) (t1 t2 : Tok), v = .ref t ∧ H2 t = none ∧ t ∉ [S, I] ∧ s.heap.get? t = some o ∧ o.cls = .type "tuple" ∧ o.data = .seq #[.int k.1 t1, .int k.2 t2] n
theorem KeyAt.reads {S I : Addr} {k : Int × Int} {v : Value} (h : KeyAt H2 S I k v s) : Reads s.heap v (.tuple [.int k.1, .int k.2]) [] := by
  obtain ⟨t, o, n, t1, t2, rfl, _, _, e, c, d⟩ := h
  exact .tuple (as := []) e c d (.cons (.int _ _) (.cons (.int _ _) .nil))
end
/-- max(xs, key=lambda x: body), xs locked: the keys are pairs of ints -/
theorem key_run {X : Cx} {pins : List (Addr × Obj)} {σ : L2.St} {H2 : Hp} {s0 : Shared} {l f c' : Addr} {lo : Obj} {ys : List V} {vs : Array Value} {q x : Str} {params : Arguments} {body : Expr} {scope : Scope} {pm ctv : Value} {N : List Str} {k : Nat} {t : TE} {kk : V → Int × Int}
    (I0 : Inv X pins σ H2 s0) (hl : H2 l = some (.frz lo (.lst ys))) (hv : Vals ys vs.toList) (Sc : FnScope N [x] scope) (hf : s0.heap.get? f = some (PySem.W.kla_obj "<lambda>" q params body scope [] pm c' ctv)) (hfn : H2 f = none) (hfr : f ∉ frs X.stack) (hco : H2 c' = some (LamX.CodeO c' q)) (hr : Room (k + 2) X.A)
    (hb : ∀ u : Value, bindArgs (PySem.W.kla_fn "<lambda>" q params body scope [] pm (.ref c') ctv) ⟨[u], []⟩ = pure [(x, u)])
    (hbody : ∀ (A : Around) (outer : List Env) (s : Shared) (H : Hp) (g : Addr) (cd : Value), Room k (A.deeper (envOfC q scope s.heap.objs.size g cd)) → PE (cxOf CX0 X.prog X.w X.K X.mg X.base N q scope g cd A outer s H E0).nox body t)
    (hq : ∀ y ∈ ys, ∀ (H' : Hp) (Q : VK), Grown H2 H' → (∀ p, H' p = none → Q (.ref p) (upd H' p (.tup [.int (kk y).1, .int (kk y).2]))) → t (L2.start N [y]) H' Q)
    (hS : s0.heap.objs.size + 1 = S) :
    KeyRun X.prog X.w X.A.in1 (.ref f) .Gt S [s0.heap.objs.size] (fun a b => b = a) vs.size (fun i v => vs[i]? = some v) (fun i s' => s'.heap.IsListIter s0.heap.objs.size l i ∧ s'.heap.IsList l vs)
      (Asks X pins σ H2 f s0.heap.objs.size S (PySem.W.kla_obj "<lambda>" q params body scope [] pm c' ctv)) (fun i v s' => KeyAt H2 S s0.heap.objs.size (kk (ys.getD i .non)) v s')
      (fun i j => dataLt (.tuple [.int (kk (ys.getD j .non)).1, .int (kk (ys.getD j .non)).2]) (.tuple [.int (kk (ys.getD i .non)).1, .int (kk (ys.getD i .non)).2])) := by
  have fI : f ≠ s0.heap.objs.size := Nat.ne_of_lt (Heap.lt_size hf)
  have fS : f ≠ S := Nat.ne_of_lt (by rw [← hS]; exact Nat.lt_succ_of_lt (Heap.lt_size hf))
  have iS : s0.heap.objs.size ≠ S := by rw [← hS]; exact Nat.ne_of_lt (Nat.lt_succ_self _)
  have hSge : s0.heap.objs.size ≤ S := by rw [← hS]; exact Nat.le_succ _
  refine ⟨fun s s' J m => ?_, fun i v s s' V m => ?_, fun i v s o Q E hi hP J st hSo hQ => ?_, fun i j ki kj s Q E J Vi Vj h => ?_⟩
  · obtain ⟨⟨H', I, g, n1, n2, n3⟩, fn⟩ := J
    have fn' := m.heap f _ (by simp [fI, fS]) fn
    refine ⟨⟨H', ?_, g, n1, n2, n3⟩, fn'⟩
    have I' := I.turnedL (t' := s'.toks) (h' := s'.heap) (ch := [S, s0.heap.objs.size]) (fun b o hb e => m.heap b o hb e) (fun b hb => by
      rcases List.mem_cons.mp hb with rfl | hb
      · exact I0.fpOk hSge n2
      · rw [List.mem_singleton.mp hb]; exact I0.fpOk (Nat.le_refl _) n1)
    have es : s' = { s with heap := s'.heap, toks := s'.toks } := by
      obtain ⟨a1, a2, a3, a4, a5⟩ := s'
      have g1 : a2 = s.gens := m.gens
      have g2 : a3 = s.drawn := m.drawn
      have g3 := m.os
      simp only at g3
      subst g1 g2 g3
      rfl
    rw [es]
    exact I'
  · obtain ⟨t', o, n, t1, t2, e, a1, a2, a3, a4, a5⟩ := V
    exact ⟨t', o, n, t1, t2, e, a1, a2, m.heap t' o (by simpa using a2) a3, a4, a5⟩
  · obtain ⟨⟨H', I, g, n1, n2, n3⟩, fn⟩ := J
    -- the item
    have hvi : vs.toList[i]? = some v := by rw [Array.getElem?_toList]; exact hP
    have hyl : i < ys.length := by
      rw [hv.length]
      exact (List.getElem?_eq_some_iff.mp hvi).1
    obtain ⟨u, hu, ru⟩ := hv.get (List.getElem?_eq_getElem hyl)
    rw [hvi] at hu
    cases hu
    have eg : ys.getD i .non = ys[i] := by rw [List.getD_eq_getElem?_getD, List.getElem?_eq_getElem hyl]; rfl
    have r1 : Room (k + 1) X.A.in1 := hr.in1
    have rc := lam1_run (P := X.prog) (w := X.w) (K := X.K) (mg := X.mg) (base := X.base) (A := X.A.in1) (outer := X.stack) (s := s) (H := H') (k := k) (Q := fun w' H'' => ∃ p, w' = .ref p ∧ H' p = none ∧ H'' = upd H' p (.tup [.int (kk ys[i]).1, .int (kk ys[i]).2])) Sc fn (g.all _ _ hco) r1 I.env0.in1 (hb v) ru (fun hr' => hbody _ _ _ _ _ _ hr') (hq _ (List.getElem_mem hyl) H' _ g fun p np => ⟨p, rfl, np, rfl⟩)
    refine wpAny_call (codeAny_mono rc fun r s' hr' => ?_)
    cases r with
    | error e => exact (show False from hr').elim
    | ok fl =>
      cases fl with
      | next => exact (show False from hr').elim
      | brk => exact (show False from hr').elim
      | cont => exact (show False from hr').elim
      | ret w' =>
        obtain ⟨y', H'', os, bare, un, hok, rw', p, rfl, np, rfl⟩ := hr'
        obtain rfl : w' = Value.ref p := rw'
        have I' : Inv X pins σ (upd H' p (.tup [.int (kk ys[i]).1, .int (kk ys[i]).2])) s' := by
          obtain ⟨hh, gg, d, tt, os'⟩ := s'
          obtain rfl : os' = s.os := os
          exact I.call (h' := hh) (g' := gg) (d' := d) (t' := tt) (ch := []) un hok bare (fun b z => absurd z (by simp))
        have kS := un.keep S o hSo n2 (no_frame I0 hSge) (by simp)
        have kf := un.keep f _ fn n3 hfr (by simp)
        have pS : p ≠ S := fun e => by
          have := un.free S o hSo n2 (by simp)
          rw [← e, upd_same] at this
          cases this
        obtain ⟨⟨oi, ei, ci, di⟩, hls⟩ := st
        have kI := un.keep _ oi ei n1 (no_frame I0 (Nat.le_refl _)) (by simp)
        have pI : p ≠ s0.heap.objs.size := fun e => by
          have := un.free _ oi ei n1 (by simp)
          rw [← e, upd_same] at this
          cases this
        have pf : p ≠ f := fun e => by
          have := un.free f _ fn n3 (by simp)
          rw [← e, upd_same] at this
          cases this
        have p2 : H2 p = none := by
          cases h2 : H2 p with
          | none => rfl
          | some o2 => rw [g.all _ _ h2] at np; cases np
        have nu : ∀ b, b ≠ p → H' b = none → upd H' p (.tup [.int (kk ys[i]).1, .int (kk ys[i]).2]) b = none := fun b hb hn => by rw [upd_ne hb]; exact hn
        -- the list is the very object that it was
        have l1 : s.heap.get? l = some lo := (I.hok l _ (g.all _ _ hl)).1
        have l2' : upd H' p (.tup [.int (kk ys[i]).1, .int (kk ys[i]).2]) l = some (.frz lo (.lst ys)) := by rw [upd_ne (ne_of_none (g.all _ _ hl) np)]; exact g.all _ _ hl
        have l2 : s'.heap.get? l = some lo := (hok l _ l2').1
        have hls' : s'.heap.IsList l vs := by
          obtain ⟨ol, el, cl, nl, dl⟩ := hls
          rw [l1] at el
          cases el
          exact ⟨lo, l2, cl, nl, dl⟩
        refine hQ (.ref p) s' ⟨⟨_, I', g.tup np, nu _ pI.symm n1, nu _ pS.symm n2, nu _ pf.symm n3⟩, kf⟩ ⟨⟨oi, kI, ci, di⟩, hls'⟩ kS ?_ (fun j k' V => ?_)
        · -- the new key
          obtain ⟨_, its, rits, ot, eo, co, nt, dt⟩ := hok p _ upd_same
          obtain ⟨u1, u2, rfl, q1, q2⟩ := vals2 rits
          obtain ⟨t1, rfl⟩ := q1
          obtain ⟨t2, rfl⟩ := q2
          rw [eg]
          exact ⟨p, ot, nt, t1, t2, rfl, p2, by simp [pS, pI], eo, co, dt⟩
        · obtain ⟨t', o', n', t1, t2, e1, a1, a2, a3, a4, a5⟩ := V
          cases ht : H' t' with
          | none =>
            obtain ⟨sl, e2⟩ := un.any a3 ht (by simp)
            exact ⟨t', _, n', t1, t2, e1, a1, a2, e2, a4, a5⟩
          | some ob =>
            obtain ⟨xs, rfl⟩ := g.new _ _ a1 ht
            obtain ⟨_, its, rits, ot, eo, co, nt, dt⟩ := I.hok t' _ ht
            rw [a3] at eo
            cases eo
            rw [a5] at dt
            have ed : its.toArray = #[.int (kk (ys.getD j .non)).1 t1, .int (kk (ys.getD j .non)).2 t2] := by
              injection dt with d1 d2
              exact d1.symm
            have ei' : its = [.int (kk (ys.getD j .non)).1 t1, .int (kk (ys.getD j .non)).2 t2] := by
              have := congrArg Array.toList ed
              simpa using this
            subst ei'
            have t3 := un.tups _ _ ht
            obtain ⟨_, its2, rits2, ot2, eo2, co2, nt2, dt2⟩ := hok t' _ t3
            cases rits with
            | cons b1 rr =>
              cases rr with
              | cons b2' rr2 =>
                cases rr2
                have x1 := relV_int b1
                have x2 := relV_int b2'
                subst x1 x2
                obtain ⟨u1, u2, rfl, q1, q2⟩ := vals2 rits2
                obtain ⟨t5, rfl⟩ := q1
                obtain ⟨t6, rfl⟩ := q2
                exact ⟨t', ot2, nt2, t5, t6, e1, a1, a2, eo2, co2, dt2⟩
  · have r1 := Vi.reads
    have r2 := Vj.reads
    obtain ⟨⟨H', I, _⟩, _⟩ := J
    exact rcGt_alike _ _ X.A.in1 s ki kj _ _ r1 r2 rfl (by intro z; cases z) (by
      have := hr.un
      show X.A.units + 1 + min 1 1 < cLine
      omega) X.prog X.w E Q h
end Rep
namespace Rep
open PySem PySem.W PySem.Spec PyProof.Rows L2
def kD (k : Int × Int) : PyData := .tuple [.int k.1, .int k.2]
/-- the place of the first item whose key is the greatest -/
def topAt (kk : V → Int × Int) (ys : List V) : Nat := argBest (fun i j => dataLt (.tuple [.int (kk (ys.getD j .non)).1, .int (kk (ys.getD j .non)).2]) (.tuple [.int (kk (ys.getD i .non)).1, .int (kk (ys.getD i .non)).2])) (ys.length - 1)
def rMaxLam (T : List (Addr × Str)) (N : List Str) (t : TE) (Q : VK) (vs : List V) (H1 : Hp) : Prop := ∃ (l : Addr) (ys : List V) (kk : V → Int × Int), vs = [.ref l] ∧ H1 l = some (.lst ys) ∧ ys ≠ [] ∧ LamX.Tabs T H1 ∧
  (∀ y ∈ ys, ∀ (H' : Hp) (Q' : VK), (∀ b xs, H1 b = some (.tup xs) → H' b = some (.tup xs)) → (∀ p, H' p = none → Q' (.ref p) (upd H' p (.tup [.int (kk y).1, .int (kk y).2]))) → t (L2.start N [y]) H' Q') ∧
  ∀ H3 y, LamX.ExtN H1 H3 → LamX.Tabs T H3 → ys[topAt kk ys]? = some y → Q y H3
def tMaxLam (T : List (Addr × Str)) (N : List Str) (t : TE) (ta : TA) : TE := fun σ H Q => ta σ H (rMaxLam T N t Q)
theorem pe_maxLam {X : Cx} {T : List (Addr × Str)} {c P : Addr} {k : Nat} {x : Str} {params : Arguments} {body : Expr} {scope : Scope} {lpos p pos kpos : Pos} {e : Expr} {t : TE} {ta : TA} {N : List Str}
    (hg : Gl X "max") (hm : X.mg "max" = none) (ha : PA X [e] ta) (TB : LamX.TabB X.base X.mg c P) (hcode : X.env.code = .ref c) (hmT : (P, X.env.qual ++ "<lambda>") ∈ T) (hu : ∀ p ∈ T, p.1 = P → p.2 = X.env.qual ++ "<lambda>")
    (hdef : defaultsOf params X.env = ([], [])) (hnf : ∀ y ∈ scope.names, y.2 ≠ .free) (hclo : cloFrom X.env.cells scope.names [] = []) (hr : Room (k + 2) X.A) (Sc : FnScope N [x] scope)
    (hb : ∀ (q : Str) (pm cv ctv u : Value), bindArgs (kla_fn "<lambda>" q params body scope [] pm cv ctv) ⟨[u], []⟩ = pure [(x, u)])
    (hbody : ∀ (A : Around) (outer : List Env) (s : Shared) (H : Hp) (g : Addr) (cd : Value), Room k (A.deeper (envOfC (X.env.qual ++ "<lambda>") scope s.heap.objs.size g cd)) → PE (cxOf CX0 X.prog X.w X.K X.mg X.base N (X.env.qual ++ "<lambda>") scope g cd A outer s H E0).nox body t)
    (hs : backTo pos (starEach [e] X.env) = (false, eval e X.env) :: backTo pos (starEach [] X.env) := by rfl) (hpl : (backTo pos (starEach [e] X.env)).any (·.1) = false := by rfl) :
    PE X (.Call (.Name "max" p) [e] [⟨some "key", .Lambda params body scope lpos, kpos⟩] pos) (tMaxLam T N t ta) := by
  refine ⟨fun pins s σ H Q I h => ?_⟩
  refine wpAny_Call_Name_kw (ld_blt I hg hm (show bootBuiltins "max" = some (.builtin "max") by decide +kernel) ?_)
  refine PyProof.Rows.callWith_kw (thn (ha.run pos pins s σ H (rMaxLam T N t Q) I h) fun us s1 ⟨vs, H1, I1, r1, q1⟩ => ?_) hs hpl
  obtain ⟨l, ys, kk, rfl, hl, hne, hT, hk, hfin⟩ := q1
  obtain rfl := Vals.ref1 r1
  show wpAny _ _ (evalAll ((do let v ← eval (.Lambda params body scope lpos) X.env; standAt pos; pure v) :: [])) _ _ s1
  refine wpAny_evalAll_cons (wpAny_bind (LamX.lam_make2 I1 TB hcode hmT hu hT hdef (fun y hy e => absurd e (hnf y hy)) fun f c' pm ctv H2 s2 I2 eN T2 hf hfn hfr hco => wpAny_bind (wpAny_standAt (wpAny_pure ?_))))
  refine wpAny_evalAll_nil ?_
  rw [hclo] at hf
  have hl2 : H2 l = some (.lst ys) := eN l _ hl (fun ps z => by cases z)
  obtain ⟨od, I3⟩ := I2.lock hl2 trivial
  have nfl : f ≠ l := fun z => by rw [z, hl2] at hfn; cases hfn
  have ncl : c' ≠ l := fun z => by rw [z, hl2] at hco; unfold LamX.CodeO at hco; cases hco
  have hl3 : upd H2 l (.frz od (.lst ys)) l = some (.frz od (.lst ys)) := upd_same
  obtain ⟨_, _, its, n, rv, el⟩ := I3.hok l _ hl3
  have hlt : its.length = ys.length := rv.length.symm
  have hn0 : 0 < ys.length := List.length_pos_iff.mpr hne
  have hf3 : upd H2 l (.frz od (.lst ys)) f = none := by rw [upd_ne nfl]; exact hfn
  have hco3 : upd H2 l (.frz od (.lst ys)) c' = some (LamX.CodeO c' (X.env.qual ++ "<lambda>")) := by rw [upd_ne ncl]; exact hco
  have hh : X.A.in1.handled = none := hr.hd
  have tups : ∀ b xs, H1 b = some (.tup xs) → upd H2 l (.frz od (.lst ys)) b = some (.tup xs) := fun b xs hx => by
    have hb2 : H2 b = some (.tup xs) := eN b _ hx (fun ps z => by cases z)
    rw [upd_ne (ne_of hb2 hl2 (by intro z; cases z))]
    exact hb2
  refine call_max_walkK (PySem.W.iter_listW (A := X.A.in1) (vs := its.toArray) hh ⟨_, el, rfl, n, rfl⟩ fun s₃ e3 W st hfp hw hkp => ?_)
  have hsz : s₃.heap.objs.size = s2.heap.objs.size + 1 := by rw [e3]; exact Heap.size_push _ _
  have KR := key_run (S := s₃.heap.objs.size) (vs := its.toArray) (kk := kk) I3 hl3 (by simpa using rv) Sc hf hf3 hfr hco3 hr (fun u => hb _ _ _ _ u) hbody (fun y hy H' Q' g hq => hk y hy H' Q' (fun b xs hx => g.all _ _ (tups b xs hx)) hq) hsz.symm
  · have I4 : Inv X pins σ (upd H2 l (.frz od (.lst ys))) s₃ := by
      rw [e3]
      exact I3.kept (t' := s2.toks) (h' := s2.heap.push _) fun b o q => Heap.get?_push_of_some _ q
    refine ⟨_, _, _, _, _, _, _, _, _, _, rfl, W, st, hfp, by rw [List.size_toArray, hlt]; exact hn0, KR, ⟨⟨_, I4, Grown.refl _, I3.hok.fresh (Nat.le_refl _), I3.hok.fresh (by rw [hsz]; exact Nat.le_succ _), hf3⟩, hkp f _ hf⟩, fun v s4 hP hJ => ?_⟩
    obtain ⟨⟨H4, I5, g, _, _, _⟩, _⟩ := hJ
    have hl4 := g.all _ _ hl3
    have I6 := I5.unlock hl4 (I2.nofrz hl2 trivial)
    have same : ∀ b o, H2 b = some o → upd H4 l (.lst ys) b = some o := fun b o q => by
      by_cases c1 : b = l
      · subst c1; rw [upd_same, ← hl2]; exact q
      · rw [upd_ne c1]
        exact g.all _ _ (by rw [upd_ne c1]; exact q)
    have hP' : its[topAt kk ys]? = some v := by
      have e5 : its.toArray.size - 1 = ys.length - 1 := by rw [List.size_toArray, hlt]
      rw [e5, List.getElem?_toArray] at hP
      exact hP
    have hti : topAt kk ys < ys.length := by
      rw [← hlt]
      exact (List.getElem?_eq_some_iff.mp hP').1
    obtain ⟨u, hu', ru⟩ := rv.get (List.getElem?_eq_getElem hti)
    rw [hP'] at hu'
    cases hu'
    refine ⟨ys[topAt kk ys], _, I6, ru, hfin _ _ (fun b o q n => same b o (eN b o q n)) (T2.ext same) (List.getElem?_eq_getElem hti)⟩
end Rep
/-! what is walked and taken apart while an exception is handled -/
namespace RepHot
open PySem PySem.Spec PyProof.Rows L2 L2H HotX
section
variable {prog : Program} {w : World} {A : Around} {E : Value → Shared → Prop} {s : Shared}
def Kp (h h' : Heap) : Prop := ∀ b o, h.get? b = some o → h'.get? b = some o
theorem HotAt.kp {x : Addr} {h h' : Heap} (t : HotAt A x h) (k : ∀ o, h.get? x = some o → h'.get? x = some o) : HotAt A x h' := by
  obtain ⟨a, o, vs, e, d, c⟩ := t
  exact ⟨a, o, vs, k _ e, d, c⟩
/-- a new StopIteration -/
theorem stop_made {x : Addr} {Q : Value → Shared → Prop} (t : HotAt A x s.heap)
    (q : ∀ h' e oe vs, Kp s.heap h' → h'.get? e = some oe → oe.cls = .type "StopIteration" → oe.data = .fields vs → 2 < vs.size → x ≠ e → HotAt A x h' → (∀ b o, s.heap.get? b = some o → b ≠ e) → Q (.ref e) { s with heap := h' }) : wpAny (model prog w) A (newExc (.type "StopIteration") []) Q E s := by
  simp only [newExc, newTuple]
  refine wpAny_bind (wpAny_newObj_type ?_ (by size_fits))
  refine wpAny_bind (m := firstArgMember _ _) (wpAny_of_eq (a := Value.none) (by first | rfl | (simp only [firstArgMember]; rfl)) ?_)
  refine wpAny_newObj_type ?_ (by size_fits)
  obtain ⟨ah, ox, vx, zx, dx, cx⟩ := t
  exact q _ _ _ _ (fun b o z => Heap.get?_push_of_some _ (Heap.get?_push_of_some _ z)) (Heap.get?_push_size _ rfl) rfl rfl (by first | (simp; done) | (simp; omega) | (simp only [Array.size_append]; simp; omega)) (Nat.ne_of_lt (Heap.lt_size (Heap.get?_push_of_some _ zx))) ⟨ah, ox, vx, Heap.get?_push_of_some _ (Heap.get?_push_of_some _ zx), dx, cx⟩ (fun b o z => Nat.ne_of_lt (Heap.lt_size (Heap.get?_push_of_some _ z)))
/-- and raised -/
theorem stop_raised {α : Type} {x e : Addr} {oe : Obj} {vs : Array Value} {Q : α → Shared → Prop} (t : HotAt A x s.heap) (n : x ≠ e) (g : s.heap.get? e = some oe) (c : oe.cls = .type "StopIteration") (d : oe.data = .fields vs) (l : 2 < vs.size)
    (q : ∀ h', (∀ b o, b ≠ e → s.heap.get? b = some o → h'.get? b = some o) → (∃ o, h'.get? e = some o ∧ o.cls = .type "StopIteration") → E (.ref e) { s with heap := h' }) : wpAny (model prog w) A (raiseNew (.ref e) : Sem α) Q E s := by
  refine raiseNew_hot t n g d l (q _ (fun b o nb z => ?_) ⟨_, Heap.get?_update_self _ g (Obj.isFreed_of_fields (Obj.data_mapFields d _)), (Obj.cls_mapFields ..).trans c⟩)
  rw [Heap.get?_update_other _ _ nb.symm]; exact z
/-- a tuple's iterator at its end -/
theorem tup_end {it t x : Addr} {i : Nat} {items : Array Value} {Q : Option Value → Shared → Prop} (hot : HotAt A x s.heap) (nx : x ≠ it) (hit : IsTupIter s.heap it t i) (ht : IsTup s.heap t items) (no : items[i]? = none)
    (q : ∀ h', Heap.ExtBut it s.heap h' → Q none { s with heap := h' }) : wpAny (model prog w) A (pyNext (.ref it)) Q E s := by
  obtain ⟨o1, g1, _, d1⟩ := id hit
  obtain ⟨o2, g2, _, _, d2⟩ := ht
  unfold pyNext
  refine wpAny_bind (wpAny_attempt (wpAny_callSpecial?_slot (name := Str.ofString "__next__") hit.typeIs slot_tupleiter_next (wpAny_call_entry slot_tupleiter_next hit.typeIs entry_tupleiter_next ?_ (args_tupleiter_next _))))
  show wpAny _ _ (field (.ref it) 0 >>= _) _ _ s
  refine wpAny_bind (wpAny_field g1 d1 (x := .ref t) rfl ?_)
  show wpAny _ _ (if (Value.ref t == Value.none) = true then _ else _) _ _ s
  rw [if_neg (fun z : (Value.ref t == Value.none) = true => Bool.false_ne_true z)]
  show wpAny _ _ (field (.ref it) 1 >>= _) _ _ s
  refine wpAny_bind (wpAny_field g1 d1 (x := .int i 0) rfl ?_)
  show wpAny _ _ (seqItems? (.ref t) >>= _) _ _ s
  refine wpAny_bind (wpAny_seqItems g2 d2 ?_)
  simp only [Int.toNat_natCast, no]
  refine wpAny_bind (wpAny_rule (wpAny_bind (wpAny_setField g1 d1 (by simp) ?_)))
  show wpAny _ _ (newExc (.type "StopIteration") [] >>= _) _ _ _
  have ext := (Heap.SameBut.update s.heap it (Obj.mapFields (·.setIfInBounds 0 Value.none))).extBut
  refine wpAny_bind (stop_made (HotAt.kp hot fun o z => ext _ _ nx z) fun h1 e oe vs kp g c d l ne hot1 old => ?_)
  refine stop_raised hot1 ne g c d l fun h2 k2 he => ?_
  obtain ⟨o, ho, hc⟩ := he
  refine wpAny_bind (wpAny_isInstance (T := "StopIteration") (b := true) ⟨o, ho, hc⟩ isSubtype_stop ?_)
  refine wpAny_pure (q _ fun b o nb z => ?_)
  exact k2 b o (old b o (ext b o nb z)) (kp b o (ext b o nb z))
/-- a list's iterator at its end, within zip -/
theorem list_end {it t x : Addr} {i : Nat} {items : Array Value} {Q : Value → Shared → Prop} (hot : HotAt A x s.heap) (nx : x ≠ it) (hit : s.heap.IsListIter it t i) (ht : s.heap.IsList t items) (no : items[i]? = none)
    (q : ∀ h' e, Heap.ExtBut it s.heap h' → (∃ o, h'.get? e = some o ∧ o.cls = .type "StopIteration") → E (.ref e) { s with heap := h' }) : wpAny (model prog w) A (Builtin.SmallTypes.nextOf (.ref it)) Q E s := by
  obtain ⟨o1, g1, _, d1⟩ := id hit
  obtain ⟨o2, g2, _, _, d2⟩ := ht
  unfold Builtin.SmallTypes.nextOf
  refine wpAny_bind (wpAny_callSpecial?_slot (name := Str.ofString "__next__") hit.typeIs slot_listiter_next (wpAny_call_entry slot_listiter_next hit.typeIs entry_listiter_next ?_ (args_listiter_next _)))
  show wpAny _ _ (field (.ref it) 0 >>= _) _ _ s
  refine wpAny_bind (wpAny_field g1 d1 (x := .ref t) rfl ?_)
  show wpAny _ _ (if (Value.ref t == Value.none) = true then _ else _) _ _ s
  rw [if_neg (fun z : (Value.ref t == Value.none) = true => Bool.false_ne_true z)]
  show wpAny _ _ (field (.ref it) 1 >>= _) _ _ s
  refine wpAny_bind (wpAny_field g1 d1 (x := .int i 0) rfl ?_)
  show wpAny _ _ (seqItems? (.ref t) >>= _) _ _ s
  refine wpAny_bind (wpAny_seqItems g2 d2 ?_)
  simp only [Int.toNat_natCast, no]
  refine wpAny_bind (wpAny_rule (wpAny_bind (wpAny_setField g1 d1 (by simp) ?_)))
  show wpAny _ _ (newExc (.type "StopIteration") [] >>= _) _ _ _
  have ext := (Heap.SameBut.update s.heap it (Obj.mapFields (·.setIfInBounds 0 Value.none))).extBut
  refine wpAny_bind (stop_made (HotAt.kp hot fun o z => ext _ _ nx z) fun h1 e oe vs kp g c d l ne hot1 old => ?_)
  exact stop_raised hot1 ne g c d l fun h2 k2 he => q _ _ (fun b o nb z => k2 b o (old b o (ext b o nb z)) (kp b o (ext b o nb z))) he
/-- a tuple of so many, taken apart -/
theorem apart_tuple {env : Env} {elts : List Expr} {kk} {pos : Pos} {t x : Addr} {items : Array Value} {Q : Unit → Shared → Prop} (hot : HotAt A x s.heap) (ht : IsTup s.heap t items) (hn : (assignEach elts env).length = items.size) (hst : (assignEach elts env).findIdx? (·.1) = none)
    (q : ∀ h', Heap.ExtBut s.heap.objs.size s.heap h' → wpAny (model prog w) A (assignInOrder ((assignEach elts env).map (·.2)) items.toList) Q E { s with heap := h' }) : wpAny (model prog w) A (assign (.Tuple elts kk pos) env (.ref t)) Q E s := by
  have ne : t ≠ s.heap.objs.size := by obtain ⟨o, z, _⟩ := ht; exact Nat.ne_of_lt (Heap.lt_size z)
  have nx : x ≠ s.heap.objs.size := by obtain ⟨_, o, _, z, _⟩ := hot; exact Nat.ne_of_lt (Heap.lt_size z)
  rw [assign_Tuple]
  refine wpAny_bind (wpAny_standAt ?_)
  unfold unpack
  rw [hn, hst]
  refine wpAny_bind (wpAny_holding ?_)
  unfold unpackItems notIterableAtAll
  refine wpAny_bind (wpAny_bind (wpAny_specialOf ht.typeIs slot_tuple_iter.lookup (wpAny_pure ?_)))
  simp only [Bool.false_eq_true, if_false]
  refine wpAny_bind (wpAny_holding (iter_tuple ht ?_))
  refine wpAny_bind (wpAny_holding (draw_tuple ne items.size 0 _ _ ⟨_, Heap.get?_push_size _ rfl, rfl, rfl⟩ (ht.push _) (by omega) fun h1 it1 s1 => ?_))
  rw [show List.take items.size (List.drop 0 items.toList) = items.toList by rw [List.drop_zero]; exact List.take_of_length_le (by simp), if_neg (by simp)]
  have hot1 : HotAt A x h1 := HotAt.kp hot fun o z => s1.extBut _ _ nx (Heap.get?_push_of_some _ z)
  refine wpAny_bind (wpAny_holding (tup_end hot1 nx it1 ((ht.push _).extBut s1.extBut ne) (by simp) fun h2 e2 => ?_))
  simp only [Option.isSome_none, Bool.false_eq_true, if_false]
  exact wpAny_pure (q h2 fun b o nb z => e2 b o nb (s1.extBut b o nb (Heap.get?_push_of_some _ z)))
/-- zip of two lists at its end -/
theorem zip_end0 {z TI TO i1 i2 l1 l2 x : Addr} {k1 k2 : Nat} {xs ys : Array Value} {a b : Value} {Q : Fin → Shared → Prop} (hot : HotAt A x s.heap) (nz : x ≠ z) (nO : x ≠ TO) (n1 : x ≠ i1) (n2 : x ≠ i2) (D : ZipApart z TI TO i1 i2 l1 l2)
    (hz : IsZip s.heap z TI TO .none) (hTI : IsPair s.heap TI (.ref i1) (.ref i2)) (hTO : IsPair s.heap TO a b) (h1 : s.heap.IsListIter i1 l1 k1) (h2 : s.heap.IsListIter i2 l2 k2) (hl1 : s.heap.IsList l1 xs) (hl2 : s.heap.IsList l2 ys) (no : xs[k1]? = none ∨ ys[k2]? = none)
    (fin : ∀ (h' : Heap) (e : Addr), (∀ c o, c ≠ z → c ≠ TO → c ≠ i1 → c ≠ i2 → s.heap.get? c = some o → h'.get? c = some o) → (∃ o, h'.get? e = some o ∧ o.cls = .type "StopIteration") → E (.ref e) { s with heap := h' }) : wpAny (model prog w) A (Builtin.«zip.__next__» ⟨[.ref z], []⟩) Q E s := by
  show wpAny _ _ (field (.ref z) 2 >>= _) _ _ _
  refine wpAny_bind (wpAny_field hz rfl (x := .bool false) rfl ?_)
  show wpAny _ _ (field (.ref z) 3 >>= _) _ _ _
  refine wpAny_bind (wpAny_field hz rfl (x := .ref TI) rfl (wpAny_bind (wpAny_seqItems hTI rfl ?_)))
  show wpAny _ _ (Builtin.SmallTypes.ownedTupleIsFree (.ref z) >>= _) _ _ _
  unfold Builtin.SmallTypes.ownedTupleIsFree
  refine wpAny_bind (wpAny_bind (wpAny_field hz rfl (x := .none) rfl (wpAny_pure ?_)))
  simp only [if_true]
  refine wpAny_bind (wpAny_rule (wpAny_bind (wpAny_field hz rfl (x := .ref TO) rfl ?_)))
  refine wpAny_bind (wpAny_setField_rec hz (by simp) fun g1 zz1 e1 => ?_)
  replace zz1 : IsZip g1 z TI TO .ellipsis := zz1
  have hot1 : HotAt A x g1 := HotAt.kp hot fun o v => e1.extBut _ _ nz v
  refine wpAny_bind ?_
  simp only [List.zipIdx_cons, List.zipIdx_nil, List.forIn_cons, List.forIn_nil]
  refine wpAny_bind (wpAny_bind (wpAny_onRaise ?_))
  show wpAny _ _ (Builtin.SmallTypes.nextOf (.ref i1) >>= _) _ _ _
  cases hx : xs[k1]? with
  | none =>
    refine wpAny_bind (list_end hot1 n1 (h1.extBut e1.extBut D.i1z) (hl1.extBut e1.extBut D.l1z) hx fun g2 e e2 he => ?_)
    obtain ⟨oe, ge, ce⟩ := he
    have zz2 : IsZip g2 z TI TO .ellipsis := e2 _ _ D.i1z.symm zz1
    have ez : e ≠ z := fun v => by subst v; rw [zz2] at ge; cases ge; simp at ce
    exact wpAny_setField_rec zz2 (by simp) fun g3 _ e3 => fin g3 e (fun c o c1 _ c3 _ v => e3.extBut _ _ c1 (e2 _ _ c3 (e1.extBut _ _ c1 v))) ⟨oe, e3.extBut _ _ ez ge, ce⟩
  | some v1 =>
    have hy : ys[k2]? = none := no.resolve_left (by rw [hx]; simp)
    refine wpAny_bind (wpAny_nextOf_list_item (h1.extBut e1.extBut D.i1z) (hl1.extBut e1.extBut D.l1z) hx fun g2 _ e2 => wpAny_pure ?_)
    have pO : IsPair g2 TO a b := e2.extBut _ _ D.TOi1 (e1.extBut _ _ D.TOz hTO)
    refine wpAny_bind (wpAny_seqItems pO rfl (wpAny_bind (wpAny_updateSeq_pair pO fun g3 _ e3 => ?_)))
    have hot3 : HotAt A x g3 := HotAt.kp hot1 fun o v => e3.extBut _ _ nO (e2.extBut _ _ n1 v)
    refine wpAny_bind (wpAny_letGo (wpAny_pure (wpAny_bind (wpAny_bind (wpAny_onRaise ?_)))))
    show wpAny _ _ (Builtin.SmallTypes.nextOf (.ref i2) >>= _) _ _ _
    refine wpAny_bind (list_end hot3 n2 (((h2.extBut e1.extBut D.i2z).extBut e2.extBut D.i12.symm).extBut e3.extBut D.TOi2.symm) (((hl2.extBut e1.extBut D.l2z).extBut e2.extBut D.l2i1).extBut e3.extBut D.l2TO) hy fun g4 e e4 he => ?_)
    obtain ⟨oe, ge, ce⟩ := he
    have zz4 : IsZip g4 z TI TO .ellipsis := e4 _ _ D.i2z.symm (e3.extBut _ _ D.TOz.symm (e2.extBut _ _ D.i1z.symm zz1))
    have ez : e ≠ z := fun v => by subst v; rw [zz4] at ge; cases ge; simp at ce
    exact wpAny_setField_rec zz4 (by simp) fun g5 _ e5 => fin g5 e (fun c o c1 c2 c3 c4 v => e5.extBut _ _ c1 (e4 _ _ c4 (e3.extBut _ _ c2 (e2.extBut _ _ c3 (e1.extBut _ _ c1 v))))) ⟨oe, e5.extBut _ _ ez ge, ce⟩
theorem zip_end {z TI TO i1 i2 l1 l2 x : Addr} {k1 k2 : Nat} {xs ys : Array Value} {a b : Value} {Q : Option Value → Shared → Prop} (hot : HotAt A x s.heap) (nz : x ≠ z) (nO : x ≠ TO) (n1 : x ≠ i1) (n2 : x ≠ i2) (D : ZipApart z TI TO i1 i2 l1 l2)
    (hz : IsZip s.heap z TI TO .none) (hTI : IsPair s.heap TI (.ref i1) (.ref i2)) (hTO : IsPair s.heap TO a b) (h1 : s.heap.IsListIter i1 l1 k1) (h2 : s.heap.IsListIter i2 l2 k2) (hl1 : s.heap.IsList l1 xs) (hl2 : s.heap.IsList l2 ys) (no : xs[k1]? = none ∨ ys[k2]? = none)
    (q : ∀ h', (∀ c o, c ≠ z → c ≠ TO → c ≠ i1 → c ≠ i2 → s.heap.get? c = some o → h'.get? c = some o) → Q none { s with heap := h' }) : wpAny (model prog w) A (pyNext (.ref z)) Q E s := by
  have hT : s.TypeIs (.ref z) "zip" := ⟨_, hz, rfl⟩
  unfold pyNext
  refine wpAny_bind (wpAny_attempt (wpAny_callSpecial?_slot (name := Str.ofString "__next__") hT F.slot_zip_next (wpAny_call_entry F.slot_zip_next hT F.entry_zip_next (zip_end0 hot nz nO n1 n2 D hz hTI hTO h1 h2 hl1 hl2 no fun h' e kp he => ?_) (F.args_zip_next_1 _))))
  obtain ⟨o, ho, hc⟩ := he
  exact wpAny_bind (wpAny_isInstance (T := "StopIteration") (b := true) ⟨o, ho, hc⟩ isSubtype_stop (wpAny_pure (q _ kp)))
end
end RepHot
/-! rules for an except suite's callee -/
namespace RepHot
open PySem PySem.Spec PyProof.Rows L2 L2H HotX
abbrev St := L2.St
section
variable {X : Cx}
theorem pg_tupP {es : List Expr} {k : Nat} {t : TGs} {n : Nat} {pos : Pos} (hc : HotC X) (h : PGs X es t) (hn : (assignEach es X.env).length = n := by rfl) (hst : (assignEach es X.env).findIdx? (·.1) = none := by rfl) : PG X (.Tuple es k pos) (gTup X.K n t) := by
  refine ⟨fun ps s σ H v u Q I r hw => ?_⟩
  obtain ⟨a, xs, rfl, hq, hl, hw⟩ := hw
  cases r
  obtain ⟨vals, rel, tp, _⟩ := I.tuple hq
  obtain ⟨x, hot⟩ := hc.at I
  refine apart_tuple hot tp (by simp [hn, ← hl, rel.length]) hst fun h' ext => ?_
  have I' : Inv X ps σ H { s with heap := h' } := I.kept (t' := s.toks) fun b o z => ext b o (Nat.ne_of_lt (Heap.lt_size z)) z
  exact h.run ps _ σ H xs _ Q I' (by simpa using rel) hw
end
theorem five {c z TI TO i1 i2 : Addr} (h : c ∈ [z, TI, TO, i1, i2]) : c = z ∨ c = TI ∨ c = TO ∨ c = i1 ∨ c = i2 := by simpa using h
theorem turn_zipP {P : Program} {w : World} {K : PySem.W.Frag} {elts : List Expr} {kk : Nat} {tpos : Pos} {a b z TI TO i1 i2 : Addr} (D : ZipApart z TI TO i1 i2 a b) :
    TurnH P w K (.Tuple elts kk tpos) (Itz K a b) [z, TI, TO, i1, i2] z (fun i h => IsZip h z TI TO .none ∧ IsPair h TI (.ref i1) (.ref i2) ∧ (∃ x y, IsPair h TO x y) ∧ h.IsListIter i1 a i ∧ h.IsListIter i2 b i) where
  mem := (turn_zip (P := P) (w := w) (K := K) (elts := elts) (kk := kk) (tpos := tpos) D).mem
  obj := (turn_zip (P := P) (w := w) (K := K) (elts := elts) (kk := kk) (tpos := tpos) D).obj
  keep := (turn_zip (P := P) (w := w) (K := K) (elts := elts) (kk := kk) (tpos := tpos) D).keep
  item := by
    intro X eP ew eK _ i ps s σ H E I fr stt go
    subst eP ew eK
    obtain ⟨sz, sI, ⟨q1, q2, sO⟩, s1, s2⟩ := stt
    obtain ⟨xs, ys, v1, v2, lx, ly, gx, gy⟩ := go
    obtain ⟨us, ru, pu, _⟩ := I.list lx
    obtain ⟨ws, rw', pw, _⟩ := I.list ly
    obtain ⟨u, hu, vu⟩ := ru.get gx
    obtain ⟨u', hu', vu'⟩ := rw'.get gy
    have lz : z < s.heap.objs.size := Heap.lt_size sz
    refine wpAny_pyNext_zip_item D sz sI sO s1 s2 pu.isList pw.isList (x := u) (y := u') (by simpa using hu) (by simpa using hu') fun g zz pO n1 n2 pT _ kp => ⟨_, rfl, wpAny_letOwnedTupleGo_zip (s := { s with heap := g }) zz fun g' zz' sb => ?_⟩
    have pT' : g'.get? s.heap.objs.size = some { cls := .type "tuple", data := .seq #[u, u'] } := (sb.2 _ (Nat.ne_of_gt lz)).trans pT
    have ok : ObjOk X.prog X.w (upd H s.heap.objs.size (.tup [v1, v2])) g' s.heap.objs.size (.tup [v1, v2]) := ⟨by show 2 ≤ sizeLine; decide, [u, u'], .cons vu (.cons vu' .nil), ⟨_, pT', rfl, _, rfl⟩⟩
    have I' : Inv X ps σ (upd H s.heap.objs.size (.tup [v1, v2])) { s with heap := g' } := I.turnedNew (t' := s.toks) (ch := [z, TI, TO, i1, i2]) (fun c o hb q => (sb.2 c (fun e => hb (by simp [e]))).trans (kp c o (fun e => hb (by simp [e])) (fun e => hb (by simp [e])) (fun e => hb (by simp [e])) (fun e => hb (by simp [e])) q)) fr (Nat.le_refl _) ok
    have eqx : ∀ l, SqL X.K H a l → l[i]? = some v1 := fun l hl => by rw [I.list_inj hl lx]; exact gx
    have eqy : ∀ l, SqL X.K H b l → l[i]? = some v2 := fun l hl => by rw [I.list_inj hl ly]; exact gy
    refine ⟨.ref s.heap.objs.size, _, I', rfl, ⟨_, v1, v2, rfl, I.hok.fresh (Nat.le_refl _), rfl, eqx, eqy⟩, ⟨zz', (sb.2 _ D.TIz).trans (kp _ _ D.TIz D.TITO D.TIi1 D.TIi2 sI), ⟨u, u', (sb.2 _ D.TOz).trans pO⟩, n1.at fun o q => (sb.2 _ D.i1z).trans q, n2.at fun o q => (sb.2 _ D.i2z).trans q⟩, fun c hc => ?_⟩
    have lt : c < s.heap.objs.size := by
      rcases five hc with e | e | e | e | e
      · rw [e]; exact lz
      · rw [e]; exact Heap.lt_size sI
      · rw [e]; exact Heap.lt_size sO
      · rw [e]; obtain ⟨_, e1, _⟩ := s1; exact Heap.lt_size e1
      · rw [e]; obtain ⟨_, e2, _⟩ := s2; exact Heap.lt_size e2
    rw [upd_ne (Nat.ne_of_lt lt)]
    exact (fr c hc).1
  done := by
    intro X eP ew eK hot i ps s σ H E I fr stt stop
    subst eP ew eK
    obtain ⟨sz, sI, ⟨q1, q2, sO⟩, s1, s2⟩ := stt
    obtain ⟨xs, ys, lx, ly, no⟩ := stop
    obtain ⟨us, ru, pu, _⟩ := I.list lx
    obtain ⟨ws, rw', pw, _⟩ := I.list ly
    have e1 := ru.length
    have e2 := rw'.length
    obtain ⟨p, ⟨hh, vp, dp, cp⟩, hp⟩ := hot
    have np : ∀ c, c ∈ [z, TI, TO, i1, i2] → p.1 ≠ c := fun c hc => (fr c hc).2.2.2.2.2 p (List.mem_append_left _ hp)
    have hA : HotAt X.A p.1 s.heap := ⟨hh, p.2, vp, (I.pin p (List.mem_append_left _ hp)).1, dp, cp⟩
    have no' : us.toArray[i]? = none ∨ ws.toArray[i]? = none := no.imp (fun q => by simp; omega) (fun q => by simp; omega)
    exact zip_end hA (np z (by simp)) (np TO (by simp)) (np i1 (by simp)) (np i2 (by simp)) D sz sI sO s1 s2 pu.isList pw.isList no' fun g kp => ⟨rfl, I.turnedL (t' := s.toks) (ch := [z, TI, TO, i1, i2]) (fun c o hb q => kp c o (fun e => hb (by simp [e])) (fun e => hb (by simp [e])) (fun e => hb (by simp [e])) (fun e => hb (by simp [e])) q) fr⟩
  self := (turn_zip (P := P) (w := w) (K := K) (elts := elts) (kk := kk) (tpos := tpos) D).self
theorem pi_zipP {X : Cx} {e e2 : Expr} {ta : TA} {p pos tpos : Pos} {elts : List Expr} {kk : Nat} (hg : Gl X "zip") (hm : X.mg "zip" = none) (ha : PA X [e, e2] ta) (hs : starEach [e, e2] X.env = (false, eval e X.env) :: starEach [e2] X.env := by rfl) (hpl : (backTo pos (starEach [e2] X.env)).any (·.1) = false := by rfl) :
    PIH X (.Tuple elts kk tpos) (.Call (.Name "zip" p) [e, e2] [] pos) (iZip X.K ta) := by
  refine ⟨fun ps s σ H R I h => Call_ (ld_blt I hg hm PyProof.Rows.boot_zip (PyProof.Rows.callWith_type1 (thn (ha.run pos ps s σ H _ I h) fun us s1 ⟨vs, H1, I1, r1, q1⟩ => ?_) hs hpl))⟩
  obtain ⟨a, b, xs, ys, ev, lx, ly, q⟩ := q1
  subst ev
  cases r1 with
  | cons ra rr =>
    cases rr with
    | cons rb rr =>
      cases rr
      cases ra
      cases rb
      obtain ⟨_, _, pa, _⟩ := I1.list lx
      obtain ⟨_, _, pb, _⟩ := I1.list ly
      refine call_zip_2 pa.isList pb.isList fun g hz hI hO h1 h2 _ kp => wpAny_pyIter_zip hz ?_
      refine ⟨s1.heap.objs.size + 4, [s1.heap.objs.size + 4, s1.heap.objs.size + 2, s1.heap.objs.size + 3, s1.heap.objs.size, s1.heap.objs.size + 1], _, _, H1, rfl, I1.kept (t' := s1.toks) kp, turn_zipP (PySem.W.ktu_apart s1.heap.objs.size a b pa.lt pb.lt), ⟨hz, hI, ⟨_, _, hO⟩, h1, h2⟩, fun c hc => ?_, q⟩
      have le : s1.heap.objs.size ≤ c := by
        rcases five hc with e | e | e | e | e
        · rw [e]; exact Nat.le_add_right ..
        · rw [e]; exact Nat.le_add_right ..
        · rw [e]; exact Nat.le_add_right ..
        · rw [e]; exact Nat.le_refl _
        · rw [e]; exact Nat.le_add_right ..
      exact I1.fpOk le (I1.hok.fresh le)
/-! the comprehension: as the layer's own, the handled exception stays pinned in its block -/
abbrev blkP (X : Cx) (s : Shared) (H : Hp) (scope : Scope) (ce : Env) (fp : List Addr) (p : Addr × Obj) : Cx := { X.blk s H scope ce fp with pn := [p] }
section
variable {X : Cx}
theorem inv_pin {s0 : Shared} {H0 : Hp} {scope : Scope} {ce : Env} {fp : List Addr} {p : Addr × Obj} {σ : St} {H : Hp} {s : Shared} (I : Inv (X.blk s0 H0 scope ce fp) [] σ H s) (h : s.heap.get? p.1 = some p.2 ∧ H p.1 = none ∧ p.1 ≠ ce.locals ∧ p.1 ∉ frs X.stack ∧ ∀ v, p.2.data ≠ .cell v) : Inv (blkP X s0 H0 scope ce fp p) [] σ H s :=
  ⟨⟨I.ok.mod, I.ok.kind, I.ok.glob, I.ok.blt, I.ok.above, I.ok.inj, I.ok.has, I.ok.cab, I.ok.hd, I.ok.frames, I.ok.stk, I.ok.exf, I.ok.bs, I.ok.bsz, I.ok.noex, I.ok.exfs, I.ok.funs, I.ok.frf⟩, I.os, I.bare, I.base, I.loc, I.cell, I.free, I.freeC, fun q hq => by
    have e : q = p := by simpa using hq
    rw [e]; exact h, I.hok, I.len⟩
theorem pe_lcP {elt tg iter : Expr} {ifs : List Expr} {scope : Scope} {own : List (Str × Nat)} {pos : Pos} {wi : TI} {g : TG} {tt : TT} {te : TE} {p : Addr × Obj} (hot : Hot1 X.A p) (hp : p ∈ X.pn) (hN : X.N.Nodup) (hi : PIH X tg iter wi) (ok : BlkOk X.N X.env.scope scope own)
    (hg : ∀ (s : Shared) (H : Hp) (C : Addr) (cl : List (Str × Addr)) (fp : List Addr), PG (blkP X s H scope (compEnvC scope cl C X.env) fp p) tg g) (ht : ∀ (s : Shared) (H : Hp) (C : Addr) (cl : List (Str × Addr)) (fp : List Addr), PTs (blkP X s H scope (compEnvC scope cl C X.env) fp p) ifs tt)
    (he : ∀ (s : Shared) (H : Hp) (C : Addr) (cl : List (Str × Addr)) (fp : List Addr), PE (blkP X s H scope (compEnvC scope cl C X.env) fp p) elt te) (hs : ∀ x, foldedSetIterable iter X.env x = pure x := by intro _; rfl) : PE X (.ListComp elt [⟨tg, iter, ifs, 0⟩] scope pos) (tLc wi g tt te (own.map (·.2))) := by
  refine ⟨fun ps s σ H Q I h => ?_⟩
  rw [eval_ListComp]
  have hfr : ∀ y ∈ scope.names, y.2 = .free → ∃ c, X.env.cells.lookup y.1 = some c := fun y hy e => I.ok.has _ (ok.free y hy e)
  refine wpAny_comprehension_free (use := none) rfl hs (closure_ok hfr) ok.kind (fun y hy e => by rw [ok.uniq y hy, e]) (thn (hi.run ps s σ H _ I h) fun xv s1 hx => thn hx fun itv s2 h2 => ?_)
  obtain ⟨it, fp, tn, J, H2, e, I2, T, t2, f2, q⟩ := h2
  subst e
  refine wpAny_newObj_type (newEnv_comp ?_) (by show 0 ≤ sizeLine; decide)
  generalize eD : s2.heap.objs.size = D
  have nD : H2 D = none := I2.hok.fresh (Nat.le_of_eq eD)
  obtain ⟨W, ⟨m0, w0⟩, turn⟩ := q D nD
  generalize e3 : ({ s2 with heap := s2.heap.push { cls := .type "list", data := .seq ([] : List Value).toArray } } : Shared) = s3
  have h3 : s3.heap = s2.heap.push { cls := .type "list", data := .seq ([] : List Value).toArray } := by rw [← e3]
  have I3 : Inv X ps σ (upd H2 D (.lst [])) s3 := by
    rw [← e3]
    refine I2.laid (t' := s2.toks) (fun b o z => Heap.get?_push_of_some _ z) (Nat.le_of_eq eD) ⟨Nat.zero_le _, [], 0, .nil, ?_⟩
    rw [← eD]; exact Heap.get?_push_size _ rfl
  have lt2 : ∀ b ∈ fp, b < s2.heap.objs.size := fun b hb => by
    obtain ⟨o, z, _⟩ := T.obj _ _ t2 b hb
    exact Heap.lt_size z
  have f3 : ∀ b ∈ fp, FpOk X ps (upd H2 D (.lst [])) b ∧ b < s3.heap.objs.size := fun b hb => by
    refine ⟨⟨?_, (f2 b hb).2⟩, by rw [h3, Heap.size_push]; exact Nat.lt_succ_of_lt (lt2 b hb)⟩
    rw [upd_ne (by rw [← eD]; exact Nat.ne_of_lt (lt2 b hb))]
    exact (f2 b hb).1
  have t3 : tn 0 s3.heap := T.keep _ _ _ t2 fun b _ o z => by rw [h3]; exact Heap.get?_push_of_some _ z
  have I4 := block_start I3 ok hN f3
  have kg := hg s3 (upd H2 D (.lst [])) s3.heap.objs.size (cellsFrom (s3.heap.objs.size + 1) scope.names (cloFrom X.env.cells scope.names [])) fp
  have kt := ht s3 (upd H2 D (.lst [])) s3.heap.objs.size (cellsFrom (s3.heap.objs.size + 1) scope.names (cloFrom X.env.cells scope.names [])) fp
  have ke := he s3 (upd H2 D (.lst [])) s3.heap.objs.size (cellsFrom (s3.heap.objs.size + 1) scope.names (cloFrom X.env.cells scope.names [])) fp
  have n3 : ∀ b ∈ fp, (upd H2 D (.lst [])) b = none := fun b hb => (f3 b hb).1.1
  have P3 := I3.pin p (List.mem_append_left _ hp)
  have pst : p.1 ∉ frs X.stack := fun hm => (List.mem_cons.mp (I3.stkSub p.1 hm)).elim P3.2.2.1 P3.2.2.2.1
  show codeAny _ _ (.compStart (.ListComp elt [⟨tg, iter, ifs, 0⟩] scope pos) 0 (.ref it) (.ref D) (compEnvC scope (cellsFrom (s3.heap.objs.size + 1) scope.names (cloFrom X.env.cells scope.names [])) s3.heap.objs.size X.env)) (compPost (model X.prog X.w) X.A X.xe none (EP X ps σ Q) (.ref D) s3.heap.objs.size) { s3 with heap := pushCells (s3.heap.push { cls := .type "dict", data := .dict #[] }) scope.names }
  generalize hce : compEnvC scope (cellsFrom (s3.heap.objs.size + 1) scope.names (cloFrom X.env.cells scope.names [])) s3.heap.objs.size X.env = ce at I4 kg kt ke ⊢
  have cL : ce.locals = s3.heap.objs.size := by subst hce; rfl
  generalize hH3 : upd H2 D (.lst []) = H3 at I3 I4 kg kt ke w0 n3 f3 P3
  generalize hs4 : ({ s3 with heap := pushCells (s3.heap.push { cls := .type "dict", data := .dict #[] }) scope.names } : Shared) = s4 at I4 ⊢
  have kp4 : ∀ b o, s3.heap.get? b = some o → s4.heap.get? b = some o := fun b o z => by rw [← hs4]; exact pushCells_keeps _ _ _ _ (Heap.get?_push_of_some _ z)
  have t4 : tn 0 s4.heap := T.keep _ _ _ t3 fun b _ o z => kp4 b o z
  have J4 := inv_pin (p := p) I4 ⟨kp4 _ _ P3.1, P3.2.1, (by rw [cL]; exact Nat.ne_of_lt (Heap.lt_size P3.1)), pst, P3.2.2.2.2⟩
  have hc : HotC (blkP X s3 H3 scope ce fp p) := ⟨p, hot, List.mem_singleton.mpr rfl⟩
  have npf : ∀ b ∈ fp, p.1 ≠ b := fun b hb => (f3 b hb).1.2.2.2.2.2 p (List.mem_append_left _ hp)
  have stat : ∀ {σ' : St} {H' : Hp} {s' : Shared}, Inv (blkP X s3 H3 scope ce fp p) [] σ' H' s' → (∀ b ∈ fp, H' b = none) → ∀ b ∈ fp, FpOk (blkP X s3 H3 scope ce fp p) [] H' b := fun {σ' H' s'} K' hn b hb =>
    ⟨hn b hb, (K'.ok.exf b hb).1, K'.ok.exfs b hb, .inl hb, fun x c z => (K'.ok.exf b hb).2 x c z, fun q hq => by
      have e : q = p := by simpa using hq
      rw [e]; exact npf b hb⟩
  have loop : codeAny (model X.prog X.w) X.A (.compLoop (.ListComp elt [⟨tg, iter, ifs, 0⟩] scope pos) 0 (.ref it) (.ref D) ce) (compPost (model X.prog X.w) X.A X.xe none (EP X ps σ Q) (.ref D) s3.heap.objs.size) s4 := by
    refine compLoop_any (fun n s' => ∃ i H', Inv (blkP X s3 H3 scope ce fp p) [] (wipe σ (own.map (·.2))) H' s' ∧ tn i s'.heap ∧ (∀ b ∈ fp, H' b = none) ∧ W i n H') ?_ m0 ⟨0, H3, J4, t4, n3, w0⟩
    rintro n s5 ⟨i, H5, I5, t5, n5, w5⟩
    rcases turn i n H5 w5 with ⟨stop, qq⟩ | ⟨go, Nx, hNx, step⟩
    · refine thnF (T.done (blkP X s3 H3 scope ce fp p) rfl rfl rfl hc i [] s5 _ H5 (fun _ _ => False) I5 (stat I5 n5) t5 stop) fun r s6 ⟨hr, I6⟩ => ?_
      subst hr
      have I7 : Inv X ps σ H5 s6 := I3.call' (ch := fp) I6.os I6.base I6.hok I6.bare fun b hb => ⟨(f3 b hb).1.2.2.2.1, (f3 b hb).1.2.1, (f3 b hb).1.2.2.2.2.1, (f3 b hb).1.2.2.2.2.2⟩
      have nC : H5 s3.heap.objs.size = none := by
        have z : H5 ce.locals = none := I6.free
        rwa [cL] at z
      obtain ⟨m, hm, _⟩ := I6.loc
      have hm : s6.heap.Ns ce.locals m := hm
      rw [cL] at hm
      obtain ⟨f0, f1, _, f3', f4, f5⟩ := I3.fpOk (b := s3.heap.objs.size) (Nat.le_refl _) nC
      exact ⟨m, hm, fun h'' sb => ⟨.ref D, H5, I7.turned (t' := s6.toks) (fun b o hb z => (sb.2 b hb).trans z) f0 f1 f3' f4 f5, rfl, qq⟩⟩
    · refine thnF (T.item (blkP X s3 H3 scope ce fp p) rfl rfl rfl hc i [] s5 _ H5 (fun _ _ => False) I5 (stat I5 n5) t5 go) fun r s6 ⟨u, hr, h6⟩ => ?_
      subst hr
      refine thnF h6 fun _ s7 ⟨x, H7, I7, r7, y7, t7, n7⟩ => ?_
      refine thnF (kg.run _ s7 _ H7 x u _ (I7.pinned (stat I7 n7) (T.obj _ _ t7)) r7 (step x H7 y7)) fun _ s8 ⟨σ8, H8, I8, hw8, q8⟩ => ?_
      refine thnF (kt.run _ s8 σ8 H8 _ I8 q8) fun b s9 ⟨H9, I9, q9⟩ => ?_
      have fin : ∀ {s' : Shared} {H' : Hp}, Inv (blkP X s3 H3 scope ce fp p) ([] ++ pinsAt fp s7.heap) σ8 H' s' → Nx H' → ∃ m, m < n ∧ ∃ i H', Inv (blkP X s3 H3 scope ce fp p) [] (wipe σ (own.map (·.2))) H' s' ∧ tn i s'.heap ∧ (∀ b ∈ fp, H' b = none) ∧ W i m H' := fun {s' H'} I' nx => by
        obtain ⟨m', hm, w'⟩ := hNx H' nx
        have pp : ∀ b ∈ fp, ∀ o, s7.heap.get? b = some o → s'.heap.get? b = some o ∧ H' b = none := fun b hb o z =>
          have v := I'.pin (b, o) (List.mem_append_right _ (List.mem_append_right _ (mem_pinsAt hb z)))
          ⟨v.1, v.2.1⟩
        have hl : (wipe σ (own.map (·.2))).length = σ8.length := by rw [← hw8, wipe_length]
        refine ⟨m', hm, i + 1, H', (I'.unpinned (pins := [])).weak hl (fun j v z => ?_), T.keep _ _ _ t7 fun b hb o z => (pp b hb o z).1, fun b hb => ?_, w'⟩
        · rw [← hw8] at z; exact (wipe_some z).1
        · obtain ⟨o, z, _⟩ := T.obj _ _ t7 b hb
          exact (pp b hb o z).2
      cases b with
      | false =>
        simp only [Bool.false_eq_true, if_false] at q9 ⊢
        exact fin I9 q9
      | true =>
        simp only [if_true] at q9 ⊢
        refine thnF (ke.run _ s9 σ8 H9 _ I9 q9) fun z s10 ⟨yv, H10, I10, r10, acc, hD10, hz10, nx⟩ => ?_
        exact app_ok (X := blkP X s3 H3 scope ce fp p) I10 hD10 hz10 r10 fun s11 I11 => fin I11 nx
  exact codeAny_compStart_list loop (T.self X.A 0 _ _ _ t4 loop)
end
end RepHot
/-! defs that raise; defs called with the handled exception -/
namespace RepHot
open PySem PySem.Spec PyProof.Rows L2 L2H HotX
section
variable {P : Program} {w : World} {K : PySem.W.Frag} {mg : Str → Option Value} {base : Heap}
/-- a def that may raise, its exceptions without a context -/
theorem okN {x qual : Str} {st : Stmt} {f : Addr} {fd : FuncData} {N ps : List Str} {k : Nat} {sp : Sp} (F : Fun K x qual st f fd) (S : FnScope N ps (defScope st)) (len : ∀ vs H Q E, sp vs H Q E → vs.length = ps.length)
    (hb : ∀ (cdv : Value) (A : Around) (outer : List Env) (s : Shared) (H : Hp) (vs : List V) (Q : VK) (E : XK), Room k (A.deeper (envOfC qual (defScope st) s.heap.objs.size f cdv)) → sp vs H Q E →
      ∃ t, PSs (cxOf (L2N.CX P w) P w K mg base N qual (defScope st) f cdv A outer s H E) (defBody st) t ∧ t { nx := fun _ H' => Q .non H', rt := Q } (start N vs) H) : FnOk P w K mg base (L2N.CX P w) (k + 1) f fd ps sp := by
  obtain ⟨_, _, _, _, _, _, cdv, _, _, rfl, lk, hcd⟩ := F.ex
  exact fn_of lk hcd S len fun A outer s H vs Q E hr h => hb cdv A outer s H vs Q E hr h
/-- what a def promises that is called with the exception that is handled: sp speaks of its address, its class and its dict -/
structure FnP (P : Program) (w : World) (K : PySem.W.Frag) (mg : Str → Option Value) (base : Heap) (CX : CXT) (k : Nat) (f : Addr) (fd : FuncData) (ps : List Str) (sp : Addr → Value → Option Addr → Sp) : Prop where
  len : ∀ a c d vs H Q E, sp a c d vs H Q E → vs.length = ps.length
  run : ∀ (A : Around) (outer : List Env) (s : Shared) (H : Hp) (args : Args) (us : List Value) (vs : List V) (Q : VK) (E : XK) (p : Addr × Obj) (c : Value) (d : Option Addr), RoomH k A → Hot1 A p → PinOk outer H s p → Zc c d p.2 → Env0 P w K mg base A outer s H → BindsTo s fd args (ps.zip us) → Vals vs us → sp p.1 c d vs H Q E →
    codeAny (model P w) A (.call (.ref f) args) (CR CX outer P w H s Q E) s
theorem okP {x qual : Str} {st : Stmt} {f : Addr} {fd : FuncData} {N ps : List Str} {k : Nat} {CX : CXT} {sp : Addr → Value → Option Addr → Sp} (F : Fun K x qual st f fd) (S : FnScope N ps (defScope st)) (len : ∀ a c d vs H Q E, sp a c d vs H Q E → vs.length = ps.length)
    (hb : ∀ (cdv : Value) (A : Around) (outer : List Env) (s : Shared) (H : Hp) (vs : List V) (Q : VK) (E : XK) (p : Addr × Obj) (c : Value) (d : Option Addr), Hot1 A p → Zc c d p.2 → RoomH k (A.deeper (envOfC qual (defScope st) s.heap.objs.size f cdv)) → sp p.1 c d vs H Q E →
      ∃ t, PSs (cxH CX P w K mg base N qual (defScope st) f cdv A outer s H E p) (defBody st) t ∧ t { nx := fun _ H' => Q .non H', rt := Q } (L2.start N vs) H) : FnP P w K mg base CX (k + 1) f fd ps sp := by
  obtain ⟨_, _, _, _, _, _, cdv, _, _, rfl, lk, hcd⟩ := F.ex
  refine ⟨len, fun A outer s H args us vs Q E p c d hr hot hpin hz e0 bt r h => ?_⟩
  have kin : K.In s.heap := e0.mod.kin.keeps fun b o z => (e0.bs b o z).1
  have nol : s.heap.NoLimit := e0.mod.nolimit.keeps fun b o z => (e0.bs b o z).1
  have hk : ∀ y ∈ ps.zip us, (defScope st).names.lookup y.1 = some .local ∨ ((defScope st).names.lookup y.1 = some .cell ∧ ((cellsFrom (s.heap.objs.size + 1) (defScope st).names []).lookup y.1).isSome = true) := fun y hy =>
    (S.par y.1 (List.of_mem_zip (show (y.1, y.2) ∈ ps.zip us from hy)).1).imp id fun q => ⟨q, PySem.W.cellsFrom_some _ _ _ (.inl q)⟩
  refine codeAny_call_function hr.depth (kin _ _ lk) rfl S.co S.gen rfl (PySem.W.codeRec_of kin hcd) (bt _ _ _ _ (wpAny_newFunctionEnv_cells S.kind hk fun env he s1 x1 => ?_))
  subst he
  refine ⟨nol.keeps x1.toInCall.keep, codeAny_func ?_⟩
  obtain ⟨t, ht, hq⟩ := hb cdv A outer s H vs Q E p c d hot hz (hr.deeper _) h
  refine wpAny_mono (ht.run [] s1 (L2.start N vs) H _ (inv_startH S hpin e0 (len _ _ _ _ _ _ _ h) r x1) hq) (fun fl s' hs => ?_) fun e s' hs => hs
  cases fl with
  | ret u =>
    obtain ⟨v, σ', H', J, rv, q⟩ := hs
    exact ⟨v, H', J.os, J.bare, J.base, J.hok, rv, q⟩
  | next =>
    obtain ⟨σ', H', J, q⟩ := hs
    exact ⟨.non, H', J.os, J.bare, J.base, J.hok, rfl, q⟩
  | brk => obtain ⟨_, _, _, q⟩ := hs; exact q.elim
  | cont => obtain ⟨_, _, _, q⟩ := hs; exact q.elim
end
section
variable {X : Cx} {CX : CXT} {k : Nat} {f C : Addr} {fd : FuncData} {ps : List Str} {x m : Str} {q pos apos : Pos} {e o : Expr} {es : List Expr} {ta : TE} {t : TA}
/-- f(e, ..) where e's exception is handled -/
theorem pe_callP {sp : Addr → Value → Option Addr → Sp} {a : Addr} {oe : Obj} {c : Value} {d : Option Addr} (F : FnP X.prog X.w X.K X.mg X.base CX0 k f fd ps sp) (hr : RoomH k X.A) (hot : Hot1 X.A (a, oe)) (hp : (a, oe) ∈ X.pn) (hz : Zc c d oe) (hg : Gl X x) (hm : X.mg x = some (.ref f)) (hk : PySem.W.keepIn X.K (.ref f) = true) (hb : Binds X.K fd ps [])
    (ha : PA X (e :: es) t) (hdb : (x == ("__debug__" : Str)) = false := by decide) (he : starEach (e :: es) X.env = (false, eval e X.env) :: starEach es X.env := by rfl) (hpl : (backTo pos (starEach es X.env)).any (·.1) = false := by rfl) :
    PE X (.Call (.Name x q) (e :: es) [] pos) (tCallS (sp a c d) (fun _ _ _ _ => False) t) := by
  refine ⟨fun pins s σ H Q I h => wpAny_Call_Name_kw (ld_glob I hg hm (PySem.W.callWith_K (h₀ := X.base) I.ok.mod.kin hk (thn (ha.run pos pins s σ H _ I h) fun us s1 ⟨vs, H1, I1, r, q⟩ => ⟨I1.kIn, ?_⟩) he hpl) hdb)⟩
  have hl : us.length = ps.length := by rw [← r.length]; exact F.len _ _ _ _ _ _ _ q
  have b := hb s1 us I1.kIn (by rw [List.append_nil]; exact hl)
  rw [List.append_nil] at b
  have P1 := I1.pin (a, oe) (List.mem_append_left _ hp)
  have hpin : PinOk X.stack H1 s1 (a, oe) := ⟨P1.1, P1.2.1, fun hm => (List.mem_cons.mp (I1.stkSub a hm)).elim P1.2.2.1 P1.2.2.2.1, P1.2.2.2.2⟩
  refine wpAny_call (codeAny_mono (F.run X.A X.stack s1 H1 ⟨us, []⟩ us vs Q _ (a, oe) c d hr hot hpin hz I1.env0 b r q) fun r s' hq => ?_)
  cases r with
  | error e => exact hq.elim
  | ok fl =>
    cases fl with
    | ret u => exact I1.after hq
    | next => exact hq.elim
    | brk => exact hq.elim
    | cont => exact hq.elim
/-- o.m(e, ..) where what is raised is wished for at the caller's slots -/
def tMethN (C : Addr) (m : Str) (sp : Sp) (E : St → XK) (ta : TE) (t : TA) : TE := fun σ H Q => ta σ H fun x H1 => ∃ a dx fs, x = .ref a ∧ H1 a = some (.ins C dx fs) ∧ fs.lookup m = none ∧ t σ H1 fun vs H2 => sp (x :: vs) H2 Q (E σ)
theorem pe_methN {sp : Sp} {E : St → XK} {pl : Sem Bool} (he : PE X o ta) (c : Cls X.K C) (hm : Meth X.K C m f) (F : FnOk X.prog X.w X.K X.mg X.base CX k f fd ps sp) (hr : Room k X.A) (hb : Binds X.K fd ps []) (hx : ∀ σ, PassesAt CX X σ (E σ)) (ha : PA X (e :: es) t)
    (hst : starEach (e :: es) X.env = (false, eval e X.env) :: starEach es X.env := by rfl) (hpl : (backTo pos (starEach es X.env)).any (·.1) = false := by rfl)
    (ht : eval (.Call (.Attribute o m apos) (e :: es) [] pos) X.env = (do let ov ← eval o X.env; standAt apos.atName; let (f, first) ← holding [ov] (getMethod ov m pl); callWith pos f first (backTo pos (starEach (e :: es) X.env)) (backToKw pos (keywordEach [] X.env))) := by rfl) :
    PE X (.Call (.Attribute o m apos) (e :: es) [] pos) (tMethN C m sp E ta t) := by
  refine ⟨fun pins s σ H Q I h => PySem.W.methodCall_KW (pl := pl) (thn (he.run pins s σ H _ I h) fun u s1 ⟨x, H1, I1, rx, a, dx, fs, ex, ea, l, q⟩ => ?_) ht⟩
  subst ex
  obtain rfl : u = Value.ref a := rx
  refine getmeth_ok I1 ea c hm l (PySem.W.callWith_K (first := [.ref a]) (h₀ := X.base) I.ok.mod.kin hm.kp (thn (ha.run pos pins s1 σ H1 _ I1 q) fun us s2 ⟨vs, H2, I2, r, q2⟩ => ⟨I2.kIn, ?_⟩) hst hpl)
  exact run_fnS (us := .ref a :: us) (vs := .ref a :: vs) F hr hb (hx σ) I2 (.cons rfl r) q2
theorem pe_methN0 {sp : Sp} {E : St → XK} {pl : Sem Bool} (he : PE X o ta) (c : Cls X.K C) (hm : Meth X.K C m f) (F : FnOk X.prog X.w X.K X.mg X.base CX k f fd ps sp) (hr : Room k X.A) (hb : Binds X.K fd ps []) (hx : ∀ σ, PassesAt CX X σ (E σ))
    (ht : eval (.Call (.Attribute o m apos) [] [] pos) X.env = (do let ov ← eval o X.env; standAt apos.atName; let (f, first) ← holding [ov] (getMethod ov m pl); callWith pos f first (backTo pos (starEach [] X.env)) (backToKw pos (keywordEach [] X.env))) := by rfl) :
    PE X (.Call (.Attribute o m apos) [] [] pos) (tMethN C m sp E ta tNil) := by
  refine ⟨fun pins s σ H Q I h => PySem.W.methodCall_KW (pl := pl) (thn (he.run pins s σ H _ I h) fun u s1 ⟨x, H1, I1, rx, a, dx, fs, ex, ea, l, q⟩ => ?_) ht⟩
  subst ex
  obtain rfl : u = Value.ref a := rx
  refine getmeth_ok I1 ea c hm l (PySem.W.callWith_K0 I1.kIn hm.kp ?_)
  exact run_fnS (us := [.ref a]) (vs := [.ref a]) F hr hb (hx σ) I1 (.cons rfl .nil) q
/-- isinstance(e, c), e pinned -/
theorem call_isP {a D : Addr} {oe : Obj} (hp : (a, oe) ∈ X.pn) (C : ExcC X.K D) (hz : Zc (.ref D) none oe) (hf : ∃ vs, oe.data = .fields vs) : CallR X (.builtin "isinstance") (rIsE X.K D a) := by
  intro pins s σ H xs us Q I r h
  obtain ⟨c, cv, b, rfl, hcv, e, q⟩ := h
  match us, r with
  | [_, _], .cons rx (.cons rt .nil) =>
    cases rx
    obtain rfl := hcv _ rt
    obtain ⟨g, _⟩ := I.pin (a, oe) (List.mem_append_left _ hp)
    obtain ⟨vs, hv⟩ := hf
    have J : PySem.W.InstAt s.heap a oe D none := by
      obtain ⟨oc, od, oda, osl⟩ := oe
      obtain ⟨h1, h2⟩ := hz
      dsimp only at h1 h2 hv
      subst h1 h2 hv
      exact ⟨g, rfl, rfl, trivial⟩
    exact PySem.W.kia_one (PySem.W.handS_kitx_exc C.hg C.hk C.hs C.hd C.ha C.hn C.ht C.hm) I.kIn J e (fun z => nomatch z) fun tk => ⟨.bl b, H, I.kept (t' := tk) fun _ _ z => z, rfl, q⟩
/-- the suite's own exception -/
theorem hot_of {a : Addr} {oe : Obj} {c : Value} {d : Option Addr} {pn : List (Addr × Obj)} (hz : L2N.Zn c d oe) (hf : ∃ vs, oe.data = .fields vs) : Hot1 (X.suite a ((a, oe) :: pn)).A (a, oe) := by
  obtain ⟨vs, e⟩ := hf
  exact ⟨rfl, vs, e, hz.2.2 vs e⟩
theorem room_suite {a : Addr} {pn : List (Addr × Obj)} (hr : Room k X.A) : RoomH k (X.suite a pn).A := ⟨hr.dp, hr.un⟩
theorem takesN : L2N.Takes X (fun _ _ _ _ => False) := fun _ _ x => by
  obtain ⟨_, _, _, _, _, _, _, _, _, _, _, _, _, _, _, _, z⟩ := x
  exact z.elim
end
/-- where it is not refused nothing is raised -/
theorem fn_calm {P : Program} {w : World} {K : PySem.W.Frag} {mg : Str → Option Value} {base : Heap} {k : Nat} {f : Addr} {fd : FuncData} {ps : List Str} {sp : Sp} (F : FnOk P w K mg base (L2N.CX P w) k f fd ps sp) : FnOk P w K mg base CX0 k f fd ps (fun vs H Q _ => sp vs H Q (fun _ _ _ => False)) := by
  refine ⟨fun vs H Q E h => F.len _ _ _ _ h, fun A outer s H args us vs Q E hr e0 hb r h => codeAny_mono (F.run A outer s H args us vs Q _ hr e0 hb r h) fun r s' hq => ?_⟩
  cases r with
  | error e =>
    obtain ⟨_, _, _, _, _, _, _, _, _, _, _, _, z⟩ := hq
    exact z.elim
  | ok fl =>
    cases fl with
    | ret u => exact hq
    | next => exact hq.elim
    | brk => exact hq.elim
    | cont => exact hq.elim
end RepHot
namespace Rep
open PySem L2
def topS (i : Nat) : Stmt := PySem.Challenge.pw_reprise_k42_orders_are_deeds.main.body.getD i (.Pass ⟨0, 0, 0, 0⟩)
abbrev s_wall : Stmt := topS 0
abbrev sBadPageInit : Stmt := inClass (topS 11) 0
abbrev sCheck_length : Stmt := topS 14
abbrev sCheck_place : Stmt := topS 15
abbrev sCheck_stretch : Stmt := topS 16
abbrev sCheck_sayings : Stmt := topS 17
abbrev sCheck_letter : Stmt := topS 18
abbrev sCheck_memory : Stmt := topS 19
abbrev sKept_form : Stmt := topS 21
abbrev sKept_forms : Stmt := topS 22
abbrev sCommon_beat : Stmt := topS 23
abbrev sPartner : Stmt := topS 24
abbrev sJoined : Stmt := topS 25
abbrev sTaken_in : Stmt := topS 26
abbrev sGreatest_end : Stmt := topS 27
abbrev sCarried_start : Stmt := topS 28
abbrev sCarried : Stmt := topS 29
abbrev sShortened : Stmt := topS 30
abbrev sLed_cut : Stmt := topS 31
abbrev sCut_by_leader : Stmt := topS 32
abbrev sCuts_of : Stmt := topS 33
abbrev sTidy : Stmt := topS 35
abbrev sBreadth : Stmt := topS 36
abbrev sBegun : Stmt := topS 37
abbrev sHas : Stmt := topS 38
abbrev sMeet : Stmt := topS 39
abbrev sUnder : Stmt := topS 40
abbrev sLed_place : Stmt := topS 42
abbrev sFirst_of : Stmt := topS 43
abbrev sLed_rows : Stmt := topS 44
abbrev sFirsts_from : Stmt := topS 45
abbrev sInit : Stmt := inClass (topS 47) 0
abbrev sMLength : Stmt := inClass (topS 47) 1
abbrev sMCount : Stmt := inClass (topS 47) 2
abbrev sMFirsts : Stmt := inClass (topS 47) 3
abbrev sMFirst : Stmt := inClass (topS 47) 4
abbrev sMSame : Stmt := inClass (topS 47) 5
abbrev sMBelow : Stmt := inClass (topS 47) 6
abbrev sMNumbered : Stmt := inClass (topS 47) 7
abbrev sMImage : Stmt := inClass (topS 47) 8
abbrev sMemoriesInit : Stmt := inClass (topS 49) 0
abbrev sMemoriesNote : Stmt := inClass (topS 49) 1
abbrev sMemoriesSettled : Stmt := inClass (topS 49) 2
abbrev sMemoriesFree : Stmt := inClass (topS 49) 3
abbrev sMemoriesQuarrel : Stmt := inClass (topS 49) 4
abbrev sMemoriesShown : Stmt := inClass (topS 49) 5
abbrev sPlace_of : Stmt := topS 52
abbrev sWithout : Stmt := topS 53
abbrev sUnnumbered : Stmt := topS 54
abbrev sCheck_room : Stmt := topS 55
abbrev sCheck_change : Stmt := topS 56
abbrev sSheetInit : Stmt := inClass (topS 57) 0
abbrev sSheetWith_saying : Stmt := inClass (topS 57) 1
abbrev sSheetWith_memory : Stmt := inClass (topS 57) 2
abbrev sSheetCounted_on : Stmt := inClass (topS 57) 3
abbrev sSheetWithout_saying : Stmt := inClass (topS 57) 4
abbrev sSheetWithout_memory : Stmt := inClass (topS 57) 5
abbrev sSheetAmended : Stmt := inClass (topS 57) 6
abbrev sSheetResized : Stmt := inClass (topS 57) 7
abbrev sSheetLengthened : Stmt := inClass (topS 57) 8
abbrev sSheetShortened : Stmt := inClass (topS 57) 9
abbrev sSheetUsed : Stmt := inClass (topS 57) 10
abbrev sSheetLast_number : Stmt := inClass (topS 57) 11
abbrev sBookInit : Stmt := inClass (topS 59) 0
abbrev sBookSheet : Stmt := inClass (topS 59) 1
abbrev sBookLength : Stmt := inClass (topS 59) 2
abbrev sBookComing : Stmt := inClass (topS 59) 3
abbrev sBookSayings : Stmt := inClass (topS 59) 4
abbrev sBookMemories : Stmt := inClass (topS 59) 5
abbrev sBookSay : Stmt := inClass (topS 59) 6
abbrev sBookUnsay : Stmt := inClass (topS 59) 7
abbrev sBookAmend : Stmt := inClass (topS 59) 8
abbrev sBookRemember : Stmt := inClass (topS 59) 9
abbrev sBookForget : Stmt := inClass (topS 59) 10
abbrev sBookLengthen : Stmt := inClass (topS 59) 11
abbrev sBookShorten : Stmt := inClass (topS 59) 12
abbrev sBookGo_on : Stmt := inClass (topS 59) 13
abbrev sBookTurn : Stmt := inClass (topS 59) 14
abbrev sBookUndo : Stmt := inClass (topS 59) 15
abbrev sBookRedo : Stmt := inClass (topS 59) 16
abbrev sBookUndoable : Stmt := inClass (topS 59) 17
abbrev sBookRedoable : Stmt := inClass (topS 59) 18
abbrev sBookClasses : Stmt := inClass (topS 59) 19
abbrev sBookHeard : Stmt := inClass (topS 59) 20
abbrev sBookIf_said : Stmt := inClass (topS 59) 21
abbrev sBookTwin : Stmt := inClass (topS 59) 22
abbrev sFollows : Stmt := topS 61
abbrev sWords_of : Stmt := topS 65
abbrev sNumber_of : Stmt := topS 66
abbrev sTurned_of : Stmt := topS 67
abbrev sSaying_of : Stmt := topS 68
abbrev sWay_word : Stmt := topS 69
abbrev sPage : Stmt := topS 71
abbrev sDo_order : Stmt := topS 73
abbrev sAnswer : Stmt := topS 74
abbrev sQuarrel_words : Stmt := topS 75
abbrev sDeskInit : Stmt := inClass (topS 76) 0
abbrev sDeskBook : Stmt := inClass (topS 76) 1
abbrev sDeskTell : Stmt := inClass (topS 76) 2
abbrev sMix : Stmt := topS 78
abbrev sRaw : Stmt := topS 79
abbrev sDig : Stmt := topS 80
abbrev s_law_book : Stmt := topS 81
abbrev s_law_length_next : Stmt := topS 82
abbrev s_law_good_stretch : Stmt := topS 83
abbrev s_law_numbers : Stmt := topS 84
abbrev s_law_row_next : Stmt := topS 85
abbrev s_law_do_model : Stmt := topS 86
abbrev sSame : Stmt := topS 87
abbrev s_law_way_word : Stmt := topS 88
abbrev s_law_deed_text : Stmt := topS 89
abbrev s_law_refusal_word : Stmt := topS 90
abbrev s_law_deed_answer : Stmt := topS 91
abbrev s_law_saying : Stmt := topS 92
abbrev s_law_letter : Stmt := topS 93
abbrev s_law_deed : Stmt := topS 94
abbrev s_law_kin : Stmt := topS 95
abbrev s_law_do : Stmt := topS 96
abbrev s_law_met : Stmt := topS 97
abbrev s_law_spoken : Stmt := topS 98
abbrev s_law_stands : Stmt := topS 99
abbrev s_law_page_text : Stmt := topS 100
abbrev sLaw : Stmt := topS 101
end Rep
namespace L2
open PySem PySem.Spec PyProof.Rows
/-! o.m(*y) -/
theorem starcall1_of {M : Model} {A : Around} {E : Value → Shared → Prop} {s : Shared} {env : Env} {o e2 : Expr} {m : Str} {p apos pos : Pos} {Q : Value → Shared → Prop} (hbase : attributeBase o m env (eval o env) = eval o env)
    (hst : starEach [.Starred e2 p] env = [(true, eval e2 env)])
    (h : wpAny M A (eval o env) (fun ov s₁ => wpAny M A (getAttr ov m true) (fun f s₂ => wpAny M A (callWith pos f [] (backTo pos [(true, eval e2 env)]) []) Q E s₂) E s₁) E s) :
    wpAny M A (eval (.Call (.Attribute o m apos) [.Starred e2 p] [] pos) env) Q E s := by
  have hke : backToKw pos (keywordEach [] env) = [] := rfl
  have hform : methodCallForm ([Expr.Starred e2 p].length + ([] : List Keyword).length) (backTo pos [(true, eval e2 env)]) [] = false := rfl
  have hpos : methodCallPos false o env apos pos = pure pos := rfl
  have hcal : ∀ ov, calleeOf false o env ov m = (getAttr ov m true >>= fun v => pure (v, [])) := fun _ => rfl
  rw [arm_eval_Call, hbase, hst, hke]
  refine wpAny_bind (wpAny_mono h (fun ov s₁ h₁ => ?_) fun _ _ x => x)
  refine wpAny_bind (wpAny_standAt ?_)
  unfold methodCall
  rw [hform, hpos, hcal]
  refine wpAny_bind (wpAny_holding (wpAny_bind (wpAny_mono h₁ (fun f s₂ h₂ => wpAny_pure ?_) fun _ _ x => x)))
  exact wpAny_bind (wpAny_pure h₂)
def tMethS1 (K : PySem.W.Frag) (C : Addr) (m : Str) (g : Addr) (sp : Sp) (E : XK) (ta t2 : TE) : TE := fun σ H Q => ta σ H fun x H1 => ∃ a dx fs, x = .ref a ∧ H1 a = some (.ins C dx fs) ∧ fs.lookup m = none ∧
  ∀ q, H1 q = none → t2 σ (upd H1 q (.met g a)) fun y2 H3 => ∃ b vs, y2 = .ref b ∧ (SqT K H3 b vs ∨ SqL K H3 b vs) ∧ H3 q = some (.met g a) ∧ sp (.ref a :: vs) H3 Q E
theorem pe_methS1 {X : Cx} {CX : CXT} {k : Nat} {C g : Addr} {m : Str} {sp : Sp} {E : XK} {o e2 : Expr} {ta t2 : TE} {p apos pos : Pos} (he : PE X o ta) (c : Cls X.K C) (b : BMeth X.K C m g) (F : FnR X.prog X.w X.K X.mg X.base CX k g sp) (hr : Room k X.A)
    (hx : Passes CX X E) (h2 : PE X e2 t2) (hbase : attributeBase o m X.env (eval o X.env) = eval o X.env := by rfl)
    (hst : starEach [.Starred e2 p] X.env = [(true, eval e2 X.env)] := by rfl) : PE X (.Call (.Attribute o m apos) [.Starred e2 p] [] pos) (tMethS1 X.K C m g sp E ta t2) := by
  refine ⟨fun pins s σ H Q I h => ?_⟩
  refine starcall1_of hbase hst (thn (he.run pins s σ H _ I h) fun u s1 ⟨x, H1, I1, rx, a, dx, fs, ex, ea, l, q⟩ => ?_)
  subst ex
  obtain rfl : u = Value.ref a := rx
  refine getbound_ok I1 ea c b l fun q1 s2 hq1 I2 => ?_
  refine PySem.W.ks_call (P := PySem.W.MethP X.K q1 g (.ref a)) rfl (PySem.W.keeps_M b.fi) (PySem.W.ks_lone (thn (h2.run pins s2 σ _ _ I2 (q q1 hq1)) fun v2 s4 ⟨y2, H3, I4, ry2, t, vs, ey, ht, hm, hsp⟩ => ?_))
  subst ey
  obtain rfl : v2 = Value.ref t := ry2
  refine StX.star_any I4 ht fun us s5 I5 rv => ?_
  show PySem.W.MethP X.K q1 g (.ref a) s5.heap ∧ wpAny (model X.prog X.w) X.A (call (.ref q1) us []) (EP X pins σ Q) X.xe s5
  exact ⟨met_P I5 hm, wpAny_call (PySem.W.method_call (met_P I5 hm).1 (run_fnR (us := Value.ref a :: us) (vs := V.ref a :: vs) F hr hx I5 (.cons rfl rv) hsp))⟩
end L2
namespace L2
open PySem PySem.Spec PyProof.Rows
/-! match over a list of words: a word of its own first, then names; and the case of all that is left -/
structure PMs (X : Cx) (cs : List MatchCase) (t : V → TS) : Prop where
  run : ∀ (first : Bool) (pins : List (Addr × Obj)) (s : Shared) (σ : St) (H : Hp) (D : Ends) (v : V) (u : Value), Inv X pins σ H s → RelV v u → t v D σ H → wpAny (model X.prog X.w) X.A (matchCases cs X.env u first) (SP X pins D) X.xe s
def tMatch (te : TE) (t : V → TS) : TS := fun D σ H => te σ H fun v H1 => t v D σ H1
theorem ps_match {X : Cx} {e : Expr} {te : TE} {cs : List MatchCase} {t : V → TS} {pos : Pos} (he : PE X e te) (hm : PMs X cs t) : PS X (.Match e cs pos) (tMatch te t) := by
  refine ⟨fun pins s σ H D I h => ?_⟩
  refine wpAny_Match (thn (he.run pins s σ H _ I h) fun u s1 ⟨v, H1, I1, r1, q1⟩ => ?_)
  exact hm.run true pins s1 σ H1 D v u I1 r1 q1
theorem pm_nil {X : Cx} : PMs X [] (fun _ D σ H => D.nx σ H) := ⟨fun _ _ _ σ H _ _ _ I _ h => wpAny_matchCases_nil ⟨σ, H, I, h⟩⟩
theorem pm_any {X : Cx} {pos : Pos} {body : List Stmt} {rest : List MatchCase} {t : TS} (hb : PSs X body t) : PMs X (⟨.MatchAs none none pos, none, body⟩ :: rest) (fun _ => t) := by
  refine ⟨fun _ pins s σ H D v u I _ h => ?_⟩
  refine wpAny_matchCases_cons (wpAny_matchPattern_Capture ?_)
  exact wpAny_assignInOrder_none (hb.run pins s σ H D I h)
/-- names alone -/
inductive Caps (X : Cx) : List Pattern → List Nat → Prop
  | nil : Caps X [] []
  | cons {x : Str} {i : Nat} {pos : Pos} {ps : List Pattern} {is : List Nat} (hi : X.N[i]? = some x) (hx : Loc X.env.scope x) (r : Caps X ps is) (hf : X.fn x = true ∨ X.env.scope.names.lookup x = some .local := by first | exact .inl rfl | exact .inr rfl | assumption) : Caps X (.MatchAs none (some x) pos :: ps) (i :: is)
def bsOf : List Pattern → List Value → List (Str × Value)
  | .MatchAs none (some x) _ :: ps, u :: us => (x, u) :: bsOf ps us
  | _, _ => []
def setAll : List Nat → List V → St → St
  | i :: is, v :: vs, σ => setAll is vs (σ.set i (some v))
  | _, _, σ => σ
theorem Caps.len {X : Cx} {ps : List Pattern} {is : List Nat} (c : Caps X ps is) : ps.length = is.length := by
  induction c with
  | nil => rfl
  | cons _ _ _ _ ih => simp [ih]
theorem caps_each {X : Cx} {M : Model} {A : Around} {E : Value → Shared → Prop} {ps : List Pattern} {is : List Nat} (c : Caps X ps is) : ∀ (us : List Value) (s : Shared) (Q : Option (List (Str × Value)) → Shared → Prop), us.length = ps.length → Q (some (bsOf ps us)) s → wpAny M A (matchEach ps X.env us) Q E s := by
  induction c with
  | nil =>
    intro us s Q hl q
    cases us with
    | nil => exact wpAny_matchEach_nil q
    | cons u us => simp at hl
  | @cons x i pos ps is hi hx r hf ih =>
    intro us s Q hl q
    cases us with
    | nil => simp at hl
    | cons u us =>
      refine wpAny_matchEach_cons (wpAny_matchPattern_Capture ?_) rfl
      exact ih us s _ (by simpa using hl) q
theorem caps_bind {X : Cx} {ps : List Pattern} {is : List Nat} (hN : X.N.Nodup) (c : Caps X ps is) : ∀ (pins : List (Addr × Obj)) (vs : List V) (us : List Value) (s : Shared) (σ : St) (H : Hp) (Q : Unit → Shared → Prop), us.length = ps.length → Inv X pins σ H s → Vals vs us → (∀ s', Inv X pins (setAll is vs σ) H s' → Q () s') →
    wpAny (model X.prog X.w) X.A (assignInOrder ((bsOf ps us).map fun (n, _) => bindName X.env n) ((bsOf ps us).map (·.2))) Q X.xe s := by
  induction c with
  | nil =>
    intro pins vs us s σ H Q hl I rv q
    cases us with
    | nil =>
      refine wpAny_assignInOrder_none (q s ?_)
      cases vs <;> exact I
    | cons u us => simp at hl
  | @cons x i pos ps is hi hx r hf ih =>
    intro pins vs us s σ H Q hl I rv q
    cases us with
    | nil => simp at hl
    | cons u us =>
      cases rv with
      | @cons v _ vs _ r1 rv =>
        refine wpAny_assignInOrder_more (wpAny_bindName (store_ok I hN hi hx r1 (fun s2 I2 => ?_) hf))
        exact ih pins vs us s2 _ H Q (by simpa using hl) I2 rv q
def tWords (c : Str) (is : List Nat) (body : TS) (rest : V → TS) : V → TS := fun v D σ H => ∃ (a : Addr) (ws : List Str), v = .ref a ∧ H a = some (.lst (ws.map V.str)) ∧ ws.length < 2 ^ 62 ∧
  ((ws.length = is.length + 1 ∧ ws.head? = some c) → body D (setAll is (ws.tail.map V.str) σ) H) ∧ (¬ (ws.length = is.length + 1 ∧ ws.head? = some c) → rest v D σ H)
theorem pm_words {X : Cx} {c : Str} {e : Expr} {p0 pos : Pos} {ps : List Pattern} {is : List Nat} {body : List Stmt} {rest : List MatchCase} {tb : TS} {tr : V → TS} (hc : X.calm = true) (hN : X.N.Nodup) (he : PE X e (tC (.str c))) (cp : Caps X ps is) (hb : PSs X body tb) (hr : PMs X rest tr)
    (hstar : (Pattern.MatchValue e p0 :: ps).findIdx? (·.isStar) = none := by rfl)
    (hwild : ((Pattern.MatchValue e p0 :: ps).all fun p => p.isWildcard || (p.isStar && p.names.isEmpty)) = false := by rfl) :
    PMs X (⟨.MatchSequence (.MatchValue e p0 :: ps) pos, none, body⟩ :: rest) (tWords c is tb tr) := by
  refine ⟨fun first pins s σ H D v u I r h => ?_⟩
  obtain ⟨a, ws, rfl, ha, hl, hy, hn⟩ := h
  cases r
  obtain ⟨its, rv, pl, hz⟩ := I.list (.inl (.inl ha))
  have lw : its.length = ws.length := by rw [← rv.length, List.length_map]
  have hfit : ((its.toArray).size : Int) < 2 ^ 63 := by
    have : (its.toArray).size = its.length := by simp
    omega
  by_cases hlen : ws.length = is.length + 1
  · refine wpAny_matchCases_cons (matchSeq_list_hit pl.isList hfit (by simp [lw, hlen, cp.len]) ?_ hstar hwild)
    have hsz : (Pattern.MatchValue e p0 :: ps).length = its.toArray.size := by simp [lw, hlen, cp.len]
    have I0 : Inv X pins σ H { s with toks := s.toks + 1 + 1 } := (I.tok _)
    rw [hsz]
    refine PySem.W.kun_itemsOf (I.ok.hd hc) pl.isList fun h' hx => ?_
    have I1 : Inv X pins σ H { s with heap := h', toks := s.toks + 1 + 1 } := I.kept (t' := s.toks + 1 + 1) fun b o e => hx b o (Nat.ne_of_lt (Heap.lt_size e)) e
    cases ws with
    | nil => simp at hlen
    | cons w ws =>
      cases its with
      | nil => simp at lw
      | cons u us =>
        cases rv with
        | cons r1 rv =>
          have ul : us.length = ps.length := by
            have : us.length = ws.length := by simpa using lw
            have : ws.length = is.length := by simpa using hlen
            rw [cp.len]; omega
          refine wpAny_matchEach_cons (wpAny_matchPattern_Value ?_) rfl
          refine thn (he.run pins _ σ H (fun y H1 => y = .str c ∧ H1 = H) I1 ⟨rfl, rfl⟩) fun x s2 ⟨y, H1, I2, r2, ey, eH⟩ => ?_
          subst ey
          subst eH
          refine thn (op_eq pins s2 σ H1 (.str w) (.str c) u x (fun z H2 => z = .bl (decide (V.str w = V.str c)) ∧ H2 = H1) I2 r1 r2 ⟨rfl, rfl, rfl⟩) fun cv s3 ⟨z, H2, I3, r3, ez, eH⟩ => ?_
          subst ez
          subst eH
          cases r3
          refine wpAny_truthy_bool ?_
          by_cases hw : w = c
          · subst hw
            rw [decide_eq_true rfl, if_pos rfl]
            refine caps_each cp us s3 _ ul ?_
            show wpAny _ _ (assignInOrder (([] ++ bsOf ps us).map _) (([] ++ bsOf ps us).map _)) _ _ _
            rw [List.nil_append]
            exact caps_bind hN cp pins _ us s3 σ H2 _ ul I3 rv fun s4 I4 => hb.run pins s4 _ H2 D I4 (hy ⟨hlen, rfl⟩)
          · rw [decide_eq_false (fun z => hw (V.str.inj z)), if_neg (by decide)]
            exact hr.run false pins s3 σ H2 D (.ref a) (.ref a) I3 (by constructor) (hn fun z => hw (Option.some.inj z.2))
  · refine wpAny_matchCases_cons (matchSeq_list_miss pl.isList hfit (by simp [lw, cp.len]; exact hlen) ?_ hstar hwild)
    exact hr.run false pins _ σ H D (.ref a) (.ref a) (I.tok _) (by constructor) (hn fun z => hlen z.1)
end L2
namespace Rep
open PySem L2 L2H RepHot
/-! which refusal it is, by the law's own words -/
def kinWords : List Str := ["BadLength", "BadStretch", "NoPlace", "NoNumber", "BadLetter", "Full", "InUse", "NothingLeft", "BadPage", "odd"]
def kinWord (j : Nat) : Str := kinWords.getD j ""
/-- the class D is the one at place j of the nine -/
structure KinD (K : PySem.W.Frag) (cs : List Addr) (D : Addr) (j : Nat) : Prop where
  ex : ExcC K D
  lt : j < 9
  own : ∀ i c, cs[i]? = some c → PySem.W.kitOne K (.ref D) (.ref c) = some (decide (i = j))
  val : PySem.W.kitOne K (.ref D) (.type "ValueError") = some true
structure KinM (mg : Str → Option Value) (cs : List Addr) : Prop where
  ln : cs.length = 9
  at_ : ∀ i c, cs[i]? = some c → mg (kinWord i) = some (.ref c)
def spKin (K : PySem.W.Frag) (cs : List Addr) : Addr → Value → Option Addr → Sp := fun a c d vs H Q _ => ∃ (D : Addr) (j : Nat), c = .ref D ∧ d = none ∧ KinD K cs D j ∧ vs = [.ref a] ∧ ∀ H', Same H H' → Q (.str (kinWord j)) H'
abbrev nKin : List Str := ["_law_e", "_law_found", "_law_words", "_law_word", "_law_kin_here"]
theorem scKin : FnScope nKin ["_law_e"] (defScope s_law_kin) := ⟨rfl, rfl, rfl, by decide +kernel, rfl, by decide +kernel, by decide +kernel⟩
def kinFlags (j : Nat) : List Bool := (List.range 10).map fun i => decide (i = j)
section
variable {P : Program} {w : World} {K : PySem.W.Frag} {mg : Str → Option Value} {base : Heap}
theorem ok_kin {f c0 c1 c2 c3 c4 c5 c6 c7 c8 : Addr} {fd : FuncData} {k : Nat} (F : Fun K "_law_kin" "_law_kin" s_law_kin f fd) (M : KinM mg [c0, c1, c2, c3, c4, c5, c6, c7, c8]) (mi : mg "isinstance" = none) (mV : mg "ValueError" = none) (mz : mg "zip" = none) :
    FnP P w K mg base CX0 (k + 1) f fd ["_law_e"] (spKin K [c0, c1, c2, c3, c4, c5, c6, c7, c8]) := by
  refine okP F scKin (fun a c d vs H Q E h => ?_) (fun cdv A outer s H vs Q E p c d hot hz hr h => ?_)
  · obtain ⟨D, j, _, _, _, rfl, _⟩ := h; rfl
  obtain ⟨D, j, rfl, rfl, kd, rfl, q⟩ := h
  have g0 : mg "BadLength" = some (.ref c0) := M.at_ 0 c0 rfl
  have g1 : mg "BadStretch" = some (.ref c1) := M.at_ 1 c1 rfl
  have g2 : mg "NoPlace" = some (.ref c2) := M.at_ 2 c2 rfl
  have g3 : mg "NoNumber" = some (.ref c3) := M.at_ 3 c3 rfl
  have g4 : mg "BadLetter" = some (.ref c4) := M.at_ 4 c4 rfl
  have g5 : mg "Full" = some (.ref c5) := M.at_ 5 c5 rfl
  have g6 : mg "InUse" = some (.ref c6) := M.at_ 6 c6 rfl
  have g7 : mg "NothingLeft" = some (.ref c7) := M.at_ 7 c7 rfl
  have g8 : mg "BadPage" = some (.ref c8) := M.at_ 8 c8 rfl
  have hf : ∃ vs, p.2.data = .fields vs := by obtain ⟨_, vs, e, _⟩ := hot; exact ⟨vs, e⟩
  have hp : (p.1, p.2) ∈ [p] := List.mem_singleton.mpr rfl
  refine ⟨_, (pss_cons (ps_set (i := 1) scKin.nd rfl (.inl rfl) (pe_lst (pa_cons (pe_callB (call_isP hp kd.ex hz hf) (by rfl) mi PyProof.Rows.boot_isinstance (pa_cons (pv 0) (pa_cons (pe_glob (v := .ref c0) (by rfl) g0 rfl) pa_nil))) (pa_cons (pe_callB (call_isP hp kd.ex hz hf) (by rfl) mi PyProof.Rows.boot_isinstance (pa_cons (pv 0) (pa_cons (pe_glob (v := .ref c1) (by rfl) g1 rfl) pa_nil))) (pa_cons (pe_callB (call_isP hp kd.ex hz hf) (by rfl) mi PyProof.Rows.boot_isinstance (pa_cons (pv 0) (pa_cons (pe_glob (v := .ref c2) (by rfl) g2 rfl) pa_nil))) (pa_cons (pe_callB (call_isP hp kd.ex hz hf) (by rfl) mi PyProof.Rows.boot_isinstance (pa_cons (pv 0) (pa_cons (pe_glob (v := .ref c3) (by rfl) g3 rfl) pa_nil))) pa_nil))))))
    (pss_cons (ps_set (i := 1) scKin.nd rfl (.inl rfl) (pe_op op_cat (pv 1) (pe_lst (pa_cons (pe_callB (call_isP hp kd.ex hz hf) (by rfl) mi PyProof.Rows.boot_isinstance (pa_cons (pv 0) (pa_cons (pe_glob (v := .ref c4) (by rfl) g4 rfl) pa_nil))) (pa_cons (pe_callB (call_isP hp kd.ex hz hf) (by rfl) mi PyProof.Rows.boot_isinstance (pa_cons (pv 0) (pa_cons (pe_glob (v := .ref c5) (by rfl) g5 rfl) pa_nil))) (pa_cons (pe_callB (call_isP hp kd.ex hz hf) (by rfl) mi PyProof.Rows.boot_isinstance (pa_cons (pv 0) (pa_cons (pe_glob (v := .ref c6) (by rfl) g6 rfl) pa_nil))) pa_nil))))))
    (pss_cons (ps_set (i := 1) scKin.nd rfl (.inl rfl) (pe_op op_cat (pv 1) (pe_lst (pa_cons (pe_callB (call_isP hp kd.ex hz hf) (by rfl) mi PyProof.Rows.boot_isinstance (pa_cons (pv 0) (pa_cons (pe_glob (v := .ref c7) (by rfl) g7 rfl) pa_nil))) (pa_cons (pe_callB (call_isP hp kd.ex hz hf) (by rfl) mi PyProof.Rows.boot_isinstance (pa_cons (pv 0) (pa_cons (pe_glob (v := .ref c8) (by rfl) g8 rfl) pa_nil))) (pa_cons (pe_not (pe_callB (call_isP hp kd.ex hz hf) (by rfl) mi PyProof.Rows.boot_isinstance (pa_cons (pv 0) (pa_cons (pe_bltn (v := .ty "ValueError") (by rfl) mV (by decide +kernel) rfl) pa_nil)))) pa_nil))))))
    (pss_cons (ps_set (i := 2) scKin.nd rfl (.inl rfl) (pe_lst (pa_cons pe_str (pa_cons pe_str (pa_cons pe_str (pa_cons pe_str (pa_cons pe_str (pa_cons pe_str (pa_cons pe_str (pa_cons pe_str (pa_cons pe_str pa_nil)))))))))))
    (pss_one (ps_ret (pe_join pe_str (pe_lcP (own := [("_law_word", 3), ("_law_kin_here", 4)]) (g := gTup K 2 (gCons (gName 3) (gCons (gName 4) gNil))) (tt := tTest (tVar 4)) (te := tVar 3) (p := p) hot hp scKin.nd (pi_zipP (by rfl) mz (pa_cons (pe_op op_cat (pv 2) (pe_lst (pa_cons pe_str pa_nil))) (pa_cons (pv 1) pa_nil))) (blkOk_by (N := nKin) (sc := defScope s_law_kin) (by decide +kernel)) (fun _ _ _ _ _ => pg_tupP ⟨p, hot, List.mem_singleton.mpr rfl⟩ (pgs_cons (pg_name (i := 3) scKin.nd rfl (.inl rfl)) (pgs_cons (pg_name (i := 4) scKin.nd rfl (.inl rfl)) pgs_nil))) (fun _ _ _ _ _ => pts_one (pt_val (pv 4))) (fun _ _ _ _ _ => pv 3))))))))), ?_⟩
  have o0 := kd.own 0 c0 rfl
  have o1 := kd.own 1 c1 rfl
  have o2 := kd.own 2 c2 rfl
  have o3 := kd.own 3 c3 rfl
  have o4 := kd.own 4 c4 rfl
  have o5 := kd.own 5 c5 rfl
  have o6 := kd.own 6 c6 rfl
  have o7 := kd.own 7 c7 rfl
  have o8 := kd.own 8 c8 rfl
  refine ⟨.ref p.1, rfl, .ref c0, _, _, rfl, (fun u e => e), o0, .ref p.1, rfl, .ref c1, _, _, rfl, (fun u e => e), o1, .ref p.1, rfl, .ref c2, _, _, rfl, (fun u e => e), o2, .ref p.1, rfl, .ref c3, _, _, rfl, (fun u e => e), o3, (by show 4 ≤ sizeLine; decide), fun l1 n1 => ?_⟩
  have s1 : Same H (upd H l1 (.lst [.bl (decide (0 = j)), .bl (decide (1 = j)), .bl (decide (2 = j)), .bl (decide (3 = j))])) := same_upd n1
  have z1 : (upd H l1 (.lst [.bl (decide (0 = j)), .bl (decide (1 = j)), .bl (decide (2 = j)), .bl (decide (3 = j))])) l1 = some (.lst [.bl (decide (0 = j)), .bl (decide (1 = j)), .bl (decide (2 = j)), .bl (decide (3 = j))]) := upd_same
  generalize upd H l1 (.lst [.bl (decide (0 = j)), .bl (decide (1 = j)), .bl (decide (2 = j)), .bl (decide (3 = j))]) = H1 at s1 z1 ⊢
  refine ⟨.ref l1, rfl, .ref p.1, rfl, .ref c4, _, _, rfl, (fun u e => e), o4, .ref p.1, rfl, .ref c5, _, _, rfl, (fun u e => e), o5, .ref p.1, rfl, .ref c6, _, _, rfl, (fun u e => e), o6, (by show 3 ≤ sizeLine; decide), fun l2 n2 => ?_⟩
  have s2 : Same H1 (upd H1 l2 (.lst [.bl (decide (4 = j)), .bl (decide (5 = j)), .bl (decide (6 = j))])) := same_upd n2
  have z2 : (upd H1 l2 (.lst [.bl (decide (4 = j)), .bl (decide (5 = j)), .bl (decide (6 = j))])) l2 = some (.lst [.bl (decide (4 = j)), .bl (decide (5 = j)), .bl (decide (6 = j))]) := upd_same
  generalize upd H1 l2 (.lst [.bl (decide (4 = j)), .bl (decide (5 = j)), .bl (decide (6 = j))]) = H2 at s2 z2 ⊢
  refine ⟨l1, l2, _, _, rfl, rfl, s2 _ _ z1, z2, (by show 4 + 3 ≤ sizeLine; decide), fun l3 n3 => ?_⟩
  have s3 := same_upd (o := .lst ([.bl (decide (0 = j)), .bl (decide (1 = j)), .bl (decide (2 = j)), .bl (decide (3 = j))] ++ [.bl (decide (4 = j)), .bl (decide (5 = j)), .bl (decide (6 = j))])) n3
  have z3 : (upd H2 l3 (.lst ([.bl (decide (0 = j)), .bl (decide (1 = j)), .bl (decide (2 = j)), .bl (decide (3 = j))] ++ [.bl (decide (4 = j)), .bl (decide (5 = j)), .bl (decide (6 = j))]))) l3 = some (.lst ([.bl (decide (0 = j)), .bl (decide (1 = j)), .bl (decide (2 = j)), .bl (decide (3 = j))] ++ [.bl (decide (4 = j)), .bl (decide (5 = j)), .bl (decide (6 = j))])) := upd_same
  generalize upd H2 l3 (.lst ([.bl (decide (0 = j)), .bl (decide (1 = j)), .bl (decide (2 = j)), .bl (decide (3 = j))] ++ [.bl (decide (4 = j)), .bl (decide (5 = j)), .bl (decide (6 = j))])) = H3 at s3 z3 ⊢
  refine ⟨.ref l3, rfl, .ref p.1, rfl, .ref c7, _, _, rfl, (fun u e => e), o7, .ref p.1, rfl, .ref c8, _, _, rfl, (fun u e => e), o8, .ref p.1, rfl, .ty "ValueError", .type "ValueError", true, rfl, (fun u e => e), kd.val, _, rfl, (by show 3 ≤ sizeLine; decide), fun l4 n4 => ?_⟩
  have s4 : Same H3 (upd H3 l4 (.lst [.bl (decide (7 = j)), .bl (decide (8 = j)), .bl (!true)])) := same_upd n4
  have z4 : (upd H3 l4 (.lst [.bl (decide (7 = j)), .bl (decide (8 = j)), .bl (!true)])) l4 = some (.lst [.bl (decide (7 = j)), .bl (decide (8 = j)), .bl (!true)]) := upd_same
  generalize upd H3 l4 (.lst [.bl (decide (7 = j)), .bl (decide (8 = j)), .bl (!true)]) = H4 at s4 z4 ⊢
  refine ⟨l3, l4, _, _, rfl, rfl, s4 _ _ z3, z4, (by show 7 + 3 ≤ sizeLine; decide), fun l5 n5 => ?_⟩
  have ef : ([.bl (decide (0 = j)), .bl (decide (1 = j)), .bl (decide (2 = j)), .bl (decide (3 = j))] ++ [.bl (decide (4 = j)), .bl (decide (5 = j)), .bl (decide (6 = j))]) ++ [.bl (decide (7 = j)), .bl (decide (8 = j)), .bl (!true)] = (kinFlags j).map V.bl := by
    have h9 : decide (9 = j) = false := decide_eq_false (by have := kd.lt; omega)
    show _ = [V.bl (decide (0 = j)), V.bl (decide (1 = j)), V.bl (decide (2 = j)), V.bl (decide (3 = j)), V.bl (decide (4 = j)), V.bl (decide (5 = j)), V.bl (decide (6 = j)), V.bl (decide (7 = j)), V.bl (decide (8 = j)), V.bl (decide (9 = j))]
    rw [h9]; rfl
  rw [ef]
  have s5 := same_upd (o := .lst ((kinFlags j).map V.bl)) n5
  have z5 : (upd H4 l5 (.lst ((kinFlags j).map V.bl))) l5 = some (.lst ((kinFlags j).map V.bl)) := upd_same
  generalize upd H4 l5 (.lst ((kinFlags j).map V.bl)) = H5 at s5 z5 ⊢
  refine ⟨(by show 9 ≤ sizeLine; decide), fun l6 n6 => ?_⟩
  generalize e6 : upd H5 l6 _ = H6
  have s6 : Same H5 H6 := by rw [← e6]; exact same_upd n6
  have z6 : H6 l6 = some (.lst ((kinWords.take 9).map V.str)) := by rw [← e6]; exact upd_same
  refine ⟨⟨_, rfl⟩, .ref l6, rfl, (by show 1 ≤ sizeLine; decide), fun l7 n7 => ?_⟩
  generalize e7 : upd H6 l7 _ = H7
  have s7 : Same H6 H7 := by rw [← e7]; exact same_upd n7
  have z7 : H7 l7 = some (.lst [V.str "odd"]) := by rw [← e7]; exact upd_same
  refine ⟨l6, l7, _, _, rfl, rfl, s7 _ _ z6, z7, (by show 9 + 1 ≤ sizeLine; decide), fun l8 n8 => ?_⟩
  generalize e8 : upd H7 l8 _ = H8
  have s8 : Same H7 H8 := by rw [← e8]; exact same_upd n8
  have z8 : H8 l8 = some (.lst (kinWords.map V.str)) := by rw [← e8]; exact upd_same
  have w5 : H8 l5 = some (.lst ((kinFlags j).map V.bl)) := s8 _ _ (s7 _ _ (s6 _ _ z5))
  have sAll : Same H H8 := s1.trans (s2.trans (s3.trans (s4.trans (s5.trans (s6.trans (s7.trans s8))))))
  refine ⟨.ref l5, rfl, l8, l5, kinWords.map V.str, (kinFlags j).map V.bl, rfl, .inl (.inl z8), .inl (.inl w5), fun D nD => ?_⟩
  refine lc_it (walk_zip (K := K) (a := l8) (b := l5) (xs := kinWords.map V.str) (ys := (kinFlags j).map V.bl) (n := 10) rfl) (fun i H9 => Same H8 H9 ∧ H9 D = some (.lst ((if j < i then [kinWord j] else []).map V.str))) ⟨same_upd nD, ?_⟩ (fun i H9 _ hP => ⟨.inl (.inl (hP.1 _ _ z8)), .inl (.inl (hP.1 _ _ w5))⟩) (fun i v H9 HA hi hP hy => ?_) (fun H9 hP => ?_)
  · rw [if_neg (Nat.not_lt_zero j)]; exact upd_same
  · obtain ⟨sm, eD⟩ := hP
    obtain ⟨t, u1, u2, rfl, nt, rfl, g1, g2⟩ := hy
    have g1 : (kinWords.map V.str)[i]? = some u1 := g1
    have g2 : ((kinFlags j).map V.bl)[i]? = some u2 := g2
    have e1 : u1 = .str (kinWord i) := by
      rw [List.getElem?_map] at g1
      have hi : i < kinWords.length := hi
      rw [List.getElem?_eq_getElem hi] at g1
      cases g1
      show V.str kinWords[i] = V.str (kinWords.getD i "")
      rw [List.getD_eq_getElem?_getD, List.getElem?_eq_getElem hi]; rfl
    have e2 : u2 = .bl (decide (i = j)) := by
      unfold kinFlags at g2
      rw [List.getElem?_map, List.getElem?_map, List.getElem?_range hi] at g2
      cases g2; rfl
    subst e1 e2
    have sA := same_upd (o := .tup [.str (kinWord i), .bl (decide (i = j))]) nt
    refine ⟨t, [.str (kinWord i), .bl (decide (i = j))], rfl, .inl (.inl upd_same), rfl, _, _, rfl, _, _, rfl, rfl, rfl, ?_⟩
    refine ⟨.bl (decide (i = j)), rfl, decide (i = j), rfl, ite2 (fun c => ?_) (fun c => ?_)⟩
    · have c : i = j := of_decide_eq_true c
      subst c
      rw [if_neg (Nat.lt_irrefl i)] at eD
      refine ⟨.str (kinWord i), rfl, [], sA _ _ eD, (by show 0 < sizeLine; decide), same_over (sm.trans sA) nD, ?_⟩
      rw [if_pos (Nat.lt_succ_self i)]; exact upd_same
    · have c : ¬ i = j := fun z => c (decide_eq_true z)
      refine ⟨sm.trans sA, ?_⟩
      rw [show (if j < i + 1 then [kinWord j] else []) = (if j < i then [kinWord j] else []) from by
        by_cases h : j < i
        · rw [if_pos h, if_pos (by omega)]
        · rw [if_neg h, if_neg (by omega)]]
      exact sA _ _ eD
  · obtain ⟨sm, eD⟩ := hP
    rw [if_pos (by have := kd.lt; omega)] at eD
    refine ⟨"", D, [kinWord j], rfl, rfl, .inl (.inl (.inl eD)), ?_, ?_⟩
    · have hl : ∀ j < 9, (([kinWord j] : List Str).map (·.length)).sum + ([kinWord j] : List Str).length * (("" : Str).length) ≤ 16777216 := by decide +kernel
      exact hl j kd.lt
    · exact q H9 (sAll.trans sm)
end
end Rep
namespace Rep
open PySem L2
/-! lists of things that lie as tuples -/
structure LL {α : Type} (D : Hp → V → α → Prop) (H : Hp) (vs : List V) (as : List α) : Prop where
  len : vs.length = as.length
  at_ : ∀ (i : Nat) (v : V) (a : α), vs[i]? = some v → as[i]? = some a → D H v a
section
variable {α : Type} {D : Hp → V → α → Prop} {H H' : Hp} {vs ws : List V} {as bs : List α}
theorem LL.nil : LL D H [] ([] : List α) := ⟨rfl, fun i v a h => by simp at h⟩
theorem LL.get (h : LL D H vs as) {i : Nat} {v : V} (e : vs[i]? = some v) : ∃ a, as[i]? = some a ∧ D H v a := by
  have hi : i < as.length := by rw [← h.len]; exact (List.getElem?_eq_some_iff.mp e).1
  exact ⟨as[i], List.getElem?_eq_getElem hi, h.at_ i v _ e (List.getElem?_eq_getElem hi)⟩
theorem LL.get' (h : LL D H vs as) {i : Nat} {a : α} (e : as[i]? = some a) : ∃ v, vs[i]? = some v ∧ D H v a := by
  have hi : i < vs.length := by rw [h.len]; exact (List.getElem?_eq_some_iff.mp e).1
  exact ⟨vs[i], List.getElem?_eq_getElem hi, h.at_ i _ a (List.getElem?_eq_getElem hi) e⟩
theorem LL.mem (h : LL D H vs as) {v : V} (e : v ∈ vs) : ∃ a ∈ as, D H v a := by
  obtain ⟨i, hi⟩ := List.mem_iff_getElem?.mp e
  obtain ⟨a, ha, d⟩ := h.get hi
  exact ⟨a, List.mem_of_getElem? ha, d⟩
theorem LL.imp (h : LL D H vs as) (s : ∀ v a, D H v a → D H' v a) : LL D H' vs as := ⟨h.len, fun i v a h1 h2 => s v a (h.at_ i v a h1 h2)⟩
theorem LL.app (h : LL D H vs as) (k : LL D H ws bs) : LL D H (vs ++ ws) (as ++ bs) := by
  refine ⟨by rw [List.length_append, List.length_append, h.len, k.len], fun i v a h1 h2 => ?_⟩
  by_cases c : i < vs.length
  · rw [List.getElem?_append_left c] at h1
    rw [List.getElem?_append_left (by rw [← h.len]; exact c)] at h2
    exact h.at_ i v a h1 h2
  · rw [List.getElem?_append_right (by omega)] at h1
    rw [List.getElem?_append_right (by rw [← h.len]; omega), ← h.len] at h2
    exact k.at_ _ v a h1 h2
theorem LL.one {v : V} {a : α} (h : D H v a) : LL D H [v] [a] := ⟨rfl, fun i w b h1 h2 => by
  match i, h1, h2 with
  | 0, h1, h2 => cases h1; cases h2; exact h
  | i + 1, h1, _ => simp at h1⟩
theorem LL.snoc (h : LL D H vs as) {v : V} {a : α} (k : D H v a) : LL D H (vs ++ [v]) (as ++ [a]) := h.app (.one k)
theorem LL.take (h : LL D H vs as) (n : Nat) : LL D H (vs.take n) (as.take n) := by
  refine ⟨by rw [List.length_take, List.length_take, h.len], fun i v a h1 h2 => ?_⟩
  rw [List.getElem?_take] at h1 h2
  by_cases c : i < n
  · rw [if_pos c] at h1 h2; exact h.at_ i v a h1 h2
  · rw [if_neg c] at h1; cases h1
theorem LL.erase (h : LL D H vs as) (k : Nat) : LL D H (vs.eraseIdx k) (as.eraseIdx k) := by
  refine ⟨by rw [List.length_eraseIdx, List.length_eraseIdx, h.len], fun i v a h1 h2 => ?_⟩
  rw [List.getElem?_eraseIdx] at h1 h2
  by_cases c : i < k
  · rw [if_pos c] at h1 h2; exact h.at_ i v a h1 h2
  · rw [if_neg c] at h1 h2; exact h.at_ _ v a h1 h2
theorem LL.init (h : LL D H vs as) : LL D H vs.dropLast as.dropLast := by
  rw [List.dropLast_eq_take, List.dropLast_eq_take, ← h.len]
  exact h.take _
theorem LL.rev (h : LL D H vs as) : LL D H vs.reverse as.reverse := by
  refine ⟨by rw [List.length_reverse, List.length_reverse, h.len], fun i v a h1 h2 => ?_⟩
  have hi : i < vs.length := by
    have := (List.getElem?_eq_some_iff.mp h1).1
    rw [List.length_reverse] at this
    exact this
  rw [List.getElem?_reverse hi] at h1
  rw [List.getElem?_reverse (by rw [← h.len]; exact hi), ← h.len] at h2
  exact h.at_ _ v a h1 h2
end
def IsSy (H : Hp) (v : V) (s : Sy) : Prop := ∃ t, v = .ref t ∧ H t = some (.tup [.int s.lo, .int s.hi, .int s.n, .bl s.t])
theorem IsSy.ts {H H' : Hp} (h : TS H H') {v : V} {s : Sy} (k : IsSy H v s) : IsSy H' v s := by
  obtain ⟨t, e, ht⟩ := k
  exact ⟨t, e, h _ _ ht⟩
abbrev SL (H : Hp) (vs : List V) (ss : List Sy) : Prop := LL IsSy H vs ss
theorem SL.ts {H H' : Hp} (h : TS H H') {vs : List V} {ss : List Sy} (k : SL H vs ss) : SL H' vs ss := k.imp fun _ _ z => z.ts h
theorem IsSy.of {H : Hp} {t : Addr} {s : Sy} (h : H t = some (.tup [.int s.lo, .int s.hi, .int s.n, .bl s.t])) : IsSy H (.ref t) s := ⟨t, rfl, h⟩
def q4 (s : Sy) : Int × Int × Int × Bool := (s.lo, s.hi, s.n, s.t)
def ofQ (q : Int × Int × Int × Bool) : Sy := ⟨q.1, q.2.1, q.2.2.1, q.2.2.2⟩
/-- all but tables stay -/
abbrev EX (H H' : Hp) : Prop := LamX.ExtN H H'
theorem EX.of {H H' : Hp} (h : Same H H') : EX H H' := fun b o e _ => h b o e
theorem EX.ts {H H' : Hp} (h : EX H H') : TS H H' := fun t xs e => h t _ e (fun ps z => by cases z)
theorem EX.lst {H H' : Hp} (h : EX H H') {a : Addr} {xs : List V} (e : H a = some (.lst xs)) : H' a = some (.lst xs) := h a _ e (fun ps z => by cases z)
/-! kept_form, kept_forms -/
def oS (H : Hp) (o : Option Sy) (v : V) : Prop := match o with
  | none => v = .non
  | some s => IsSy H v s
theorem oS.ts {H H' : Hp} (h : TS H H') {o : Option Sy} {v : V} (k : oS H o v) : oS H' o v := by
  cases o with
  | none => exact k
  | some s => exact IsSy.ts h k
def Good (e : Int) (s : Sy) : Prop := 0 ≤ s.lo ∧ 0 ≤ s.hi ∧ 1 ≤ s.n ∧ s.lo + s.n ≤ e ∧ s.hi + s.n ≤ e
end Rep
namespace Rep
open PySem L2
/-! the draws -/
def mixA (s : Int) : Int := (s * 48271 + 11) % 2147483647
def mixB (s : Int) : Int := (mixA s * mixA s + 40692 * mixA s + s) % 2147483399
def mixF (s : Int) : Int := (mixB s * mixB s + 69621 * mixB s + mixA s) % 2147483563
theorem mixA_lt (s : Int) : -(2 ^ 64) < mixA s ∧ mixA s < 2 ^ 64 := by
  unfold mixA; omega
theorem mixB_lt (s : Int) : -(2 ^ 64) < mixB s ∧ mixB s < 2 ^ 64 := by
  unfold mixB; generalize mixA s * mixA s + 40692 * mixA s + s = z; omega
def spMix : Sp := fun vs H Q _ => ∃ s : Int, vs = [.int s] ∧ Q (.int (mixF s)) H
theorem scMix : FnScope ["_law_seed", "_law_one", "_law_two"] ["_law_seed"] (defScope sMix) := ⟨rfl, rfl, rfl, by decide +kernel, rfl, by decide +kernel, by decide +kernel⟩
section
variable {P : Program} {w : World} {K : PySem.W.Frag} {mg : Str → Option Value} {base : Heap}
theorem ok_mix {f : Addr} {fd : FuncData} {k : Nat} (F : Fun K "_law_mix" "_law_mix" sMix f fd) : FnOk P w K mg base CX0 (k + 1) f fd ["_law_seed"] spMix := by
  refine F.ok scMix (fun vs H Q E h => ?_) (fun cdv A outer s H vs Q E hr h => ?_)
  · obtain ⟨s, rfl, _⟩ := h; rfl
  obtain ⟨z, rfl, q⟩ := h
  refine ⟨_, pss_cons (ps_set (i := 1) scMix.nd rfl (.inl rfl) (pe_op op_mod (pe_op op_add (pe_op op_mul (pv 0) pe_int) pe_int) pe_int))
    (pss_cons (ps_set (i := 2) scMix.nd rfl (.inl rfl) (pe_op op_mod (pe_op op_add (pe_op op_add (pe_op op_mul (pv 1) (pv 1)) (pe_op op_mul pe_int (pv 1))) (pv 0)) pe_int))
    (pss_one (ps_ret (pe_op op_mod (pe_op op_add (pe_op op_add (pe_op op_mul (pv 2) (pv 2)) (pe_op op_mul pe_int (pv 2))) (pv 1)) pe_int)))), ?_⟩
  refine ⟨.int z, rfl, z, 48271, rfl, rfl, .inr ⟨by decide, by decide⟩, _, 11, rfl, rfl, _, 2147483647, rfl, rfl, (by show (0 : Int) < 2147483647; decide), ?_⟩
  refine ⟨.int (mixA z), rfl, .int (mixA z), rfl, _, _, rfl, rfl, .inl (mixA_lt z), .int (mixA z), rfl, 40692, mixA z, rfl, rfl, .inl ⟨by decide, by decide⟩, _, _, rfl, rfl, .int z, rfl, _, _, rfl, rfl, _, 2147483399, rfl, rfl, (by show (0 : Int) < 2147483399; decide), ?_⟩
  refine ⟨.int (mixB z), rfl, .int (mixB z), rfl, _, _, rfl, rfl, .inl (mixB_lt z), .int (mixB z), rfl, 69621, mixB z, rfl, rfl, .inl ⟨by decide, by decide⟩, _, _, rfl, rfl, .int (mixA z), rfl, _, _, rfl, rfl, _, 2147483563, rfl, rfl, (by show (0 : Int) < 2147483563; decide), ?_⟩
  exact q
end
/-! a raw number -/
def cellF (ns : List Int) (k : Int) : Int := if 0 < ns.length then ns.getD (k % (ns.length : Int)).toNat 0 + 9973 * (k / (ns.length : Int)) else 7 * k + 3
def foundF (c k : Int) : Nat → Int
  | 0 => 0
  | i + 1 => foundF c k i * 2147483563 + mixF (c + 1009 * k + 7919 * (i : Int))
def rawF (ns : List Int) (k : Int) : Int := if k < (ns.length : Int) ∧ 10 ^ 18 ≤ cellF ns k then cellF ns k - 10 ^ 18 else foundF (cellF ns k) k 40
def spRaw (K : PySem.W.Frag) : Sp := fun vs H Q _ => ∃ (a : Addr) (ns : List Int) (k : Int), vs = [.ref a, .int k] ∧ SqL K H a (ns.map V.int) ∧ ns.length ≤ 63 ∧ Q (.int (rawF ns k)) H
theorem scRaw : FnScope ["_law_script", "_law_k", "_law_cell", "_law_found", "_law_turn"] ["_law_script", "_law_k"] (defScope sRaw) := ⟨rfl, rfl, rfl, by decide +kernel, rfl, by decide +kernel, by decide +kernel⟩
theorem at_mod {ns : List Int} {k : Int} (h : 0 < ns.length) : atI (ns.map V.int) (k % ((ns.map V.int).length : Int)) = some (.int (ns.getD (k % (ns.length : Int)).toNat 0)) := by
  rw [List.length_map]
  have h0 : 0 ≤ k % (ns.length : Int) := Int.emod_nonneg _ (by omega)
  have h1 : k % (ns.length : Int) < (ns.length : Int) := Int.emod_lt_of_pos _ (by omega)
  have e : k % (ns.length : Int) = (((k % (ns.length : Int)).toNat : Nat) : Int) := by omega
  have hj : (k % (ns.length : Int)).toNat < ns.length := by omega
  have q : atI (ns.map V.int) (((k % (ns.length : Int)).toNat : Nat) : Int) = some (.int (ns.getD (k % (ns.length : Int)).toNat 0)) := by
    refine atI_nat ?_
    rw [List.getElem?_map, List.getElem?_eq_getElem hj, List.getD_eq_getElem?_getD, List.getElem?_eq_getElem hj]
    rfl
  rw [← e] at q
  exact q
section
variable {P : Program} {w : World} {K : PySem.W.Frag} {mg : Str → Option Value} {base : Heap}
theorem ok_raw {f fM : Addr} {fd fdM : FuncData} {k : Nat} (F : Fun K "_law_raw" "_law_raw" sRaw f fd) (FM : Fun K "_law_mix" "_law_mix" sMix fM fdM) (bM : Binds K fdM ["_law_seed"] []) (gM : mg "_law_mix" = some (.ref fM)) (ml : mg "len" = none) (mr : mg "range" = none) : FnOk P w K mg base CX0 (k + 2) f fd ["_law_script", "_law_k"] (spRaw K) := by
  have GM : FnOk P w K mg base CX0 (k + 1) fM fdM ["_law_seed"] spMix := ok_mix FM
  refine F.ok scRaw (fun vs H Q E h => ?_) (fun cdv A outer s H vs Q E hr h => ?_)
  · obtain ⟨a, ns, z, rfl, _⟩ := h; rfl
  obtain ⟨a, ns, z, rfl, hS, h63, q⟩ := h
  have hl : ((ns.map V.int).length : Int) = (ns.length : Int) := by rw [List.length_map]
  refine ⟨_, pss_cons (ps_set (i := 2) scRaw.nd rfl (.inl rfl) (pe_op op_add (pe_op op_mul pe_int (pv 1)) pe_int))
    (C8.pss_cut (ps_if (pt_cmpR op_gt (pe_callB call_len_seq (by rfl) ml PySem.boot_len (pa_cons (pv 0) pa_nil)) pe_int (nomark _))
      (pss_one (ps_set (i := 2) scRaw.nd rfl (.inl rfl) (pe_op op_add (pe_ix ix_list (pv 0) (pe_op op_mod (pv 1) (pe_callB call_len_seq (by rfl) ml PySem.boot_len (pa_cons (pv 0) pa_nil))) (fun _ _ => rfl))
        (pe_op op_mul pe_int (pe_op op_fdiv (pv 1) (pe_callB call_len_seq (by rfl) ml PySem.boot_len (pa_cons (pv 0) pa_nil))))))) pss_nil)
    (C8.pss_cut (ps_if (PW.pt (pw_and (pt_cmpR op_lt (pv 1) (pe_callB call_len_seq (by rfl) ml PySem.boot_len (pa_cons (pv 0) pa_nil)) (nomark _)) (pw_and1 (pt_cmpR op_ge (pv 2) (pe_op op_pow pe_int pe_int) (nomark _)))))
      (pss_one (ps_ret (pe_op op_sub (pv 2) (pe_op op_pow pe_int pe_int)))) pss_nil)
    (pss_cons (ps_set (i := 3) scRaw.nd rfl (.inl rfl) pe_int)
    (pss_cons (ps_for PassesOwn.never rfl (pi_range1 rfl mr (pa_cons pe_int pa_nil)) (pg_name (i := 4) scRaw.nd rfl (.inl rfl))
      (pss_one (ps_set (i := 3) scRaw.nd rfl (.inl rfl) (pe_op op_add (pe_op op_mul (pv 3) pe_int) (pe_call GM hr (by rfl) gM FM.kp bM .nil pass0 (pa_cons (pe_op op_add (pe_op op_add (pv 2) (pe_op op_mul pe_int (pv 1))) (pe_op op_mul pe_int (pv 4))) pa_nil))))))
    (pss_one (ps_ret (pv 3))))))), ?_⟩
  refine ⟨.int z, rfl, 7, z, rfl, rfl, .inl ⟨by decide, by decide⟩, _, 3, rfl, rfl, ?_⟩
  refine ⟨fun σ' H' => σ' = [some (.ref a), some (.int z), some (.int (cellF ns z)), none, none] ∧ H' = H, ?_, fun σ' H' hm => ?_⟩
  · refine ⟨.ref a, rfl, a, ns.map V.int, rfl, .inl hS, _, 0, rfl, rfl, _, rfl, ite2 (fun c => ?_) (fun c => ?_)⟩
    · have c' : (0 : Int) < ((ns.map V.int).length : Int) := of_decide_eq_true c
      rw [hl] at c'
      have c2 : 0 < ns.length := by omega
      refine ⟨.ref a, rfl, .int z, rfl, .ref a, rfl, a, ns.map V.int, rfl, .inl hS, _, _, rfl, rfl, (by show (0 : Int) < ((ns.map V.int).length : Int); omega), a, _, _, _, rfl, rfl, hS, at_mod c2, .int z, rfl, .ref a, rfl, a, ns.map V.int, rfl, .inl hS, _, _, rfl, rfl, ⟨by omega, by omega⟩, 9973, _, rfl, rfl, .inl ⟨by decide, by decide⟩, _, _, rfl, rfl, ?_, rfl⟩
      unfold cellF
      rw [if_pos c2, hl]
      rfl
    · have c' : ¬ (0 : Int) < ((ns.map V.int).length : Int) := fun e => c (decide_eq_true e)
      rw [hl] at c'
      refine ⟨?_, rfl⟩
      unfold cellF
      rw [if_neg (by omega)]
      rfl
  · obtain ⟨rfl, rfl⟩ := hm
    have p18 : CPow 10 18 := ⟨by decide, by decide, by decide⟩
    refine ⟨fun σ' H2 => σ' = [some (.ref a), some (.int z), some (.int (cellF ns z)), none, none] ∧ H2 = H' ∧ ¬ (z < (ns.length : Int) ∧ 10 ^ 18 ≤ cellF ns z), ?_, fun σ' H2 hm => ?_⟩
    · refine ⟨.int z, rfl, .ref a, rfl, a, ns.map V.int, rfl, .inl hS, _, _, rfl, rfl, _, rfl, ite2 (fun c => ?_) (fun c => ?_)⟩
      · have c1 : z < ((ns.map V.int).length : Int) := of_decide_eq_true c
        rw [hl] at c1
        refine ⟨.int (cellF ns z), rfl, 10, 18, rfl, rfl, p18, _, _, rfl, rfl, _, rfl, ite2 (fun c => ?_) (fun c => ?_)⟩
        · have c2 : (10 : Int) ^ 18 ≤ cellF ns z := of_decide_eq_true c
          refine ⟨.int (cellF ns z), rfl, 10, 18, rfl, rfl, p18, _, _, rfl, rfl, ?_⟩
          unfold rawF at q
          rw [if_pos ⟨c1, c2⟩] at q
          exact q
        · exact ⟨rfl, rfl, fun e => c (decide_eq_true e.2)⟩
      · refine iteF ⟨rfl, rfl, fun e => c (decide_eq_true ?_)⟩
        rw [hl]
        exact e.1
    · obtain ⟨rfl, rfl, hn⟩ := hm
      have er : foundF (cellF ns z) z 40 = rawF ns z := by
        unfold rawF; rw [if_neg hn]
      refine ⟨40, rfl, by decide, by decide, for_range (n := 40) (fun i σ H => ∃ y, σ = [some (.ref a), some (.int z), some (.int (cellF ns z)), some (.int (foundF (cellF ns z) z i)), y] ∧ H = H2) ⟨none, rfl, rfl⟩ (fun i σ H3 hi hP => ?_) (fun σ H3 hP => ?_)⟩
      · obtain ⟨y, rfl, rfl⟩ := hP
        refine ⟨.int (foundF (cellF ns z) z i), rfl, _, 2147483563, rfl, rfl, .inr ⟨by decide, by decide⟩, .int (cellF ns z), rfl, .int z, rfl, 1009, z, rfl, rfl, .inl ⟨by decide, by decide⟩, _, _, rfl, rfl, .int (0 + (i : Int)), rfl, 7919, _, rfl, rfl, .inl ⟨by decide, by decide⟩, _, _, rfl, rfl, _, rfl, _, _, rfl, rfl, ?_⟩
        refine ⟨some (.int (0 + (i : Int))), ?_, rfl⟩
        show [some (V.ref a), some (.int z), some (.int (cellF ns z)), some (.int (foundF (cellF ns z) z i * 2147483563 + mixF (cellF ns z + 1009 * z + 7919 * (0 + (i : Int))))), some (.int (0 + (i : Int)))] = _
        rw [Int.zero_add]
        rfl
      · obtain ⟨y, rfl, rfl⟩ := hP
        exact ⟨_, rfl, by rw [er]; exact q⟩
end
end Rep
namespace Rep
open PySem L2
/-! digits of a raw number -/
def digF : Int → List Int → List Int
  | _, [] => []
  | r, z :: zs => (r % z) :: digF (r / z) zs
def restF (r : Int) (zs : List Int) : Int := zs.foldl (· / ·) r
theorem digF_snoc : ∀ (r : Int) (a : List Int) (z : Int), digF r (a ++ [z]) = digF r a ++ [restF r a % z]
  | r, [], z => rfl
  | r, y :: a, z => by
    show (r % y) :: digF (r / y) (a ++ [z]) = (r % y) :: (digF (r / y) a ++ [restF (r / y) a % z])
    rw [digF_snoc (r / y) a z]
theorem restF_snoc (r : Int) (a : List Int) (z : Int) : restF r (a ++ [z]) = restF r a / z := by
  unfold restF; rw [List.foldl_append]; rfl
theorem digF_len : ∀ (r : Int) (zs : List Int), (digF r zs).length = zs.length
  | _, [] => rfl
  | r, z :: zs => by
    show (digF (r / z) zs).length + 1 = zs.length + 1
    rw [digF_len]
def spDig (K : PySem.W.Frag) : Sp := fun vs H Q _ => ∃ (a b : Addr) (ns zs : List Int) (k : Int), vs = [.ref a, .int k, .ref b] ∧ SqL K H a (ns.map V.int) ∧ ns.length ≤ 63 ∧ SqL K H b (zs.map V.int) ∧ zs.length ≤ 1000 ∧ (∀ z ∈ zs, 0 < z ∧ z.natAbs.log2 < 9000) ∧
  ∀ H' p, Same H H' → H p = none → H' p = some (.lst ((digF (rawF ns k) zs).map V.int)) → Q (.ref p) H'
theorem scDig : FnScope ["_law_script", "_law_k", "_law_sizes", "_law_rest", "_law_found", "_law_size"] ["_law_script", "_law_k", "_law_sizes"] (defScope sDig) := ⟨rfl, rfl, rfl, by decide +kernel, rfl, by decide +kernel, by decide +kernel⟩
section
variable {P : Program} {w : World} {K : PySem.W.Frag} {mg : Str → Option Value} {base : Heap}
theorem ok_dig {f fR : Addr} {fd fdR : FuncData} {k : Nat} (F : Fun K "_law_digits" "_law_digits" sDig f fd) (GR : FnOk P w K mg base CX0 k fR fdR ["_law_script", "_law_k"] (spRaw K)) (kR : PySem.W.keepIn K (.ref fR) = true) (bR : Binds K fdR ["_law_script", "_law_k"] []) (gR : mg "_law_raw" = some (.ref fR)) : FnOk P w K mg base CX0 (k + 1) f fd ["_law_script", "_law_k", "_law_sizes"] (spDig K) := by
  refine F.ok scDig (fun vs H Q E h => ?_) (fun cdv A outer s H vs Q E hr h => ?_)
  · obtain ⟨a, b, ns, zs, z, rfl, _⟩ := h; rfl
  obtain ⟨a, b, ns, zs, z, rfl, hS, h63, hZ, hz1, hz2, q⟩ := h
  refine ⟨_, pss_cons (ps_set (i := 3) scDig.nd rfl (.inl rfl) (pe_call GR hr (by rfl) gR kR bR .nil pass0 (pa_cons (pv 0) (pa_cons (pv 1) pa_nil))))
    (pss_cons (ps_set (i := 4) scDig.nd rfl (.inl rfl) (pe_lst pa_nil))
    (pss_cons (ps_for PassesOwn.never rfl (pi_list (pv 2)) (pg_name (i := 5) scDig.nd rfl (.inl rfl))
      (pss_cons (ps_expr (pe_bm PySem.F.plainAttrs_list PySem.F.slot_list_append PySem.F.type_list_append mt_append (pv 4) (pa_cons (pe_op op_mod (pv 3) (pv 5)) pa_nil)))
      (pss_one (ps_set (i := 3) scDig.nd rfl (.inl rfl) (pe_op op_fdivW (pv 3) (pv 5))))))
    (pss_one (ps_ret (pv 4))))), ?_⟩
  refine ⟨.ref a, rfl, .int z, rfl, a, ns, z, rfl, hS, h63, Nat.zero_le _, fun o no => ?_⟩
  have s1 : Same H (upd H o (.lst [])) := same_upd no
  refine ⟨.ref b, rfl, b, rfl, ⟨_, s1.seq hZ⟩, for_list (xs := zs.map V.int) (fun i σ H3 => ∃ y, σ = [some (.ref a), some (.int z), some (.ref b), some (.int (restF (rawF ns z) (zs.take i))), some (.ref o), y] ∧ Same H H3 ∧ H3 o = some (.lst ((digF (rawF ns z) (zs.take i)).map V.int))) ⟨none, rfl, s1, upd_same⟩ (fun i σ H3 _ hP => ?_) (fun i x σ H3 hx hP => ?_) (fun σ H3 hP => ?_)⟩
  · obtain ⟨y, _, sm, _⟩ := hP
    exact sm.seq hZ
  · obtain ⟨y, rfl, sm, eo⟩ := hP
    rw [List.getElem?_map] at hx
    obtain ⟨v, hv, rfl⟩ := Option.map_eq_some_iff.mp hx
    have hv2 := hz2 v (List.mem_of_getElem? hv)
    have hi : i < zs.length := (List.getElem?_eq_some_iff.mp hv).1
    have et : zs.take (i + 1) = zs.take i ++ [v] := by rw [List.take_add_one, hv]; rfl
    refine ⟨.ref o, rfl, .inl ⟨rfl, _, .inl (.inl eo)⟩, .int _, rfl, .int v, rfl, _, _, rfl, rfl, hv2.1, o, _, _, rfl, rfl, eo, ?_, ?_⟩
    · rw [List.length_map, digF_len, List.length_take]
      exact small1000 (by omega)
    · refine ⟨.int _, rfl, .int v, rfl, _, _, rfl, rfl, hv2, some (.int v), ?_, same_over sm no, ?_⟩
      · rw [et, restF_snoc]; rfl
      · rw [upd_same, et, digF_snoc, List.map_append]; rfl
  · obtain ⟨y, rfl, sm, eo⟩ := hP
    rw [List.length_map, List.take_length] at eo
    exact ⟨.ref o, rfl, q H3 o sm no eo⟩
end
end Rep
namespace Rep
open PySem L2
/-! the law's drawn sayings -/
theorem at4 {a b c d r : Int} : ∃ v, atI [V.int a, V.int b, V.int c, V.int d] (r % 4) = some (.int v) ∧ (v = a ∨ v = b ∨ v = c ∨ v = d) := by
  have h : r % 4 = 0 ∨ r % 4 = 1 ∨ r % 4 = 2 ∨ r % 4 = 3 := by omega
  rcases h with h | h | h | h <;> rw [h]
  · exact ⟨a, rfl, .inl rfl⟩
  · exact ⟨b, rfl, .inr (.inl rfl)⟩
  · exact ⟨c, rfl, .inr (.inr (.inl rfl))⟩
  · exact ⟨d, rfl, .inr (.inr (.inr rfl))⟩
theorem at3 {a b c r : Int} : ∃ v, atI [V.int a, V.int b, V.int c] (r % 3) = some (.int v) ∧ (v = a ∨ v = b ∨ v = c) := by
  have h : r % 3 = 0 ∨ r % 3 = 1 ∨ r % 3 = 2 := by omega
  rcases h with h | h | h <;> rw [h]
  · exact ⟨a, rfl, .inl rfl⟩
  · exact ⟨b, rfl, .inr (.inl rfl)⟩
  · exact ⟨c, rfl, .inr (.inr rfl)⟩
def spSay (K : PySem.W.Frag) : Sp := fun vs H Q _ => ∃ (a : Addr) (ns : List Int) (k L : Int), vs = [.ref a, .int k, .int L] ∧ SqL K H a (ns.map V.int) ∧ ns.length ≤ 63 ∧ 1 ≤ L ∧ L ≤ 10 ^ 41 ∧ ∀ H' v s, Same H H' → IsSy H' v s → Good L s → Q v H'
abbrev nSay : List Str := ["_law_script", "_law_k", "_law_length", "_law_way", "_law_one", "_law_other", "_law_many", "_law_turned", "_law_lead"]
theorem scSay : FnScope nSay ["_law_script", "_law_k", "_law_length"] (defScope s_law_saying) := ⟨rfl, rfl, rfl, by decide +kernel, rfl, by decide +kernel, by decide +kernel⟩
theorem p40 : CPow 10 40 := ⟨by decide, by decide, by decide⟩
section
variable {P : Program} {w : World} {K : PySem.W.Frag} {mg : Str → Option Value} {base : Heap}
theorem ok_say {f fD : Addr} {fd fdD : FuncData} {k : Nat} (F : Fun K "_law_saying" "_law_saying" s_law_saying f fd) (GD : FnOk P w K mg base CX0 k fD fdD ["_law_script", "_law_k", "_law_sizes"] (spDig K)) (kD : PySem.W.keepIn K (.ref fD) = true) (bD : Binds K fdD ["_law_script", "_law_k", "_law_sizes"] []) (mD_ : mg "_law_digits" = some (.ref fD)) (mm : mg "min" = none) (mM : mg "max" = none) : FnOk P w K mg base CX0 (k + 1) f fd ["_law_script", "_law_k", "_law_length"] (spSay K) := by
  refine F.ok scSay (fun vs H Q E h => ?_) (fun cdv A outer s H vs Q E hr h => ?_)
  · obtain ⟨a, ns, z, L, rfl, _⟩ := h; rfl
  obtain ⟨a, ns, z, L, rfl, hS, h63, hL1, hL2, q⟩ := h
  refine ⟨_, (pss_cons (ps_asg (pe_call GD hr (by rfl) mD_ kD bD .nil pass0 (pa_cons (pv 0) (pa_cons (pv 1) (pa_cons (pe_lst (pa_cons pe_int (pa_cons (pe_op op_pow pe_int pe_int) (pa_cons (pe_op op_pow pe_int pe_int) (pa_cons (pe_op op_pow pe_int pe_int) (pa_cons pe_int (pa_cons (pe_op op_pow pe_int pe_int) pa_nil))))))) pa_nil)))) (pg_lst rfl (pgs_cons (pg_name (i := 3) scSay.nd rfl (.inl rfl)) (pgs_cons (pg_name (i := 4) scSay.nd rfl (.inl rfl)) (pgs_cons (pg_name (i := 5) scSay.nd rfl (.inl rfl)) (pgs_cons (pg_name (i := 6) scSay.nd rfl (.inl rfl)) (pgs_cons (pg_name (i := 7) scSay.nd rfl (.inl rfl)) (pgs_cons (pg_name (i := 8) scSay.nd rfl (.inl rfl)) pgs_nil))))))))
    (C8.pss_cut (ps_set (i := 6) scSay.nd rfl (.inl rfl) (pe_op op_add pe_int (pe_op op_mod (pv 6) (pe_ix ix_list (pe_lst (pa_cons (pv 2) (pa_cons (pe_callB (call_max2 rfl) (by rfl) mM (by decide +kernel) (pa_cons pe_int (pa_cons (pe_op op_fdivW (pv 2) pe_int) pa_nil))) (pa_cons (pe_callB (call_max2 rfl) (by rfl) mM (by decide +kernel) (pa_cons pe_int (pa_cons (pe_op op_fdivW (pv 2) pe_int) pa_nil))) (pa_cons (pv 2) pa_nil))))) (pe_op op_mod (pv 3) pe_int) (fun _ _ => rfl)))))
    (pss_cons (ps_set (i := 4) scSay.nd rfl (.inl rfl) (pe_op op_mod (pv 4) (pe_op op_add (pe_op op_sub (pv 2) (pv 6)) pe_int)))
    (pss_cons (ps_set (i := 5) scSay.nd rfl (.inl rfl) (pe_op op_mod (pv 5) (pe_op op_add (pe_op op_sub (pv 2) (pv 6)) pe_int)))
    (C8.pss_cut (ps_if (PW.pt (pw_or (pt_cmpR op_eq (pv 3) pe_int (nomark _)) (pw_or1 (pt_cmpR op_eq (pv 3) pe_int (nomark _))))) (pss_one (ps_set (i := 5) scSay.nd rfl (.inl rfl) (pe_callB (call_min2 rfl) (by rfl) mm (by decide +kernel) (pa_cons (pe_op op_sub (pv 2) (pv 6)) (pa_cons (pe_op op_add (pv 4) (pe_op op_mod (pv 8) (pe_callB (call_max2 rfl) (by rfl) mM (by decide +kernel) (pa_cons pe_int (pa_cons (pv 6) pa_nil))))) pa_nil))))) pss_nil)
    (C8.pss_cut (ps_if (pt_cmpR op_eq (pv 3) pe_int (nomark _)) (pss_one (ps_set (i := 5) scSay.nd rfl (.inl rfl) (pv 4))) pss_nil)
    (C8.pss_cut (ps_if (pt_cmpR op_eq (pv 3) pe_int (nomark _)) (pss_cons (ps_set (i := 4) scSay.nd rfl (.inl rfl) pe_int)
    (pss_one (ps_set (i := 5) scSay.nd rfl (.inl rfl) (pe_op op_sub (pv 2) (pv 6))))) pss_nil)
    (pss_one (ps_ret (pe_tup (pa_cons (pv 4) (pa_cons (pv 5) (pa_cons (pv 6) (pa_cons (pe_or (pe_cmpR op_eq (pv 7) pe_int (nomark _)) (pe_one (pe_cmpR op_eq (pv 3) pe_int (nomark _)))) pa_nil)))))))))))))), ?_⟩
  -- the digits
  refine ⟨.ref a, rfl, .int z, rfl, 10, 40, rfl, rfl, p40, 10, 40, rfl, rfl, p40, 10, 40, rfl, rfl, p40, 10, 40, rfl, rfl, p40, (by show 6 ≤ sizeLine; decide), fun l1 nl1 => ?_⟩
  have s1 := same_upd (o := .lst [.int 8, .int (10 ^ (40 : Int).toNat), .int (10 ^ (40 : Int).toNat), .int (10 ^ (40 : Int).toNat), .int 3, .int (10 ^ (40 : Int).toNat)]) nl1
  refine ⟨a, l1, ns, [8, 10 ^ (40 : Int).toNat, 10 ^ (40 : Int).toNat, 10 ^ (40 : Int).toNat, 3, 10 ^ (40 : Int).toNat], z, rfl, s1.seq hS, h63, .inl (.inl upd_same), by decide, fun y hy => ?_, fun H2 q2 s2 _ eq2 => ?_⟩
  · have : y = 8 ∨ y = 10 ^ (40 : Int).toNat ∨ y = 3 := by
      simp only [List.mem_cons, List.mem_nil_iff, or_false] at hy
      rcases hy with h | h | h | h | h | h
      · exact .inl h
      · exact .inr (.inl h)
      · exact .inr (.inl h)
      · exact .inr (.inl h)
      · exact .inr (.inr h)
      · exact .inr (.inl h)
    rcases this with rfl | rfl | rfl
    · exact ⟨by decide, by decide⟩
    · exact ⟨by decide +kernel, by decide +kernel⟩
    · exact ⟨by decide, by decide⟩
  generalize hT : (10 : Int) ^ (40 : Int).toNat = T at eq2
  have hT0 : 0 < T := by rw [← hT]; decide +kernel
  generalize rawF ns z = ra at eq2
  refine ⟨q2, [.int (ra % 8), .int (ra / 8 % T), .int (ra / 8 / T % T), .int (ra / 8 / T / T % T), .int (ra / 8 / T / T / T % 3), .int (ra / 8 / T / T / T / 3 % T)], rfl, .inl (.inl eq2), rfl, _, _, rfl, _, _, rfl, _, _, rfl, _, _, rfl, _, _, rfl, _, _, rfl, rfl, ?_⟩
  have sH2 : Same H H2 := s1.trans s2
  generalize ra % 8 = way
  generalize ra / 8 % T = one
  generalize ra / 8 / T % T = oth
  generalize ra / 8 / T / T % T = man
  generalize ra / 8 / T / T / T % 3 = tur
  generalize ra / 8 / T / T / T / 3 % T = lea
  -- many
  refine ⟨fun σ' H' => ∃ m : Int, σ' = [some (.ref a), some (.int z), some (.int L), some (.int way), some (.int one), some (.int oth), some (.int m), some (.int tur), some (.int lea)] ∧ Same H H' ∧ 1 ≤ m ∧ m ≤ L, ?_, ?_⟩
  · have d2 : CDivW L 2 := wide_div (b := 3) (by decide) (by decide) (by decide) (by decide)
    have d5 : CDivW L 5 := wide_div (b := 3) (by decide) (by decide) (by decide) (by decide)
    refine ⟨.int man, rfl, .int L, rfl, .int L, rfl, _, 2, rfl, rfl, d2, 1, L / 2, rfl, .int L, rfl, _, 5, rfl, rfl, d5, 1, L / 5, rfl, .int L, rfl, (by show 4 ≤ sizeLine; decide), fun l2 nl2 => ?_⟩
    have b2 : 1 ≤ (if L / 2 > 1 then L / 2 else 1) ∧ (if L / 2 > 1 then L / 2 else 1) ≤ L := by split <;> omega
    have b5 : 1 ≤ (if L / 5 > 1 then L / 5 else 1) ∧ (if L / 5 > 1 then L / 5 else 1) ≤ L := by split <;> omega
    generalize (if L / 2 > 1 then L / 2 else 1) = M2 at b2
    generalize (if L / 5 > 1 then L / 5 else 1) = M5 at b5
    obtain ⟨v, hv, hv2⟩ := at4 (a := L) (b := M2) (c := M5) (d := L) (r := way)
    have v1 : 1 ≤ v ∧ v ≤ L := by omega
    refine ⟨.int way, rfl, _, 4, rfl, rfl, (by show (0 : Int) < 4; decide), l2, _, _, .int v, rfl, rfl, .inl (.inl upd_same), hv, _, _, rfl, rfl, (by show 0 < v; omega), 1, _, rfl, rfl, 1 + man % v, rfl, sH2.trans (same_upd nl2), ?_, ?_⟩
    · have := Int.emod_nonneg man (show v ≠ 0 by omega); omega
    · have := Int.emod_lt_of_pos man (show 0 < v by omega); omega
  rintro σ' H3 ⟨m, rfl, s3, m1, m2⟩
  refine ⟨.int one, rfl, .int L, rfl, .int m, rfl, _, _, rfl, rfl, _, 1, rfl, rfl, _, _, rfl, rfl, (by show 0 < L - m + 1; omega), ?_⟩
  refine ⟨.int oth, rfl, .int L, rfl, .int m, rfl, _, _, rfl, rfl, _, 1, rfl, rfl, _, _, rfl, rfl, (by show 0 < L - m + 1; omega), ?_⟩
  have o1 : 0 ≤ one % (L - m + 1) ∧ one % (L - m + 1) + m ≤ L := by
    have := Int.emod_nonneg one (show L - m + 1 ≠ 0 by omega)
    have := Int.emod_lt_of_pos one (show 0 < L - m + 1 by omega)
    omega
  have o2 : 0 ≤ oth % (L - m + 1) ∧ oth % (L - m + 1) + m ≤ L := by
    have := Int.emod_nonneg oth (show L - m + 1 ≠ 0 by omega)
    have := Int.emod_lt_of_pos oth (show 0 < L - m + 1 by omega)
    omega
  show C8.tCut _ _ _ [some (.ref a), some (.int z), some (.int L), some (.int way), some (.int (one % (L - m + 1))), some (.int (oth % (L - m + 1))), some (.int m), some (.int tur), some (.int lea)] H3
  generalize one % (L - m + 1) = p at *
  generalize oth % (L - m + 1) = r at *
  -- way 1, 5
  refine ⟨fun σ' H' => ∃ r : Int, σ' = [some (.ref a), some (.int z), some (.int L), some (.int way), some (.int p), some (.int r), some (.int m), some (.int tur), some (.int lea)] ∧ H' = H3 ∧ 0 ≤ r ∧ r + m ≤ L, ?_, ?_⟩
  · have mx : 0 < (if m > 1 then m else 1) := by split <;> omega
    refine ⟨.int way, rfl, rfl, _, rfl, ite2 (fun c => iteT ?_) (fun c => ?_)⟩
    · refine ⟨.int L, rfl, .int m, rfl, _, _, rfl, rfl, .int p, rfl, .int lea, rfl, .int m, rfl, 1, m, rfl, _, _, rfl, rfl, mx, _, _, rfl, rfl, _, _, rfl, ?_⟩
      generalize (if m > 1 then m else 1) = M at mx
      have := Int.emod_nonneg lea (show M ≠ 0 by omega)
      generalize lea % M = q0 at *
      exact ⟨_, rfl, rfl, by split <;> omega, by split <;> omega⟩
    refine ⟨.int way, rfl, rfl, _, rfl, ite2 (fun c => ?_) (fun c => ?_)⟩
    · refine ⟨.int L, rfl, .int m, rfl, _, _, rfl, rfl, .int p, rfl, .int lea, rfl, .int m, rfl, 1, m, rfl, _, _, rfl, rfl, mx, _, _, rfl, rfl, _, _, rfl, ?_⟩
      generalize (if m > 1 then m else 1) = M at mx
      have := Int.emod_nonneg lea (show M ≠ 0 by omega)
      generalize lea % M = q0 at *
      exact ⟨_, rfl, rfl, by split <;> omega, by split <;> omega⟩
    exact ⟨r, rfl, rfl, o2.1, o2.2⟩
  rintro σ' H' ⟨r, rfl, rfl, r1, r2⟩
  -- way 6
  refine ⟨fun σ' H'' => ∃ r : Int, σ' = [some (.ref a), some (.int z), some (.int L), some (.int way), some (.int p), some (.int r), some (.int m), some (.int tur), some (.int lea)] ∧ H'' = H' ∧ 0 ≤ r ∧ r + m ≤ L, ?_, ?_⟩
  · refine ⟨.int way, rfl, rfl, _, rfl, ite2 (fun c => ?_) (fun c => ?_)⟩
    · exact ⟨.int p, rfl, p, rfl, rfl, o1.1, o1.2⟩
    · exact ⟨r, rfl, rfl, r1, r2⟩
  rintro σ' H'' ⟨r, rfl, rfl, r1, r2⟩
  -- way 7
  refine ⟨fun σ' H1 => ∃ p r : Int, σ' = [some (.ref a), some (.int z), some (.int L), some (.int way), some (.int p), some (.int r), some (.int m), some (.int tur), some (.int lea)] ∧ H1 = H'' ∧ 0 ≤ p ∧ p + m ≤ L ∧ 0 ≤ r ∧ r + m ≤ L, ?_, ?_⟩
  · refine ⟨.int way, rfl, rfl, _, rfl, ite2 (fun c => ?_) (fun c => ?_)⟩
    · exact ⟨.int L, rfl, .int m, rfl, _, _, rfl, rfl, 0, L - m, rfl, rfl, by omega, by omega, by omega, by omega⟩
    · exact ⟨p, r, rfl, rfl, o1.1, o1.2, r1, r2⟩
  rintro σ' H1 ⟨p, r, rfl, rfl, p1, p2, r1, r2⟩
  refine ⟨.int p, rfl, .int r, rfl, .int m, rfl, ?_⟩
  have fin : ∀ b : Bool, ([V.int p, .int r, .int m, .bl b] : List V).length ≤ sizeLine ∧ ∀ t, H1 t = none → Q (.ref t) (upd H1 t (.tup [V.int p, .int r, .int m, .bl b])) := fun b => by
    refine ⟨by show 4 ≤ sizeLine; decide, fun t nt => ?_⟩
    exact q _ _ ⟨p, r, m, b⟩ (s3.trans (same_upd nt)) (IsSy.of upd_same) ⟨p1, r1, m1, p2, r2⟩
  refine ⟨.int tur, rfl, rfl, _, rfl, ite2 (fun c => fin true) (fun c => ?_)⟩
  exact ⟨.int way, rfl, rfl, fin _⟩
end
end Rep
namespace Rep
open PySem L2
/-! the law's own comparison: of equal data it is True -/
def tyN : PyData → String
  | .none => "NoneType"
  | .bool _ => "bool"
  | .int _ => "int"
  | .str _ => "str"
  | .list _ => "list"
  | .tuple _ => "tuple"
  | .dict _ => "dict"
theorem DT.ty {K : PySem.W.Frag} {H : Hp} {n : Nat} {v : V} {d : PyData} (h : DT H n v d) : TyX K H v (.type (tyN d)) := by
  cases h with
  | non => exact .base .non
  | bl b => exact .base (.bl b)
  | int i => exact .base (.int i)
  | str x => exact .base (.str x)
  | lst e _ _ _ => exact .base (.lst e)
  | tup e _ _ _ => exact .base (.tup e)
theorem kit_any {H : Hp} {n : Nat} {v : V} {d : PyData} (h : DT H n v d) : (∃ b, kitB (tyN d) "bool" = some b) ∧ (∃ b, kitB (tyN d) "int" = some b) ∧ (∃ b, kitB (tyN d) "list" = some b) ∧ (∃ b, kitB (tyN d) "tuple" = some b) ∧ (∃ b, kitB (tyN d) "str" = some b) := by
  cases h with
  | non => exact ⟨⟨false, by decide +kernel⟩, ⟨false, by decide +kernel⟩, ⟨false, by decide +kernel⟩, ⟨false, by decide +kernel⟩, ⟨false, by decide +kernel⟩⟩
  | bl b => exact ⟨⟨true, show kitB "bool" "bool" = some true by decide +kernel⟩, ⟨true, show kitB "bool" "int" = some true by decide +kernel⟩, ⟨false, show kitB "bool" "list" = some false by decide +kernel⟩, ⟨false, show kitB "bool" "tuple" = some false by decide +kernel⟩, ⟨false, show kitB "bool" "str" = some false by decide +kernel⟩⟩
  | int i => exact ⟨⟨false, show kitB "int" "bool" = some false by decide +kernel⟩, ⟨true, show kitB "int" "int" = some true by decide +kernel⟩, ⟨false, show kitB "int" "list" = some false by decide +kernel⟩, ⟨false, show kitB "int" "tuple" = some false by decide +kernel⟩, ⟨false, show kitB "int" "str" = some false by decide +kernel⟩⟩
  | str x => exact ⟨⟨false, show kitB "str" "bool" = some false by decide +kernel⟩, ⟨false, show kitB "str" "int" = some false by decide +kernel⟩, ⟨false, show kitB "str" "list" = some false by decide +kernel⟩, ⟨false, show kitB "str" "tuple" = some false by decide +kernel⟩, ⟨true, show kitB "str" "str" = some true by decide +kernel⟩⟩
  | lst _ _ _ _ => exact ⟨⟨false, show kitB "list" "bool" = some false by decide +kernel⟩, ⟨false, show kitB "list" "int" = some false by decide +kernel⟩, ⟨true, show kitB "list" "list" = some true by decide +kernel⟩, ⟨false, show kitB "list" "tuple" = some false by decide +kernel⟩, ⟨false, show kitB "list" "str" = some false by decide +kernel⟩⟩
  | tup _ _ _ _ => exact ⟨⟨false, show kitB "tuple" "bool" = some false by decide +kernel⟩, ⟨false, show kitB "tuple" "int" = some false by decide +kernel⟩, ⟨false, show kitB "tuple" "list" = some false by decide +kernel⟩, ⟨true, show kitB "tuple" "tuple" = some true by decide +kernel⟩, ⟨false, show kitB "tuple" "str" = some false by decide +kernel⟩⟩
structure Two (H : Hp) (m : Nat) (xs ys : List V) : Prop where
  few : xs.length ≤ 14000000
  len : xs.length = ys.length
  at_ : ∀ (i : Nat) (u v : V), xs[i]? = some u → ys[i]? = some v → ∃ d, DT H m u d ∧ DT H m v d
theorem two_of {H : Hp} {m : Nat} {xs ys : List V} {ds : List PyData} (l0 : xs.length ≤ 14000000) (l1 : xs.length = ds.length) (l2 : ys.length = ds.length) (h1 : ∀ (i : Nat) (x : V) (d : PyData), xs[i]? = some x → ds[i]? = some d → DT H m x d) (h2 : ∀ (i : Nat) (x : V) (d : PyData), ys[i]? = some x → ds[i]? = some d → DT H m x d) : Two H m xs ys := by
  refine ⟨l0, l1.trans l2.symm, fun i u v hu hv => ?_⟩
  have hi : i < ds.length := by
    have := (List.getElem?_eq_some_iff.mp hu).1
    omega
  exact ⟨ds[i], h1 i u _ hu (List.getElem?_eq_getElem hi), h2 i v _ hv (List.getElem?_eq_getElem hi)⟩
theorem DT.kinds {H : Hp} {n : Nat} {x y : V} {d : PyData} (hx : DT H n x d) (hy : DT H n y d) :
    (kitB (tyN d) "list" = some false ∧ kitB (tyN d) "tuple" = some false ∧ x = y ∧ scal x y = true) ∨
    (∃ m a b xs ys, n = m + 1 ∧ kitB (tyN d) "list" = some true ∧ x = .ref a ∧ y = .ref b ∧ H a = some (.lst xs) ∧ H b = some (.lst ys) ∧ Two H m xs ys) ∨
    (∃ m a b xs ys, n = m + 1 ∧ kitB (tyN d) "list" = some false ∧ kitB (tyN d) "tuple" = some true ∧ x = .ref a ∧ y = .ref b ∧ H a = some (.tup xs) ∧ H b = some (.tup ys) ∧ Two H m xs ys) := by
  cases hx with
  | non => cases hy; exact .inl ⟨show kitB "NoneType" "list" = some false by decide +kernel, show kitB "NoneType" "tuple" = some false by decide +kernel, rfl, rfl⟩
  | bl b => cases hy; exact .inl ⟨show kitB "bool" "list" = some false by decide +kernel, show kitB "bool" "tuple" = some false by decide +kernel, rfl, rfl⟩
  | int b => cases hy; exact .inl ⟨show kitB "int" "list" = some false by decide +kernel, show kitB "int" "tuple" = some false by decide +kernel, rfl, rfl⟩
  | str b => cases hy; exact .inl ⟨show kitB "str" "list" = some false by decide +kernel, show kitB "str" "tuple" = some false by decide +kernel, rfl, rfl⟩
  | lst e l z h =>
    cases hy with
    | lst e' l' z' h' => exact .inr (.inl ⟨_, _, _, _, _, rfl, show kitB "list" "list" = some true by decide +kernel, rfl, rfl, e, e', two_of z l l' h h'⟩)
  | tup e l z h =>
    cases hy with
    | tup e' l' z' h' => exact .inr (.inr ⟨_, _, _, _, _, rfl, show kitB "tuple" "list" = some false by decide +kernel, show kitB "tuple" "tuple" = some true by decide +kernel, rfl, rfl, e, e', two_of z l l' h h'⟩)
theorem walk_zipT {K : PySem.W.Frag} {a b : Addr} {xs ys : List V} (hl : xs.length = ys.length) : Walk (RZ.ItzT K a b) xs.length (fun H => SqT K H a xs ∧ SqT K H b ys) (YPair (fun i => xs[i]?) (fun i => ys[i]?)) := by
  refine ⟨fun i H hi q => ⟨xs, ys, xs[i], ys[i]'(by omega), q.1, q.2, List.getElem?_eq_getElem hi, List.getElem?_eq_getElem (by omega)⟩, fun H q => ⟨xs, ys, q.1, q.2, .inl (Nat.le_refl _)⟩, fun i H v H' hi q y => ?_⟩
  obtain ⟨T, x, y, e, hT, e2, f1, f2⟩ := y
  exact ⟨T, x, y, e, hT, e2, f1 _ q.1, f2 _ q.2⟩
theorem all_true : ∀ n : Nat, (List.replicate n true).all id = true
  | 0 => rfl
  | n + 1 => by
    show (true && (List.replicate n true).all id) = true
    rw [all_true n]; rfl
theorem rep_snoc (n : Nat) : (List.replicate (n + 1) true).map V.bl = (List.replicate n true).map V.bl ++ [V.bl true] := by
  rw [List.replicate_succ', List.map_append]; rfl
def spSame : Nat → Sp
  | 0 => fun _ _ _ _ => False
  | n + 1 => fun vs H Q _ => ∃ (x y : V) (d : PyData), vs = [x, y] ∧ DT H n x d ∧ DT H n y d ∧ ∀ H', Same H H' → Q (.bl true) H'
abbrev nSame : List Str := ["_law_told", "_law_due", "_law_one", "_law_other"]
theorem scSame : FnScope nSame ["_law_told", "_law_due"] (defScope sSame) := ⟨rfl, rfl, rfl, by decide +kernel, rfl, by decide +kernel, by decide +kernel⟩
structure TySame (mg : Str → Option Value) : Prop where
  isi : mg "isinstance" = none
  bool : mg "bool" = none
  int : mg "int" = none
  list : mg "list" = none
  tuple : mg "tuple" = none
  str : mg "str" = none
  len : mg "len" = none
  all : mg "all" = none
  zip : mg "zip" = none
section
variable {P : Program} {w : World} {K : PySem.W.Frag} {mg : Str → Option Value} {base : Heap}
theorem ok_same1 {f : Addr} {fd : FuncData} {n : Nat} (F : Fun K "_law_same" "_law_same" sSame f fd) (G : FnOk P w K mg base CX0 n f fd ["_law_told", "_law_due"] (spSame n)) (bG : Binds K fd ["_law_told", "_law_due"] []) (gG : mg "_law_same" = some (.ref f)) (T : TySame mg) :
    FnOk P w K mg base CX0 (n + 1) f fd ["_law_told", "_law_due"] (spSame (n + 1)) := by
  refine F.ok scSame (fun vs H Q E h => ?_) (fun cdv A outer s H vs Q E hr h => ?_)
  · obtain ⟨x, y, d, rfl, _⟩ := h; rfl
  obtain ⟨x, y, d, rfl, hx, hy, q⟩ := h
  refine ⟨_, pss_cons (ps_if (pt_cmpR op_isN (pv 1) pe_non (nomark _)) (pss_one (ps_ret (pe_cmpR op_isN (pv 0) pe_non (nomark _)))) pss_nil)
    (pss_cons (ps_if (PW.pt (pw_or (pt_cmpR op_ne (pe_callB call_isi (by rfl) T.isi PyProof.Rows.boot_isinstance (pa_cons (pv 0) (pa_cons (pe_bltn (v := .ty "bool") (by rfl) T.bool PyProof.Rows.boot_bool rfl) pa_nil))) (pe_callB call_isi (by rfl) T.isi PyProof.Rows.boot_isinstance (pa_cons (pv 1) (pa_cons (pe_bltn (v := .ty "bool") (by rfl) T.bool PyProof.Rows.boot_bool rfl) pa_nil))) (nomark _))
        (pw_or1 (pt_cmpR op_ne (pe_callB call_isi (by rfl) T.isi PyProof.Rows.boot_isinstance (pa_cons (pv 0) (pa_cons (pe_bltn (v := .ty "int") (by rfl) T.int PyProof.Rows.boot_int rfl) pa_nil))) (pe_callB call_isi (by rfl) T.isi PyProof.Rows.boot_isinstance (pa_cons (pv 1) (pa_cons (pe_bltn (v := .ty "int") (by rfl) T.int PyProof.Rows.boot_int rfl) pa_nil))) (nomark _)))))
      (pss_one (ps_ret pe_bl)) pss_nil)
    (pss_cons (ps_if (PW.pt (pw_or (pt_cmpR op_ne (pe_callB call_isi (by rfl) T.isi PyProof.Rows.boot_isinstance (pa_cons (pv 0) (pa_cons (pe_bltn (v := .ty "list") (by rfl) T.list PyProof.Rows.boot_list rfl) pa_nil))) (pe_callB call_isi (by rfl) T.isi PyProof.Rows.boot_isinstance (pa_cons (pv 1) (pa_cons (pe_bltn (v := .ty "list") (by rfl) T.list PyProof.Rows.boot_list rfl) pa_nil))) (nomark _))
        (pw_or1 (pt_cmpR op_ne (pe_callB call_isi (by rfl) T.isi PyProof.Rows.boot_isinstance (pa_cons (pv 0) (pa_cons (pe_bltn (v := .ty "tuple") (by rfl) T.tuple PyProof.Rows.boot_tuple rfl) pa_nil))) (pe_callB call_isi (by rfl) T.isi PyProof.Rows.boot_isinstance (pa_cons (pv 1) (pa_cons (pe_bltn (v := .ty "tuple") (by rfl) T.tuple PyProof.Rows.boot_tuple rfl) pa_nil))) (nomark _)))))
      (pss_one (ps_ret pe_bl)) pss_nil)
    (pss_cons (ps_if (PW.pt (pw_and (pt_not (pt_val (pe_callB call_isi (by rfl) T.isi PyProof.Rows.boot_isinstance (pa_cons (pv 1) (pa_cons (pe_bltn (v := .ty "list") (by rfl) T.list PyProof.Rows.boot_list rfl) pa_nil)))))
        (pw_and1 (pt_not (pt_val (pe_callB call_isi (by rfl) T.isi PyProof.Rows.boot_isinstance (pa_cons (pv 1) (pa_cons (pe_bltn (v := .ty "tuple") (by rfl) T.tuple PyProof.Rows.boot_tuple rfl) pa_nil))))))))
      (pss_one (ps_ret (pe_and (pe_cmpR op_eq (pe_callB call_isi (by rfl) T.isi PyProof.Rows.boot_isinstance (pa_cons (pv 0) (pa_cons (pe_bltn (v := .ty "str") (by rfl) T.str PyProof.Rows.boot_str rfl) pa_nil))) (pe_callB call_isi (by rfl) T.isi PyProof.Rows.boot_isinstance (pa_cons (pv 1) (pa_cons (pe_bltn (v := .ty "str") (by rfl) T.str PyProof.Rows.boot_str rfl) pa_nil))) (nomark _))
        (pe_one (pe_cmpR op_eq (pv 0) (pv 1) (nomark _)))))) pss_nil)
    (pss_one (ps_ret (pe_and (pe_cmpR op_eq (pe_callB call_len_seq (by rfl) T.len PySem.boot_len (pa_cons (pv 0) pa_nil)) (pe_callB call_len_seq (by rfl) T.len PySem.boot_len (pa_cons (pv 1) pa_nil)) (nomark _))
      (pe_one (pe_callB (cr_all rfl) (by rfl) T.all PyProof.Rows.boot_all (pa_cons (pe_lc (own := [("_law_one", 2), ("_law_other", 3)]) (g := gTup K 2 (gCons (gName 2) (gCons (gName 3) gNil))) (tt := tYes) rfl scSame.nd
        (RZ.pi_zipA (by rfl) T.zip (pa_cons (pv 0) (pa_cons (pv 1) pa_nil))) (blkOk_by (N := nSame) (sc := defScope sSame) (by decide +kernel))
        (fun _ _ _ _ _ => pg_tup rfl (pgs_cons (pg_name (i := 2) scSame.nd rfl (.inl rfl)) (pgs_cons (pg_name (i := 3) scSame.nd rfl (.inl rfl)) pgs_nil))) (fun _ _ _ _ _ => pts_nil)
        (fun _ _ _ _ _ => pe_call G hr (by rfl) gG F.kp bG .nil pass0 (pa_cons (pv 2) (pa_cons (pv 3) pa_nil)))) pa_nil))))))))), ?_⟩
  obtain ⟨⟨b1, k1⟩, ⟨b2, k2⟩, ⟨b3, k3⟩, ⟨b4, k4⟩, ⟨b5, k5⟩⟩ := kit_any hy
  have tx := hx.ty (K := K)
  have ty := hy.ty (K := K)
  have e1 := kit_ty (K := K) k1
  have e2 := kit_ty (K := K) k2
  have e3 := kit_ty (K := K) k3
  have e4 := kit_ty (K := K) k4
  have e5 := kit_ty (K := K) k5
  have nn : ∀ b : Bool, (!decide (V.bl b = V.bl b)) = false := fun b => by rw [decide_eq_true rfl]; rfl
  refine ⟨y, rfl, rfl, _, rfl, ite2 (fun c => ?_) (fun c => ?_)⟩
  · have c' : y = .non := of_decide_eq_true c
    subst c'
    cases hy
    cases hx
    exact ⟨_, rfl, rfl, q H (Same.refl H)⟩
  have cn : ¬ y = .non := fun e => c (decide_eq_true e)
  refine ⟨x, rfl, x, _, _, _, b1, rfl, .ty "bool", tx, e1, y, rfl, y, _, _, _, b1, rfl, .ty "bool", ty, e1, rfl, _, rfl, ?_⟩
  rw [nn]
  refine iteF ?_
  refine ⟨x, rfl, x, _, _, _, b2, rfl, .ty "int", tx, e2, y, rfl, y, _, _, _, b2, rfl, .ty "int", ty, e2, rfl, _, rfl, ?_⟩
  rw [nn]
  refine iteF ?_
  refine ⟨x, rfl, x, _, _, _, b3, rfl, .ty "list", tx, e3, y, rfl, y, _, _, _, b3, rfl, .ty "list", ty, e3, rfl, _, rfl, ?_⟩
  rw [nn]
  refine iteF ?_
  refine ⟨x, rfl, x, _, _, _, b4, rfl, .ty "tuple", tx, e4, y, rfl, y, _, _, _, b4, rfl, .ty "tuple", ty, e4, rfl, _, rfl, ?_⟩
  rw [nn]
  refine iteF ?_
  refine ⟨y, rfl, y, _, _, _, b3, rfl, .ty "list", ty, e3, _, rfl, ?_⟩
  rcases hx.kinds hy with ⟨j3, j4, exy, hsc⟩ | ⟨m, a, b, xs, ys, en, j3, ex, ey, ha, hb, two⟩ | ⟨m, a, b, xs, ys, en, j3, j4, ex, ey, ha, hb, two⟩
  · have f3 : b3 = false := Option.some.inj (k3.symm.trans j3)
    have f4 : b4 = false := Option.some.inj (k4.symm.trans j4)
    subst f3 f4 exy
    refine iteT ?_
    refine ⟨x, rfl, x, _, _, _, false, rfl, .ty "tuple", ty, e4, _, rfl, ?_⟩
    refine iteT ?_
    refine ⟨x, rfl, x, _, _, _, b5, rfl, .ty "str", tx, e5, x, rfl, x, _, _, _, b5, rfl, .ty "str", ty, e5, rfl, _, rfl, ?_⟩
    rw [decide_eq_true rfl]
    refine iteT ?_
    refine ⟨x, rfl, x, rfl, hsc, ?_⟩
    rw [decide_eq_true rfl]
    exact q H (Same.refl H)
  · have f3 : b3 = true := Option.some.inj (k3.symm.trans j3)
    subst f3 ex ey en
    refine iteF ?_
    refine iteF ?_
    refine ⟨.ref a, rfl, a, xs, rfl, .inl (.inl (.inl ha)), .ref b, rfl, b, ys, rfl, .inl (.inl (.inl hb)), rfl, _, rfl, ?_⟩
    rw [decide_eq_true (by rw [two.len])]
    refine iteT ?_
    refine ⟨.ref a, rfl, .ref b, rfl, a, b, xs, ys, rfl, .inl ⟨.inl (.inl ha), .inl (.inl hb), fun D nD => ?_⟩⟩
    have s1 : Same H (upd H D (.lst [])) := same_upd nD
    refine lc_it (walk_zip (K := K) (a := a) (b := b) (xs := xs) (ys := ys) (n := xs.length) (by rw [two.len, Nat.min_self])) (fun i H3 => Same H H3 ∧ H3 D = some (.lst ((List.replicate i true).map V.bl)) ∧ i ≤ xs.length) ⟨s1, upd_same, Nat.zero_le _⟩ (fun i H3 _ hP => ⟨hP.1.seq (.inl (.inl ha)), hP.1.seq (.inl (.inl hb))⟩) (fun i v H3 H4 hi hP hy4 => ?_) (fun H3 hP => ?_)
    · obtain ⟨sm, eD, _⟩ := hP
      obtain ⟨t, u1, u2, rfl, nt, rfl, g1, g2⟩ := hy4
      obtain ⟨du, d1, d2⟩ := two.at_ i u1 u2 g1 g2
      have s4 := same_upd (o := .tup [u1, u2]) nt
      have s5 := sm.trans s4
      refine ⟨t, [u1, u2], rfl, .inl (.inl upd_same), rfl, _, _, rfl, _, _, rfl, rfl, rfl, ?_⟩
      refine tYes_ok ?_
      refine iteT ?_
      refine ⟨u1, rfl, u2, rfl, u1, u2, du, rfl, d1.same s5, d2.same s5, fun H6 s6 => ?_⟩
      refine ⟨_, s6 _ _ (s4 _ _ eD), ?_, same_over (s5.trans s6) nD, ?_, hi⟩
      · rw [List.length_map, List.length_replicate]
        exact Nat.lt_of_le_of_lt (show i ≤ 14000000 by have := two.few; omega) (by decide)
      · rw [upd_same, rep_snoc]
    · obtain ⟨sm, eD, _⟩ := hP
      refine ⟨D, _, rfl, .inl (.inl eD), ?_⟩
      rw [all_true]
      exact q H3 sm
  · have f3 : b3 = false := Option.some.inj (k3.symm.trans j3)
    have f4 : b4 = true := Option.some.inj (k4.symm.trans j4)
    subst f3 f4 ex ey en
    refine iteT ?_
    refine ⟨.ref b, rfl, .ref b, _, _, _, true, rfl, .ty "tuple", ty, e4, _, rfl, ?_⟩
    refine iteF ?_
    refine ⟨.ref a, rfl, a, xs, rfl, .inr (.inl (.inl ha)), .ref b, rfl, b, ys, rfl, .inr (.inl (.inl hb)), rfl, _, rfl, ?_⟩
    rw [decide_eq_true (by rw [two.len])]
    refine iteT ?_
    refine ⟨.ref a, rfl, .ref b, rfl, a, b, xs, ys, rfl, .inr ⟨.inl (.inl ha), .inl (.inl hb), fun D nD => ?_⟩⟩
    have s1 : Same H (upd H D (.lst [])) := same_upd nD
    refine lc_it (walk_zipT (K := K) (a := a) (b := b) two.len) (fun i H3 => Same H H3 ∧ H3 D = some (.lst ((List.replicate i true).map V.bl)) ∧ i ≤ xs.length) ⟨s1, upd_same, Nat.zero_le _⟩ (fun i H3 _ hP => ⟨.inl (.inl (hP.1 _ _ ha)), .inl (.inl (hP.1 _ _ hb))⟩) (fun i v H3 H4 hi hP hy4 => ?_) (fun H3 hP => ?_)
    · obtain ⟨sm, eD, _⟩ := hP
      obtain ⟨t, u1, u2, rfl, nt, rfl, g1, g2⟩ := hy4
      obtain ⟨du, d1, d2⟩ := two.at_ i u1 u2 g1 g2
      have s4 := same_upd (o := .tup [u1, u2]) nt
      have s5 := sm.trans s4
      refine ⟨t, [u1, u2], rfl, .inl (.inl upd_same), rfl, _, _, rfl, _, _, rfl, rfl, rfl, ?_⟩
      refine tYes_ok ?_
      refine iteT ?_
      refine ⟨u1, rfl, u2, rfl, u1, u2, du, rfl, d1.same s5, d2.same s5, fun H6 s6 => ?_⟩
      refine ⟨_, s6 _ _ (s4 _ _ eD), ?_, same_over (s5.trans s6) nD, ?_, hi⟩
      · rw [List.length_map, List.length_replicate]
        exact Nat.lt_of_le_of_lt (show i ≤ 14000000 by have := two.few; omega) (by decide)
      · rw [upd_same, rep_snoc]
    · obtain ⟨sm, eD, _⟩ := hP
      refine ⟨D, _, rfl, .inl (.inl eD), ?_⟩
      rw [all_true]
      exact q H3 sm
theorem same_none {f : Addr} {fd : FuncData} : FnOk P w K mg base CX0 0 f fd ["_law_told", "_law_due"] (spSame 0) :=
  ⟨fun _ _ _ _ h => h.elim, fun _ _ _ _ _ _ _ _ _ _ _ _ _ h => h.elim⟩
theorem ok_same {f : Addr} {fd : FuncData} (F : Fun K "_law_same" "_law_same" sSame f fd) (bG : Binds K fd ["_law_told", "_law_due"] []) (gG : mg "_law_same" = some (.ref f)) (T : TySame mg) :
    ∀ n : Nat, FnOk P w K mg base CX0 n f fd ["_law_told", "_law_due"] (spSame n)
  | 0 => same_none
  | n + 1 => ok_same1 F (ok_same F bG gG T n) bG gG T
end
end Rep
namespace Rep
open PySem L2
theorem szN (n : Nat) {m : Nat} (h : m = n) (h2 : Nat.ble n sizeLine = true := by decide) : m ≤ sizeLine := by rw [h]; exact Nat.le_of_ble_eq_true h2
theorem new_same {H H' : Hp} {p : Addr} {o : HO} (e : upd H p o = H') (n : H p = none) : Same H H' := by rw [← e]; exact same_upd n
theorem new_at {H H' : Hp} {p : Addr} {o : HO} (e : upd H p o = H') : H' p = some o := by rw [← e]; exact upd_same
end Rep
namespace Rep
open PySem L2
/-- sizes of digits -/
def Dg (z : Int) : Prop := 0 < z ∧ z.natAbs.log2 < 9000
theorem dg0 : ∀ y ∈ ([] : List Int), 0 < y ∧ y.natAbs.log2 < 9000 := fun y h => by cases h
theorem dgc {z : Int} {zs : List Int} (h : Dg z) (t : ∀ y ∈ zs, 0 < y ∧ y.natAbs.log2 < 9000) : ∀ y ∈ z :: zs, 0 < y ∧ y.natAbs.log2 < 9000 := fun y hy => by
  rcases List.mem_cons.mp hy with rfl | hy
  · exact h
  · exact t y hy
theorem dgT : Dg ((10 : Int) ^ (40 : Int).toNat) := ⟨by decide +kernel, by decide +kernel⟩
theorem dgS {z : Int} (h0 : 0 < z) (h1 : z ≤ 1000000) : Dg z := by
  refine ⟨h0, ?_⟩
  have h2 : z.natAbs < 2 ^ 20 := by omega
  have := (Nat.log2_lt (show z.natAbs ≠ 0 by omega)).mpr h2
  omega
theorem pT : 0 < (10 : Int) ^ (40 : Int).toNat := by decide +kernel
end Rep
namespace Rep
open PySem L2
theorem at_any {xs : List V} {n : Nat} {j : Int} (hl : xs.length = n) (h0 : 0 ≤ j) (h1 : j < (n : Int)) : ∃ v, v ∈ xs ∧ atI xs j = some v := by
  obtain ⟨i, rfl⟩ : ∃ i : Nat, j = (i : Int) := ⟨j.toNat, by omega⟩
  have hi : i < xs.length := by omega
  exact ⟨xs[i], List.getElem_mem hi, atI_nat (List.getElem?_eq_getElem hi)⟩
end Rep
namespace Rep
open PySem L2
structure Me where
  num : Int
  lt : Str
  at_ : Int
  n : Int
def MeAt (H : Hp) (v : V) (m : Me) : Prop := ∃ t, v = .ref t ∧ H t = some (.tup [.int m.num, .str m.lt, .int m.at_, .int m.n])
theorem MeAt.ts {H H' : Hp} (h : TS H H') {v : V} {m : Me} (k : MeAt H v m) : MeAt H' v m := by obtain ⟨t, e, ht⟩ := k; exact ⟨t, e, h _ _ ht⟩
theorem MeAt.of {H : Hp} {t : Addr} {m : Me} (h : H t = some (.tup [.int m.num, .str m.lt, .int m.at_, .int m.n])) : MeAt H (.ref t) m := ⟨t, rfl, h⟩
abbrev ML (H : Hp) (vs : List V) (ms : List Me) : Prop := LL MeAt H vs ms
theorem ML.ts {H H' : Hp} (h : TS H H') {vs : List V} {ms : List Me} (k : ML H vs ms) : ML H' vs ms := k.imp fun _ _ z => z.ts h
/-- one small letter -/
def Ltr (z : Str) : Prop := ∃ c : Nat, z = ⟨#[c]⟩ ∧ 97 ≤ c ∧ c ≤ 122
theorem scChkl : FnScope ["length"] ["length"] (defScope sCheck_length) := ⟨rfl, rfl, rfl, by decide +kernel, rfl, by decide +kernel, by decide +kernel⟩
theorem scChks : FnScope ["length", "at", "many"] ["length", "at", "many"] (defScope sCheck_stretch) := ⟨rfl, rfl, rfl, by decide +kernel, rfl, by decide +kernel, by decide +kernel⟩
theorem scChkss : FnScope ["length", "sayings", "one", "other", "many", "turned"] ["length", "sayings"] (defScope sCheck_sayings) := ⟨rfl, rfl, rfl, by decide +kernel, rfl, by decide +kernel, by decide +kernel⟩
theorem scLetter : FnScope ["letter"] ["letter"] (defScope sCheck_letter) := ⟨rfl, rfl, rfl, by decide +kernel, rfl, by decide +kernel, by decide +kernel⟩
theorem scCmem : FnScope ["length", "letter", "at", "many"] ["length", "letter", "at", "many"] (defScope sCheck_memory) := ⟨rfl, rfl, rfl, by decide +kernel, rfl, by decide +kernel, by decide +kernel⟩
/-- the heap but for one object -/
def Sam (q : Addr) (H H' : Hp) : Prop := ∀ b o, H b = some o → b ≠ q → H' b = some o
theorem Sam.same {q : Addr} {H H1 H2 : Hp} (h : Sam q H H1) (s : Same H1 H2) : Sam q H H2 := fun b o e n => s _ _ (h b o e n)
theorem Sam.upd {q : Addr} {H H1 : Hp} {o : HO} (h : Sam q H H1) : Sam q H (upd H1 q o) := fun b x e n => by rw [upd_ne n]; exact h b x e n
theorem TS.sam {q : Addr} {H H' : Hp} {o : HO} (s : Sam q H H') (hq : H q = some o) (no : ∀ xs, o ≠ .tup xs) : TS H H' := fun t xs e => s t _ e fun z => by subst z; rw [hq] at e; exact no xs (Option.some.inj e)
theorem Ltr.len {z : Str} (h : Ltr z) : z.length = 1 := by obtain ⟨c, rfl, _⟩ := h; rfl
end Rep
namespace Rep
open PySem L2 L2H RepHot
/-! defs that refuse -/
structure ExT (K : PySem.W.Frag) (mg : Str → Option Value) (x : Str) (C : Addr) : Prop where
  g : mg x = some (.ref C)
  x : PySem.W.excIn K C [.type "ValueError", .type "Exception", .type "BaseException", .type "object"] "ValueError.__new__" = true
  k : PySem.W.keepIn K (.ref C) = true
  b : PySem.W.subIn K (.ref C) (.type "BaseException") = some true
  t : PySem.W.typeIn K (.ref C) = some (.type "type")
end Rep
namespace Rep
open PySem L2 L2H RepHot
/-- a stretch of the song -/
def St_ (x n e : Int) : Prop := 1 ≤ n ∧ 0 ≤ x ∧ x + n ≤ e
instance {x n e : Int} : Decidable (St_ x n e) := inferInstanceAs (Decidable (1 ≤ n ∧ 0 ≤ x ∧ x + n ≤ e))
def spChksX (BS : Addr) : Sp := fun vs H Q E => ∃ e x n : Int, vs = [.int e, .int x, .int n] ∧ (St_ x n e → Q .non H) ∧ (¬ St_ x n e → E (.ref BS) none H)
section
variable {Pg : Program} {w : World} {K : PySem.W.Frag} {mg : Str → Option Value} {base : Heap}
theorem ok_chksX {f BS : Addr} {fd : FuncData} {k : Nat} (F : Fun K "check_stretch" "check_stretch" sCheck_stretch f fd) (X : ExT K mg "BadStretch" BS) : FnOk Pg w K mg base (L2N.CX Pg w) (k + 1) f fd ["length", "at", "many"] (spChksX BS) := by
  refine okN F scChks (fun vs H Q E h => ?_) (fun cdv A outer s H vs Q E hr h => ?_)
  · obtain ⟨e, x, n, rfl, _⟩ := h; rfl
  obtain ⟨e, x, n, rfl, q, qe⟩ := h
  refine ⟨_, (pss_one (ps_if (PW.pt (pw_or (pt_cmpR op_lt (pv 2) pe_int (nomark _)) (pw_or (pt_cmpR op_lt (pv 1) pe_int (nomark _)) (pw_or1 (pt_cmpR op_gt (pe_op op_add (pv 1) (pv 2)) (pv 0) (nomark _)))))) (pss_one (L2N.ps_raise rfl (L2N.takes_of rfl rfl rfl rfl) (L2N.pmk_own PySem.F.excBase_ValueError X.x X.g X.k (raises_own X.b X.t) rfl))) pss_nil)), ?_⟩
  refine ⟨.int n, rfl, _, 1, rfl, rfl, _, rfl, ite2 (fun c => ?_) (fun c => ?_)⟩
  · have c := of_decide_eq_true c
    refine iteT ?_
    exact qe fun z => by have := z.1; omega
  · have c : ¬ n < 1 := fun z => c (decide_eq_true z)
    refine ⟨.int x, rfl, _, 0, rfl, rfl, _, rfl, ite2 (fun d => ?_) (fun d => ?_)⟩
    · have d := of_decide_eq_true d
      refine iteT ?_
      exact qe fun z => by have := z.2.1; omega
    · have d : ¬ x < 0 := fun z => d (decide_eq_true z)
      refine ⟨.int x, rfl, .int n, rfl, _, _, rfl, rfl, .int e, rfl, _, _, rfl, rfl, _, rfl, ite2 (fun g => ?_) (fun g => ?_)⟩
      · have g := of_decide_eq_true g
        exact qe fun z => by have := z.2.2; omega
      · have g : ¬ x + n > e := fun z => g (decide_eq_true z)
        exact q ⟨by omega, by omega, by omega⟩
end
end Rep
namespace Rep
open PySem L2 L2H RepHot
/-! Memories made where something may be refused -/
theorem ltr_one {c : Nat} : Ltr ⟨#[c]⟩ ↔ 97 ≤ c ∧ c ≤ 122 := by
  constructor
  · rintro ⟨d, e, h1, h2⟩
    have : #[c] = #[d] := by injection e
    have : c = d := by simpa using this
    subst this
    exact ⟨h1, h2⟩
  · rintro ⟨h1, h2⟩
    exact ⟨c, rfl, h1, h2⟩
theorem lt_one {c d : Nat} : ([c] < [d]) ↔ c < d := by
  constructor
  · intro z
    rcases List.cons_lt_cons_iff.mp z with z | z
    · exact z
    · exact absurd z.2 (List.lt_irrefl [])
  · intro h
    exact List.cons_lt_cons_iff.mpr (.inl h)
theorem str_one {z : Str} (h : z.length = 1) : ∃ c, z = ⟨#[c]⟩ := by
  obtain ⟨a⟩ := z
  have h : a.size = 1 := h
  obtain ⟨l⟩ := a
  match l, h with
  | [c], _ => exact ⟨c, rfl⟩
def spLetterX (BL : Addr) : Sp := fun vs H Q E => ∃ z : Str, vs = [.str z] ∧ z.length ≤ 1000 ∧ (Ltr z → Q .non H) ∧ (¬ Ltr z → E (.ref BL) none H)
section
variable {Pg : Program} {w : World} {K : PySem.W.Frag} {mg : Str → Option Value} {base : Heap}
theorem ok_letterX {f BL : Addr} {fd : FuncData} {k : Nat} (F : Fun K "check_letter" "check_letter" sCheck_letter f fd) (T : TySame mg) (X : ExT K mg "BadLetter" BL) : FnOk Pg w K mg base (L2N.CX Pg w) (k + 1) f fd ["letter"] (spLetterX BL) := by
  refine okN F scLetter (fun vs H Q E h => ?_) (fun cdv A outer s H vs Q E hr h => ?_)
  · obtain ⟨z, rfl, _⟩ := h; rfl
  obtain ⟨z, rfl, hz, q, qe⟩ := h
  refine ⟨_, (pss_one (ps_if (PW.pt (pw_or (pt_not (pt_val (pe_callB call_isi (by rfl) T.isi PyProof.Rows.boot_isinstance (pa_cons (pv 0) (pa_cons (pe_bltn (v := .ty "str") (by rfl) T.str PyProof.Rows.boot_str rfl) pa_nil))))) (pw_or (pt_cmpR op_ne (pe_callB call_len_str (by rfl) T.len PySem.boot_len (pa_cons (pv 0) pa_nil)) pe_int (nomark _)) (pw_or (pt_cmpR op_lt_str (pv 0) pe_str (nomark _)) (pw_or1 (pt_cmpR op_gt_str (pv 0) pe_str (nomark _))))))) (pss_one (L2N.ps_raise rfl (L2N.takes_of rfl rfl rfl rfl) (L2N.pmk_own PySem.F.excBase_ValueError X.x X.g X.k (raises_own X.b X.t) rfl))) pss_nil)), ?_⟩
  have ea : ("a" : Str).cps.toList = [97] := by decide +kernel
  have ez : ("z" : Str).cps.toList = [122] := by decide +kernel
  refine ⟨.str z, rfl, .str z, _, _, _, true, rfl, .ty "str", .base (.str _), kit_ty (K := K) (show kitB "str" "str" = some true by decide +kernel), true, rfl, ?_⟩
  refine iteF ?_
  refine ⟨.str z, rfl, _, rfl, Nat.le_trans hz (by decide), rfl, _, rfl, ?_⟩
  by_cases hl : z.length = 1
  · obtain ⟨c, rfl⟩ := str_one hl
    rw [show (!decide (V.int ((Str.length ⟨#[c]⟩ : Nat) : Int) = V.int 1)) = false by show (!decide (V.int ((1 : Nat) : Int) = V.int 1)) = false; decide]
    refine iteF ?_
    refine ⟨.str ⟨#[c]⟩, rfl, _, _, rfl, rfl, _, rfl, ?_⟩
    refine ite2 (fun d => ?_) (fun d => ?_)
    · have d := of_decide_eq_true d
      rw [ea] at d
      have d := lt_one.mp d
      refine iteT ?_
      exact qe fun z => by have := (ltr_one.mp z).1; omega
    · have d1 : ¬ c < 97 := fun y => d (decide_eq_true (by rw [ea]; exact lt_one.mpr y))
      refine ⟨.str ⟨#[c]⟩, rfl, _, _, rfl, rfl, _, rfl, ?_⟩
      refine ite2 (fun g => ?_) (fun g => ?_)
      · have g := of_decide_eq_true g
        rw [ez] at g
        have g := lt_one.mp g
        exact qe fun z => by have := (ltr_one.mp z).2; omega
      · have g1 : ¬ 122 < c := fun y => g (decide_eq_true (by rw [ez]; exact lt_one.mpr y))
        exact q (ltr_one.mpr ⟨by omega, by omega⟩)
  · rw [show (!decide (V.int ((Str.length z : Nat) : Int) = V.int 1)) = true by
      rw [decide_eq_false (fun y => hl (by have := V.int.inj y; omega))]; rfl]
    refine iteT ?_
    refine iteT ?_
    exact qe fun y => hl y.len
end
def spCmemX (BL BS : Addr) : Sp := fun vs H Q E => ∃ (e x n : Int) (z : Str), vs = [.int e, .str z, .int x, .int n] ∧ z.length ≤ 1000 ∧ (Ltr z → St_ x n e → Q .non H) ∧ (¬ Ltr z → E (.ref BL) none H) ∧ (Ltr z → ¬ St_ x n e → E (.ref BS) none H)
section
variable {Pg : Program} {w : World} {K : PySem.W.Frag} {mg : Str → Option Value} {base : Heap}
theorem ok_cmemX {f fL fS BL BS : Addr} {fd fdL fdS : FuncData} {k : Nat} (F : Fun K "check_memory" "check_memory" sCheck_memory f fd) (GL : FnOk Pg w K mg base (L2N.CX Pg w) k fL fdL ["letter"] (spLetterX BL)) (kL : PySem.W.keepIn K (.ref fL) = true) (bL : Binds K fdL ["letter"] []) (mL_ : mg "check_letter" = some (.ref fL))
    (GS : FnOk Pg w K mg base (L2N.CX Pg w) k fS fdS ["length", "at", "many"] (spChksX BS)) (kS : PySem.W.keepIn K (.ref fS) = true) (bS : Binds K fdS ["length", "at", "many"] []) (mS_ : mg "check_stretch" = some (.ref fS)) : FnOk Pg w K mg base (L2N.CX Pg w) (k + 1) f fd ["length", "letter", "at", "many"] (spCmemX BL BS) := by
  refine okN F scCmem (fun vs H Q E h => ?_) (fun cdv A outer s H vs Q E hr h => ?_)
  · obtain ⟨e, x, n, z, rfl, _⟩ := h; rfl
  obtain ⟨e, x, n, z, rfl, hz, q, q1, q2⟩ := h
  refine ⟨_, (pss_cons (ps_expr (pe_call GL hr (by rfl) mL_ kL bL .nil (L2N.passes_call (L2N.takes_of rfl rfl rfl rfl) (fun _ _ _ _ h => h)) (pa_cons (pv 1) pa_nil)))
    (pss_one (ps_expr (pe_call GS hr (by rfl) mS_ kS bS .nil (L2N.passes_call (L2N.takes_of rfl rfl rfl rfl) (fun _ _ _ _ h => h)) (pa_cons (pv 0) (pa_cons (pv 2) (pa_cons (pv 3) pa_nil))))))), ?_⟩
  exact ⟨.str z, rfl, z, rfl, hz, fun hl => ⟨.int e, rfl, .int x, rfl, .int n, rfl, e, x, n, rfl, fun hs => q hl hs, fun hs => q2 hl hs⟩, fun hl => q1 hl⟩
end
end Rep
namespace Rep
open PySem L2
def spLl : Sp := fun vs H Q _ => ∃ r : Int, vs = [.int r] ∧ ∀ z, Ltr z → Q (.str z) H
theorem scLl : FnScope ["_law_raw_here"] ["_law_raw_here"] (defScope s_law_letter) := ⟨rfl, rfl, rfl, by decide +kernel, rfl, by decide +kernel, by decide +kernel⟩
theorem abc_at : ∀ j : Nat, j < 26 → ("abcdefghijklmnopqrstuvwxyz" : Str).cps.toList[j]? = some (97 + j) := by decide +kernel
section
variable {Pg : Program} {w : World} {K : PySem.W.Frag} {mg : Str → Option Value} {base : Heap}
theorem ok_ll {f : Addr} {fd : FuncData} {k : Nat} (F : Fun K "_law_letter" "_law_letter" s_law_letter f fd) : FnOk Pg w K mg base CX0 (k + 1) f fd ["_law_raw_here"] spLl := by
  refine F.ok scLl (fun vs H Q E h => ?_) (fun cdv A outer s H vs Q E hr h => ?_)
  · obtain ⟨r, rfl, _⟩ := h; rfl
  obtain ⟨r, rfl, q⟩ := h
  refine ⟨_, (pss_one (ps_ret (pe_ix ix_str pe_str (pe_op op_mod (pv 0) pe_int) (fun _ _ => rfl)))), ?_⟩
  have m0 := Int.emod_nonneg r (show (26 : Int) ≠ 0 by decide)
  have m1 := Int.emod_lt_of_pos r (show (0 : Int) < 26 by decide)
  obtain ⟨j, hj⟩ : ∃ j : Nat, r % 26 = (j : Int) := ⟨(r % 26).toNat, by omega⟩
  refine ⟨.int r, rfl, _, 26, rfl, rfl, (by show (0 : Int) < 26; decide), _, _, 97 + j, rfl, rfl, (by show 26 ≤ sizeLine; decide), ?_, q _ ⟨97 + j, rfl, by omega, by omega⟩⟩
  rw [hj]
  exact atI_nat (abc_at j (by omega))
end
end Rep
namespace Rep
open PySem L2 L2H RepHot
/-! what sheets rest on: checks that refuse, rows by their numbers -/
def In40 (e : Int) : Prop := 0 ≤ e ∧ e < 10 ^ 40
def HdAt (H : Hp) (v : V) (n : Int) : Prop := ∃ t r, v = .ref t ∧ H t = some (.tup (.int n :: r))
structure Rw where
  num : Int
  sy : Sy
def RwAt (H : Hp) (v : V) (r : Rw) : Prop := ∃ t, v = .ref t ∧ H t = some (.tup [.int r.num, .int r.sy.lo, .int r.sy.hi, .int r.sy.n, .bl r.sy.t])
theorem RwAt.ts {H H' : Hp} (h : TS H H') {v : V} {r : Rw} (k : RwAt H v r) : RwAt H' v r := by obtain ⟨t, e, ht⟩ := k; exact ⟨t, e, h _ _ ht⟩
abbrev RL (H : Hp) (vs : List V) (rs : List Rw) : Prop := LL RwAt H vs rs
theorem RL.ts {H H' : Hp} (h : TS H H') {vs : List V} {rs : List Rw} (k : RL H vs rs) : RL H' vs rs := k.imp fun _ _ z => z.ts h
theorem RL.hd {H : Hp} {vs : List V} {rs : List Rw} (k : RL H vs rs) : LL HdAt H vs (rs.map Rw.num) := by
  refine ⟨by rw [List.length_map]; exact k.len, fun i v a h1 h2 => ?_⟩
  rw [List.getElem?_map] at h2
  obtain ⟨r, hr, rfl⟩ := Option.map_eq_some_iff.mp h2
  obtain ⟨t, e, ht⟩ := k.at_ i v r h1 hr
  exact ⟨t, _, e, ht⟩
theorem ML.hd {H : Hp} {vs : List V} {ms : List Me} (k : ML H vs ms) : LL HdAt H vs (ms.map Me.num) := by
  refine ⟨by rw [List.length_map]; exact k.len, fun i v a h1 h2 => ?_⟩
  rw [List.getElem?_map] at h2
  obtain ⟨r, hr, rfl⟩ := Option.map_eq_some_iff.mp h2
  obtain ⟨t, e, ht⟩ := k.at_ i v r h1 hr
  exact ⟨t, _, e, ht⟩
theorem cutTo (xs : List V) (i : Nat) : cutV xs none (some (i : Int)) = xs.take i := by
  unfold cutV
  rw [show HT.sIx xs.length xs.length (some (i : Int)) = min i xs.length from HT.sIx_nat xs.length xs.length i, HT.sIx_none]
  show (xs.take (min i xs.length - 0)) = _
  rw [Nat.sub_zero]
  rcases Nat.le_total i xs.length with h | h
  · rw [Nat.min_eq_left h]
  · rw [Nat.min_eq_right h, List.take_length, List.take_of_length_le h]
theorem cutFrom (xs : List V) (i : Nat) : cutV xs (some (i : Int)) none = xs.drop i := by
  unfold cutV
  rw [show HT.sIx xs.length 0 (some (i : Int)) = min i xs.length from HT.sIx_nat xs.length 0 i, HT.sIx_none]
  show ((xs.drop (min i xs.length)).take (xs.length - min i xs.length)) = _
  rcases Nat.le_total i xs.length with h | h
  · rw [Nat.min_eq_left h]; exact List.take_of_length_le (by rw [List.length_drop]; omega)
  · rw [Nat.min_eq_right h, Nat.sub_self, List.drop_of_length_le h]; rfl
theorem atI_0 (v : V) (r : List V) : atI (v :: r) 0 = some v := by
  unfold atI ixN
  rw [if_pos (by decide), if_pos (by rw [List.length_cons]; omega)]
  rfl
/-- the place of the first that has the number -/
def Fst (ns : List Int) (n : Int) (k : Nat) : Prop := ns[k]? = some n ∧ ∀ j < k, ns[j]? ≠ some n
def spChklX (BL : Addr) : Sp := fun vs H Q E => ∃ e : Int, vs = [.int e] ∧ (In40 e → Q .non H) ∧ (¬ In40 e → E (.ref BL) none H)
def spChkssX (K : PySem.W.Frag) (BS : Addr) : Sp := fun vs H Q E => ∃ (e : Int) (a : Addr) (xs : List V) (ss : List Sy), vs = [.int e, .ref a] ∧ SqL K H a xs ∧ SL H xs ss ∧ ((∀ s ∈ ss, St_ s.lo s.n e ∧ St_ s.hi s.n e) → Q .non H) ∧ (¬ (∀ s ∈ ss, St_ s.lo s.n e ∧ St_ s.hi s.n e) → E (.ref BS) none H)
def spPlo (K : PySem.W.Frag) (NN : Addr) : Sp := fun vs H Q E => ∃ (a : Addr) (xs : List V) (ns : List Int) (n : Int), vs = [.ref a, .int n] ∧ SqL K H a xs ∧ LL HdAt H xs ns ∧ ns.length ≤ 1000 ∧ (∀ k H', Same H H' → Fst ns n k → Q (.int (k : Nat)) H') ∧ (n ∉ ns → ∀ H', Same H H' → E (.ref NN) none H')
def spWout (K : PySem.W.Frag) (NN : Addr) : Sp := fun vs H Q E => ∃ (a : Addr) (xs : List V) (ns : List Int) (n : Int), vs = [.ref a, .int n] ∧ H a = some (.lst xs) ∧ LL HdAt H xs ns ∧ ns.length ≤ 1000 ∧ (∀ k H' l, Same H H' → Fst ns n k → H l = none → H' l = some (.lst (xs.eraseIdx k)) → Q (.ref l) H') ∧ (n ∉ ns → ∀ H', Same H H' → E (.ref NN) none H')
def spUnn (K : PySem.W.Frag) : Sp := fun vs H Q _ => ∃ (a : Addr) (xs : List V) (rs : List Rw), vs = [.ref a] ∧ H a = some (.lst xs) ∧ RL H xs rs ∧ rs.length ≤ 1000 ∧ ∀ H' l ys, Same H H' → H l = none → H' l = some (.lst ys) → SL H' ys (rs.map Rw.sy) → Q (.ref l) H'
def spRoom (K : PySem.W.Frag) (FU : Addr) : Sp := fun vs H Q E => ∃ (a : Addr) (xs : List V), vs = [.ref a] ∧ H a = some (.lst xs) ∧ (xs.length < 24 → Q .non H) ∧ (¬ xs.length < 24 → E (.ref FU) none H)
def spChg (BL : Addr) : Sp := fun vs H Q E => ∃ m : Int, vs = [.int m] ∧ (1 ≤ m → Q .non H) ∧ (¬ 1 ≤ m → E (.ref BL) none H)
abbrev nUnn : List Str := ["rows", "number", "one", "other", "many", "turned"]
theorem scUnn : FnScope nUnn ["rows"] (defScope sUnnumbered) := ⟨rfl, rfl, rfl, by decide +kernel, rfl, by decide +kernel, by decide +kernel⟩
theorem scPlo : FnScope ["rows", "number", "k", "row"] ["rows", "number"] (defScope sPlace_of) := ⟨rfl, rfl, rfl, by decide +kernel, rfl, by decide +kernel, by decide +kernel⟩
theorem scWout : FnScope ["rows", "number", "k"] ["rows", "number"] (defScope sWithout) := ⟨rfl, rfl, rfl, by decide +kernel, rfl, by decide +kernel, by decide +kernel⟩
theorem scRoom : FnScope ["rows"] ["rows"] (defScope sCheck_room) := ⟨rfl, rfl, rfl, by decide +kernel, rfl, by decide +kernel, by decide +kernel⟩
theorem scChg : FnScope ["many"] ["many"] (defScope sCheck_change) := ⟨rfl, rfl, rfl, by decide +kernel, rfl, by decide +kernel, by decide +kernel⟩
structure TPl (K : PySem.W.Frag) (mg : Str → Option Value) (BL NN FU : Addr) : Prop where
  xBL : ExT K mg "BadLength" BL
  xNN : ExT K mg "NoNumber" NN
  xFU : ExT K mg "Full" FU
  mTOO_LONG : ∃ u, mg "TOO_LONG" = some u ∧ RelV (.int (10 ^ 40)) u
  mMOST : ∃ u, mg "MOST" = some u ∧ RelV (.int 24) u
  ml : mg "len" = none
  menumerate : mg "enumerate" = none
structure TCt (Pg : Program) (w : World) (K : PySem.W.Frag) (mg : Str → Option Value) (base : Heap) (BS : Addr) (k : Nat) (fCt : Addr) (fdCt : FuncData) : Prop where
  gCt : FnOk Pg w K mg base (L2N.CX Pg w) k fCt fdCt ["length", "at", "many"] (spChksX BS)
  bCt : Binds K fdCt ["length", "at", "many"] []
  kCt : PySem.W.keepIn K (.ref fCt) = true
  mCt : mg "check_stretch" = some (.ref fCt)
structure TPo (Pg : Program) (w : World) (K : PySem.W.Frag) (mg : Str → Option Value) (base : Heap) (NN : Addr) (k : Nat) (fPo : Addr) (fdPo : FuncData) : Prop where
  gPo : FnOk Pg w K mg base (L2N.CX Pg w) k fPo fdPo ["rows", "number"] (spPlo K NN)
  bPo : Binds K fdPo ["rows", "number"] []
  kPo : PySem.W.keepIn K (.ref fPo) = true
  mPo : mg "place_of" = some (.ref fPo)
section
variable {Pg : Program} {w : World} {K : PySem.W.Frag} {mg : Str → Option Value} {base : Heap} {BL NN FU BS : Addr}
theorem ok_chklX {f : Addr} {fd : FuncData} {k : Nat} (F : Fun K "check_length" "check_length" sCheck_length f fd) (T : TPl K mg BL NN FU) : FnOk Pg w K mg base (L2N.CX Pg w) (k + 1) f fd ["length"] (spChklX BL) := by
  refine okN F scChkl (fun vs H Q E h => ?_) (fun cdv A outer s H vs Q E hr h => ?_)
  · obtain ⟨e, rfl, _⟩ := h; rfl
  obtain ⟨e, rfl, q, qe⟩ := h
  refine ⟨_, (pss_one (ps_if (PW.pt (pw_or (pt_cmpR op_lt (pv 0) pe_int (nomark _)) (pw_or1 (pt_cmpR op_ge (pv 0) (C8.pe_gc (by rfl) T.mTOO_LONG) (nomark _))))) (pss_one (L2N.ps_raise rfl (L2N.takes_of rfl rfl rfl rfl) (L2N.pmk_own PySem.F.excBase_ValueError T.xBL.x T.xBL.g T.xBL.k (raises_own T.xBL.b T.xBL.t) rfl))) pss_nil)), ?_⟩
  refine ⟨.int e, rfl, _, 0, rfl, rfl, _, rfl, ite2 (fun c => ?_) (fun c => ?_)⟩
  · have c := of_decide_eq_true c
    refine iteT ?_
    exact qe fun z => by have := z.1; omega
  · have c : ¬ e < 0 := fun z => c (decide_eq_true z)
    refine ⟨.int e, rfl, _, _, rfl, rfl, _, rfl, ite2 (fun d => ?_) (fun d => ?_)⟩
    · have d := of_decide_eq_true d
      exact qe fun z => by have := z.2; omega
    · have d : ¬ e ≥ 10 ^ 40 := fun z => d (decide_eq_true z)
      exact q ⟨by omega, by omega⟩
theorem ok_chkssX {f fCt : Addr} {fd fdCt : FuncData} {k : Nat} (F : Fun K "check_sayings" "check_sayings" sCheck_sayings f fd) (T : TCt Pg w K mg base BS k fCt fdCt) : FnOk Pg w K mg base (L2N.CX Pg w) (k + 1) f fd ["length", "sayings"] (spChkssX K BS) := by
  refine okN F scChkss (fun vs H Q E h => ?_) (fun cdv A outer s H vs Q E hr h => ?_)
  · obtain ⟨e, a, xs, ss, rfl, _⟩ := h; rfl
  obtain ⟨e, a, xs, ss, rfl, hX, sl, q, qe⟩ := h
  refine ⟨_, (pss_one (ps_for (passes_of rfl) rfl (pi_list (pv 1)) (pg_tup rfl (pgs_cons (pg_name (i := 2) scChkss.nd rfl (.inl rfl)) (pgs_cons (pg_name (i := 3) scChkss.nd rfl (.inl rfl)) (pgs_cons (pg_name (i := 4) scChkss.nd rfl (.inl rfl)) (pgs_cons (pg_name (i := 5) scChkss.nd rfl (.inl rfl)) pgs_nil)))))
      (pss_cons (ps_expr (pe_call T.gCt hr (by rfl) T.mCt T.kCt T.bCt .nil (L2N.passes_call (L2N.takes_of rfl rfl rfl rfl) (fun _ _ _ _ h => h)) (pa_cons (pv 0) (pa_cons (pv 2) (pa_cons (pv 4) pa_nil)))))
    (pss_one (ps_expr (pe_call T.gCt hr (by rfl) T.mCt T.kCt T.bCt .nil (L2N.passes_call (L2N.takes_of rfl rfl rfl rfl) (fun _ _ _ _ h => h)) (pa_cons (pv 0) (pa_cons (pv 3) (pa_cons (pv 4) pa_nil))))))))), ?_⟩
  refine ⟨.ref a, rfl, a, rfl, ⟨_, hX⟩, for_list (xs := xs) (fun i σ H2 => H2 = H ∧ (∃ y2 y3 y4 y5, σ = [some (.int e), some (.ref a), y2, y3, y4, y5]) ∧ ∀ s ∈ ss.take i, St_ s.lo s.n e ∧ St_ s.hi s.n e) ⟨rfl, ⟨_, _, _, _, rfl⟩, fun s hs => nomatch hs⟩ (fun i σ H2 _ h => by rw [h.1]; exact hX) ?_ ?_⟩
  · rintro i y σ H2 hi ⟨rfl, ⟨y2, y3, y4, y5, rfl⟩, hg⟩
    obtain ⟨u, hu, t, rfl, ht⟩ := sl.get hi
    refine ⟨t, _, rfl, .inl (.inl ht), rfl, _, _, rfl, _, _, rfl, _, _, rfl, _, _, rfl, rfl, ?_⟩
    refine ⟨.int e, rfl, .int u.lo, rfl, .int u.n, rfl, e, u.lo, u.n, rfl, fun g1 => ?_, fun g1 => qe fun z => g1 (z u (List.mem_of_getElem? hu)).1⟩
    refine ⟨.int e, rfl, .int u.hi, rfl, .int u.n, rfl, e, u.hi, u.n, rfl, fun g2 => ?_, fun g2 => qe fun z => g2 (z u (List.mem_of_getElem? hu)).2⟩
    refine ⟨rfl, ⟨_, _, _, _, rfl⟩, fun s hs => ?_⟩
    rw [List.take_add_one, hu] at hs
    rcases List.mem_append.mp hs with hs | hs
    · exact hg s hs
    · rw [List.mem_singleton.mp hs]; exact ⟨g1, g2⟩
  · rintro σ H2 ⟨rfl, _, hg⟩
    rw [sl.len, List.take_length] at hg
    exact q hg
theorem ok_plo {f : Addr} {fd : FuncData} {k : Nat} (F : Fun K "place_of" "place_of" sPlace_of f fd) (T : TPl K mg BL NN FU) : FnOk Pg w K mg base (L2N.CX Pg w) (k + 1) f fd ["rows", "number"] (spPlo K NN) := by
  refine okN F scPlo (fun vs H Q E h => ?_) (fun cdv A outer s H vs Q E hr h => ?_)
  · obtain ⟨a, xs, ns, n, rfl, _⟩ := h; rfl
  obtain ⟨a, xs, ns, n, rfl, hX, ll, hl, q, qe⟩ := h
  refine ⟨_, (pss_cons (ps_for (passes_of rfl) rfl (pi_enum (by rfl) T.menumerate (pa_cons (pv 0) pa_nil)) (pg_tup rfl (pgs_cons (pg_name (i := 2) scPlo.nd rfl (.inl rfl)) (pgs_cons (pg_name (i := 3) scPlo.nd rfl (.inl rfl)) pgs_nil)))
      (pss_one (ps_if (pt_cmpR op_eq (pe_ix ix_tup (pv 3) pe_int (fun _ _ => rfl)) (pv 1) (nomark _)) (pss_one (ps_ret (pv 2))) pss_nil)))
    (pss_one (L2N.ps_raise rfl (L2N.takes_of rfl rfl rfl rfl) (L2N.pmk_own PySem.F.excBase_ValueError T.xNN.x T.xNN.g T.xNN.k (raises_own T.xNN.b T.xNN.t) rfl)))), ?_⟩
  have xl := ll.len
  refine ⟨.ref a, rfl, a, xs, rfl, hX, for_it (walk_enum (K := K) (a := a) (xs := xs)) (fun j σ' H' => ∃ y2 y3, σ' = [some (.ref a), some (.int n), y2, y3] ∧ Same H H' ∧ ∀ i < j, ns[i]? ≠ some n) ⟨none, none, rfl, Same.refl _, fun i hi => absurd hi (Nat.not_lt_zero _)⟩ (fun j σ' H' _ hP => ?_) (fun i v σ' H1 H1' hi hP hy => ?_) (fun σ' H' hP => ?_)⟩
  · obtain ⟨_, _, _, sm, _⟩ := hP
    exact sm.seq hX
  · obtain ⟨y2, y3, rfl, s1, qt⟩ := hP
    obtain ⟨tj, v1, v2, rfl, ntj, rfl, g1, g2⟩ := hy
    have g1 : some (V.int (i : Int)) = some v1 := g1
    cases g1
    have g2 : xs[i]? = some v2 := g2
    obtain ⟨m, hm, t, r, rfl, ht⟩ := ll.get g2
    have sj := same_upd (o := .tup [.int (i : Int), .ref t]) ntj
    refine ⟨tj, _, rfl, .inl (.inl upd_same), rfl, _, _, rfl, _, _, rfl, rfl, ?_⟩
    have s2 := s1.trans sj
    generalize upd H1 tj (.tup [.int (i : Int), .ref t]) = H2 at s2 ⊢
    refine ⟨.ref t, rfl, t, _, _, .int m, rfl, rfl, .inl (.inl (s2 _ _ ht)), atI_0 _ _, .int n, rfl, rfl, _, rfl, ite2 (fun c => ?_) (fun c => ?_)⟩
    · have c : m = n := V.int.inj (of_decide_eq_true c)
      subst c
      exact ⟨.int (i : Int), rfl, q i H2 s2 ⟨hm, qt⟩⟩
    · refine ⟨_, _, rfl, s2, fun k hk => ?_⟩
      by_cases e : k = i
      · subst e
        rw [hm]
        exact fun z => c (decide_eq_true (by rw [Option.some.inj z]))
      · exact qt k (by omega)
  · obtain ⟨y2, y3, rfl, s1, qt⟩ := hP
    refine qe (fun z => ?_) H' s1
    obtain ⟨i, hi⟩ := List.mem_iff_getElem?.mp z
    have := (List.getElem?_eq_some_iff.mp hi).1
    exact qt i (by omega) hi
theorem ok_wout {f fPo : Addr} {fd fdPo : FuncData} {k : Nat} (F : Fun K "without" "without" sWithout f fd) (T : TPo Pg w K mg base NN k fPo fdPo) : FnOk Pg w K mg base (L2N.CX Pg w) (k + 1) f fd ["rows", "number"] (spWout K NN) := by
  refine okN F scWout (fun vs H Q E h => ?_) (fun cdv A outer s H vs Q E hr h => ?_)
  · obtain ⟨a, xs, ns, n, rfl, _⟩ := h; rfl
  obtain ⟨a, xs, ns, n, rfl, hX, ll, hl, q, qe⟩ := h
  refine ⟨_, (pss_cons (ps_set (i := 2) scWout.nd rfl (.inl rfl) (pe_call T.gPo hr (by rfl) T.mPo T.kPo T.bPo .nil (L2N.passes_call (L2N.takes_of rfl rfl rfl rfl) (fun _ _ _ _ h => h)) (pa_cons (pv 0) (pa_cons (pv 1) pa_nil))))
    (pss_one (ps_ret (pe_op op_cat (pe_slice sl_list (pv 0) po_none (po_some (pv 2))) (pe_slice sl_list (pv 0) (po_some (pe_op op_add (pv 2) pe_int)) po_none))))), ?_⟩
  have xl := ll.len
  refine ⟨.ref a, rfl, .int n, rfl, a, xs, ns, n, rfl, .inl (.inl hX), ll, hl, fun k H1 s1 hk => ?_, qe⟩
  refine ⟨.ref a, rfl, .int (k : Int), rfl, _, rfl, a, xs, rfl, .inl (.inl (s1 _ _ hX)), ?_⟩
  intro l1 n_l1
  generalize e_l1 : upd H1 l1 _ = H2
  have s2 := new_same e_l1 n_l1
  have z2 := new_at e_l1
  clear e_l1
  refine ⟨.ref a, rfl, .int (k : Int), rfl, _, _, rfl, rfl, _, rfl, a, xs, rfl, .inl (.inl (s2 _ _ (s1 _ _ hX))), ?_⟩
  intro l2 n_l2
  generalize e_l2 : upd H2 l2 _ = H3
  have s3 := new_same e_l2 n_l2
  have z3 := new_at e_l2
  clear e_l2
  have ec : cutV xs (some ((k : Int) + 1)) none = xs.drop (k + 1) := cutFrom xs (k + 1)
  rw [cutTo] at z2
  rw [ec] at z3
  refine ⟨l1, l2, _, _, rfl, rfl, s3 _ _ z2, z3, ?_, ?_⟩
  · rw [List.length_take, List.length_drop]
    exact Nat.le_trans (show _ ≤ 1000 by omega) (by decide)
  intro l3 n_l3
  generalize e_l3 : upd H3 l3 _ = H4
  have s4 := new_same e_l3 n_l3
  have z4 := new_at e_l3
  clear e_l3
  rw [← List.eraseIdx_eq_take_drop_succ] at z4
  have s14 := s1.trans (s2.trans (s3.trans s4))
  exact q k H4 l3 s14 hk (Same.free (s1.trans (s2.trans s3)) n_l3) z4
theorem ok_unn {f : Addr} {fd : FuncData} {k : Nat} (F : Fun K "unnumbered" "unnumbered" sUnnumbered f fd) : FnOk Pg w K mg base CX0 (k + 1) f fd ["rows"] (spUnn K) := by
  refine F.ok scUnn (fun vs H Q E h => ?_) (fun cdv A outer s H vs Q E hr h => ?_)
  · obtain ⟨a, xs, rs, rfl, _⟩ := h; rfl
  obtain ⟨a, xs, rs, rfl, hX, rl, hl, q⟩ := h
  refine ⟨_, (pss_one (ps_ret (pe_lc (own := [("number", 1), ("one", 2), ("other", 3), ("many", 4), ("turned", 5)]) (g := (gTup K 5 (gCons (gName 1) (gCons (gName 2) (gCons (gName 3) (gCons (gName 4) (gCons (gName 5) gNil))))))) (tt := tYes) rfl scUnn.nd (pi_list (pv 0)) (blkOk_by (N := nUnn) (sc := defScope sUnnumbered) (by decide +kernel)) (fun _ _ _ _ _ => (pg_tup rfl (pgs_cons (pg_name (i := 1) scUnn.nd rfl (.inl rfl)) (pgs_cons (pg_name (i := 2) scUnn.nd rfl (.inl rfl)) (pgs_cons (pg_name (i := 3) scUnn.nd rfl (.inl rfl)) (pgs_cons (pg_name (i := 4) scUnn.nd rfl (.inl rfl)) (pgs_cons (pg_name (i := 5) scUnn.nd rfl (.inl rfl)) pgs_nil))))))) (fun _ _ _ _ _ => pts_nil) (fun _ _ _ _ _ => (pe_tup (pa_cons (pv 2) (pa_cons (pv 3) (pa_cons (pv 4) (pa_cons (pv 5) pa_nil))))))))), ?_⟩
  refine ⟨.ref a, rfl, a, rfl, ⟨_, .inl (.inl hX)⟩, fun D nD => ?_⟩
  refine lc_list (xs := xs) (fun i H3 => Same H H3 ∧ ∃ ys, H3 D = some (.lst ys) ∧ SL H3 ys ((rs.map Rw.sy).take i) ∧ ys.length = i) ⟨same_upd nD, [], upd_same, LL.nil, rfl⟩ (fun i H3 _ hP => .inl (.inl (hP.1 _ _ hX))) (fun i v H3 hv hP => ?_) (fun H3 hP => ?_)
  · obtain ⟨sm, ys, eD, sl, yl⟩ := hP
    obtain ⟨r, hr_, t, rfl, ht⟩ := rl.get hv
    have hi : i < rs.length := (List.getElem?_eq_some_iff.mp hr_).1
    refine ⟨t, _, rfl, .inl (.inl (sm _ _ ht)), rfl, _, _, rfl, _, _, rfl, _, _, rfl, _, _, rfl, _, _, rfl, rfl, rfl, ?_⟩
    refine tYes_ok ?_
    refine iteT ?_
    refine ⟨.int r.sy.lo, rfl, .int r.sy.hi, rfl, .int r.sy.n, rfl, .bl r.sy.t, rfl, ?_⟩
    refine ⟨szN 4 rfl, fun t2 n_t2 => ?_⟩
    generalize e_t2 : upd H3 t2 _ = H4
    have s4 := new_same e_t2 n_t2
    have z4 := new_at e_t2
    clear e_t2
    have eD4 := s4 _ _ eD
    refine ⟨ys, eD4, small1000 (by omega), same_over (sm.trans s4) nD, _, upd_same, ?_, by rw [List.length_append, List.length_singleton, yl]⟩
    rw [List.take_add_one, List.getElem?_map, hr_]
    exact LL.snoc (SL.ts (fun t' xs' e => by rw [upd_ne (fun z => by rw [z, eD4] at e; cases e)]; exact e) (SL.ts (TS.of s4) sl)) (IsSy.of (by rw [upd_ne (fun z => by rw [z, eD4] at z4; cases z4)]; exact z4))
  · obtain ⟨sm, ys, eD, sl, yl⟩ := hP
    rw [rl.len, List.take_of_length_le (by rw [List.length_map]; exact Nat.le_refl _)] at sl
    exact q H3 D ys sm nD eD sl
theorem ok_room {f : Addr} {fd : FuncData} {k : Nat} (F : Fun K "check_room" "check_room" sCheck_room f fd) (T : TPl K mg BL NN FU) : FnOk Pg w K mg base (L2N.CX Pg w) (k + 1) f fd ["rows"] (spRoom K FU) := by
  refine okN F scRoom (fun vs H Q E h => ?_) (fun cdv A outer s H vs Q E hr h => ?_)
  · obtain ⟨a, xs, rfl, _⟩ := h; rfl
  obtain ⟨a, xs, rfl, hX, q, qe⟩ := h
  refine ⟨_, (pss_one (ps_if (pt_cmpR op_ge (pe_callB call_len_seq (by rfl) T.ml PySem.boot_len (pa_cons (pv 0) pa_nil)) (C8.pe_gc (by rfl) T.mMOST) (nomark _)) (pss_one (L2N.ps_raise rfl (L2N.takes_of rfl rfl rfl rfl) (L2N.pmk_own PySem.F.excBase_ValueError T.xFU.x T.xFU.g T.xFU.k (raises_own T.xFU.b T.xFU.t) rfl))) pss_nil)), ?_⟩
  refine ⟨.ref a, rfl, a, xs, rfl, .inl (.inl (.inl hX)), _, _, rfl, rfl, _, rfl, ite2 (fun c => ?_) (fun c => ?_)⟩
  · have c := of_decide_eq_true c
    exact qe fun z => by omega
  · have c : ¬ ((xs.length : Int) ≥ 24) := fun z => c (decide_eq_true z)
    exact q (by omega)
theorem ok_chg {f : Addr} {fd : FuncData} {k : Nat} (F : Fun K "check_change" "check_change" sCheck_change f fd) (T : TPl K mg BL NN FU) : FnOk Pg w K mg base (L2N.CX Pg w) (k + 1) f fd ["many"] (spChg BL) := by
  refine okN F scChg (fun vs H Q E h => ?_) (fun cdv A outer s H vs Q E hr h => ?_)
  · obtain ⟨m, rfl, _⟩ := h; rfl
  obtain ⟨m, rfl, q, qe⟩ := h
  refine ⟨_, (pss_one (ps_if (pt_cmpR op_lt (pv 0) pe_int (nomark _)) (pss_one (L2N.ps_raise rfl (L2N.takes_of rfl rfl rfl rfl) (L2N.pmk_own PySem.F.excBase_ValueError T.xBL.x T.xBL.g T.xBL.k (raises_own T.xBL.b T.xBL.t) rfl))) pss_nil)), ?_⟩
  refine ⟨.int m, rfl, _, 1, rfl, rfl, _, rfl, ite2 (fun c => ?_) (fun c => ?_)⟩
  · have c := of_decide_eq_true c
    exact qe fun z => by omega
  · have c : ¬ m < 1 := fun z => c (decide_eq_true z)
    exact q (by omega)
end
end Rep
namespace Rep
open PySem L2 L2H RepHot
/-! sheets -/
structure Sht where
  size : Int
  coming : Int
  said : List Rw
  noted : List Me
def fldS (e c : Int) (sa na : Addr) : List (Str × V) := putF "noted" (.ref na) (putF "said" (.ref sa) (putF "upcoming" (.int c) (putF "size" (.int e) [])))
theorem ks1 : ¬ (("size" : Str) = "noted") ∧ ¬ (("size" : Str) = "said") ∧ ¬ (("size" : Str) = "upcoming") ∧ ¬ (("upcoming" : Str) = "noted") ∧ ¬ (("upcoming" : Str) = "said") ∧ ¬ (("said" : Str) = "noted") := by decide +kernel
theorem fldS_size (e c : Int) (sa na : Addr) : (fldS e c sa na).lookup ("size" : Str) = some (.int e) := by unfold fldS; rw [lookup_putF, if_neg ks1.1, lookup_putF, if_neg ks1.2.1, lookup_putF, if_neg ks1.2.2.1, lookup_putF, if_pos rfl]
theorem fldS_up (e c : Int) (sa na : Addr) : (fldS e c sa na).lookup ("upcoming" : Str) = some (.int c) := by unfold fldS; rw [lookup_putF, if_neg ks1.2.2.2.1, lookup_putF, if_neg ks1.2.2.2.2.1, lookup_putF, if_pos rfl]
theorem fldS_said (e c : Int) (sa na : Addr) : (fldS e c sa na).lookup ("said" : Str) = some (.ref sa) := by unfold fldS; rw [lookup_putF, if_neg ks1.2.2.2.2.2, lookup_putF, if_pos rfl]
theorem fldS_noted (e c : Int) (sa na : Addr) : (fldS e c sa na).lookup ("noted" : Str) = some (.ref na) := by unfold fldS; rw [lookup_putF, if_pos rfl]
theorem fldS_no (e c : Int) (sa na : Addr) {m : Str} (h : (m == "noted" || m == "said" || m == "upcoming" || m == "size") = false) : (fldS e c sa na).lookup m = none := by
  simp only [Bool.or_eq_false_iff, beq_eq_false_iff_ne] at h
  obtain ⟨⟨⟨h1, h2⟩, h3⟩, h4⟩ := h
  unfold fldS
  rw [lookup_putF, if_neg h1, lookup_putF, if_neg h2, lookup_putF, if_neg h3, lookup_putF, if_neg h4]; rfl
/-- what a sheet rests on: sheets, lists that are none of N's, tuples -/
def Own (S : Addr) (N : Addr → Prop) (b : Addr) : HO → Prop
  | .ins C _ _ => C = S
  | .lst _ => ¬ N b
  | .tup _ => True
  | _ => False
def Kp (S : Addr) (N : Addr → Prop) (H H' : Hp) : Prop := ∀ b o, H b = some o → Own S N b o → H' b = some o
theorem Kp.of {S : Addr} {N : Addr → Prop} {H H' : Hp} (s : Same H H') : Kp S N H H' := fun b o e _ => s b o e
theorem Kp.sam {S BK : Addr} {N : Addr → Prop} {H H' : Hp} {b dx : Addr} {fs : List (Str × V)} (s : Sam b H H') (hb : H b = some (.ins BK dx fs)) (hn : BK ≠ S) : Kp S N H H' := fun c o e w => s c o e fun z => by
  subst z
  rw [hb] at e
  cases e
  exact hn w
theorem Kp.ts {S : Addr} {N : Addr → Prop} {H H' : Hp} (k : Kp S N H H') : TS H H' := fun t xs e => k t _ e trivial
structure ShAt (S : Addr) (N : Addr → Prop) (H : Hp) (v : V) (s : Sht) : Prop where
  ex : ∃ (p dx sa na : Addr) (xs ys : List V), v = .ref p ∧ H p = some (.ins S dx (fldS s.size s.coming sa na)) ∧ H sa = some (.lst xs) ∧ RL H xs s.said ∧ H na = some (.lst ys) ∧ ML H ys s.noted ∧ ¬ N sa ∧ ¬ N na
theorem ShAt.kp {S : Addr} {N : Addr → Prop} {H H' : Hp} {v : V} {s : Sht} (h : ShAt S N H v s) (k : Kp S N H H') : ShAt S N H' v s := by
  obtain ⟨p, dx, sa, na, xs, ys, h1, h2, h3, h4, h5, h6, h7, h8⟩ := h.ex
  exact ⟨p, dx, sa, na, xs, ys, h1, k _ _ h2 rfl, k _ _ h3 h7, RL.ts k.ts h4, k _ _ h5 h8, ML.ts k.ts h6, h7, h8⟩
theorem ShAt.same {S : Addr} {N : Addr → Prop} {H H' : Hp} {v : V} {s : Sht} (h : ShAt S N H v s) (k : Same H H') : ShAt S N H' v s := h.kp (.of k)
theorem ShAt.more {S : Addr} {N M : Addr → Prop} {H : Hp} {v : V} {s : Sht} (h : ShAt S N H v s) (k : ∀ a xs, M a → H a = some (.lst xs) → N a) : ShAt S M H v s := by
  obtain ⟨p, dx, sa, na, xs, ys, h1, h2, h3, h4, h5, h6, h7, h8⟩ := h.ex
  exact ⟨p, dx, sa, na, xs, ys, h1, h2, h3, h4, h5, h6, fun z => h7 (k _ _ z h3), fun z => h8 (k _ _ z h5)⟩
def NA (N : Addr → Prop) (H : Hp) : Prop := ∀ a, N a → ∃ o, H a = some o
theorem NA.same {N : Addr → Prop} {H H' : Hp} (h : NA N H) (s : Same H H') : NA N H' := fun a z => by obtain ⟨o, e⟩ := h a z; exact ⟨o, s _ _ e⟩
theorem NA.not {N : Addr → Prop} {H : Hp} (h : NA N H) {l : Addr} (n : H l = none) : ¬ N l := fun z => by obtain ⟨o, e⟩ := h l z; rw [n] at e; cases e
structure Lens (s : Sht) : Prop where
  sd : s.said.length ≤ 100
  nt : s.noted.length ≤ 100
def Gd2 (e : Int) (y : Sy) : Prop := St_ y.lo y.n e ∧ St_ y.hi y.n e
/-- where the last one ends -/
def endsF (s : Sht) : List Int := (s.said.map fun r => (if r.sy.lo < r.sy.hi then r.sy.hi else r.sy.lo) + r.sy.n) ++ s.noted.map fun m => m.at_ + m.n
def spSinit (S : Addr) : Sp := fun vs H Q _ => ∃ (p dx sa na : Addr) (e c : Int), vs = [.ref p, .int e, .int c, .ref sa, .ref na] ∧ H p = some (.ins S dx []) ∧ ∀ H', Sam p H H' → H' p = some (.ins S dx (fldS e c sa na)) → Q .non H'
abbrev nSinit : List Str := ["self", "size", "upcoming", "said", "noted"]
theorem scSinit : FnScope nSinit nSinit (defScope sSheetInit) := ⟨rfl, rfl, rfl, by decide +kernel, rfl, by decide +kernel, by decide +kernel⟩
structure TxS (K : PySem.W.Frag) (S : Addr) : Prop where
  clS : Cls K S
  nz : NoAttr K S "size"
  nu : NoAttr K S "upcoming"
  ns : NoAttr K S "said"
  nn : NoAttr K S "noted"
section
variable {Pg : Program} {w : World} {K : PySem.W.Frag} {mg : Str → Option Value} {base : Heap} {S : Addr}
theorem ok_sinit {f : Addr} {fd : FuncData} {k : Nat} (F : Fun K "__init__" "Sheet.__init__" sSheetInit f fd) (X : TxS K S) : FnOk Pg w K mg base CX0 (k + 1) f fd nSinit (spSinit S) := by
  refine F.ok scSinit (fun vs H Q E h => ?_) (fun cdv A outer s H vs Q E hr h => ?_)
  · obtain ⟨p, dx, sa, na, e, c, rfl, _⟩ := h; rfl
  obtain ⟨p, dx, sa, na, e, c, rfl, hp, q⟩ := h
  refine ⟨_, (pss_cons (ps_fld (pv 0) (pv 1) rfl)
    (pss_cons (ps_fld (pv 0) (pv 2) rfl)
    (pss_cons (ps_fld (pv 0) (pv 3) rfl)
    (pss_one (ps_fld (pv 0) (pv 4) rfl))))), ?_⟩
  refine ⟨.int e, rfl, .ref p, rfl, p, S, dx, _, rfl, hp, X.clS, X.nz, (by show 0 < 1000; decide), ?_⟩
  refine ⟨.int c, rfl, .ref p, rfl, p, S, dx, _, rfl, upd_same, X.clS, X.nu, (by have := length_putF "size" (V.int e) []; exact Nat.lt_of_le_of_lt this (by decide)), ?_⟩
  refine ⟨.ref sa, rfl, .ref p, rfl, p, S, dx, _, rfl, upd_same, X.clS, X.ns, ?_, ?_⟩
  · have h1 := length_putF "upcoming" (V.int c) (putF "size" (V.int e) [])
    have h2 := length_putF "size" (V.int e) []
    have h3 : ([] : List (Str × V)).length = 0 := rfl
    omega
  refine ⟨.ref na, rfl, .ref p, rfl, p, S, dx, _, rfl, upd_same, X.clS, X.nn, ?_, ?_⟩
  · have h0 := length_putF "said" (V.ref sa) (putF "upcoming" (V.int c) (putF "size" (V.int e) []))
    have h1 := length_putF "upcoming" (V.int c) (putF "size" (V.int e) [])
    have h2 := length_putF "size" (V.int e) []
    have h3 : ([] : List (Str × V)).length = 0 := rfl
    omega
  have s0 : Sam p H H := fun b o e _ => e
  exact q _ (s0.upd.upd.upd.upd) upd_same
end
theorem make_sh {S p dx sa na : Addr} {N : Addr → Prop} {H : Hp} {xs ys : List V} {e c : Int} {rs : List Rw} {ms : List Me} {Q : Hp → Prop} {E : XK} (es : H sa = some (.lst xs)) (rl : RL H xs rs) (en : H na = some (.lst ys)) (ml : ML H ys ms) (n1 : ¬ N sa) (n2 : ¬ N na)
    (np : H p = none) (ndx : H dx = none) (ne : dx ≠ p) (q : ∀ H', Same H H' → ShAt S N H' (.ref p) ⟨e, c, rs, ms⟩ → Q H') :
    spSinit S [.ref p, .int e, .int c, .ref sa, .ref na] (upd (upd H dx (.own p)) p (.ins S dx [])) (fun v H' => v = .non ∧ Q H') E := by
  have np' : upd H dx (.own p) p = none := by rw [upd_ne ne.symm]; exact np
  have s5 : Same H (upd (upd H dx (.own p)) p (.ins S dx [])) := (same_upd ndx).trans (same_upd np')
  refine ⟨p, dx, sa, na, e, c, rfl, upd_same, fun H6 s6 h6 => ⟨rfl, q H6 ?_ ?_⟩⟩
  · exact fun b o hb => s6 b o (s5 _ _ hb) (fun z => by rw [z, np] at hb; cases hb)
  · have sm : Same H H6 := fun b o hb => s6 b o (s5 _ _ hb) (fun z => by rw [z, np] at hb; cases hb)
    exact ⟨p, dx, sa, na, xs, ys, rfl, h6, sm _ _ es, RL.ts (TS.of sm) rl, sm _ _ en, ML.ts (TS.of sm) ml, n1, n2⟩
/-! the sheet's methods -/
structure TMax (mg : Str → Option Value) : Prop where
  mM : mg "max" = none
theorem foldl_le {b : Int} : ∀ {l : List Int} {n : Int}, n ≤ b → (∀ z ∈ l, z ≤ b) → l.foldl max n ≤ b
  | [], _, h, _ => h
  | a :: r, n, h, k => foldl_le (l := r) (by have := k a List.mem_cons_self; omega) fun z hz => k z (List.mem_cons_of_mem _ hz)
theorem le_foldl : ∀ {l : List Int} {n z : Int}, z ≤ n ∨ z ∈ l → z ≤ l.foldl max n
  | [], _, _, h => h.elim id fun h => nomatch h
  | a :: r, n, z, h => by
    show z ≤ r.foldl max (max n a)
    refine le_foldl ?_
    rcases h with h | h
    · exact .inl (by omega)
    · rcases List.mem_cons.mp h with rfl | h
      · exact .inl (by omega)
      · exact .inr h
theorem maxI_le {l : List Int} {d b : Int} (h0 : d ≤ b) (h : ∀ z ∈ l, z ≤ b) : maxI l d ≤ b := by
  cases l with
  | nil => exact h0
  | cons a r => exact foldl_le (h a List.mem_cons_self) fun z hz => h z (List.mem_cons_of_mem _ hz)
theorem le_maxI {l : List Int} {d z : Int} (h : z ∈ l) : z ≤ maxI l d := by
  cases l with
  | nil => cases h
  | cons a r =>
    rcases List.mem_cons.mp h with rfl | h
    · exact le_foldl (.inl (Int.le_refl _))
    · exact le_foldl (.inr h)
def OkS (S : Addr) (N : Addr → Prop) (H : Hp) (s' : Sht) (Q : VK) : Prop := ∀ H' p', Same H H' → ShAt S N H' (.ref p') s' → Q (.ref p') H'
def NoS (H : Hp) (c : Addr) (E : XK) : Prop := ∀ H', Same H H' → E (.ref c) none H'
def spShws (S BS FU : Addr) : Sp := fun vs H Q E => ∃ (p t : Addr) (N : Addr → Prop) (s : Sht) (r : Rw), vs = [.ref p, .ref t] ∧ ShAt S N H (.ref p) s ∧ RwAt H (.ref t) r ∧ NA N H ∧ Lens s ∧
  (Gd2 s.size r.sy → s.said.length < 24 → OkS S N H { s with said := s.said ++ [r] } Q) ∧ (Gd2 s.size r.sy → ¬ s.said.length < 24 → NoS H FU E) ∧ (¬ Gd2 s.size r.sy → NoS H BS E)
def spShwm (S BT BS FU : Addr) : Sp := fun vs H Q E => ∃ (p t : Addr) (N : Addr → Prop) (s : Sht) (m : Me), vs = [.ref p, .ref t] ∧ ShAt S N H (.ref p) s ∧ MeAt H (.ref t) m ∧ m.lt.length ≤ 1000 ∧ NA N H ∧ Lens s ∧
  (Ltr m.lt → St_ m.at_ m.n s.size → s.noted.length < 24 → OkS S N H { s with noted := s.noted ++ [m] } Q) ∧ (Ltr m.lt → St_ m.at_ m.n s.size → ¬ s.noted.length < 24 → NoS H FU E) ∧ (Ltr m.lt → ¬ St_ m.at_ m.n s.size → NoS H BS E) ∧ (¬ Ltr m.lt → NoS H BT E)
def spShco (S : Addr) : Sp := fun vs H Q _ => ∃ (p : Addr) (N : Addr → Prop) (s : Sht), vs = [.ref p] ∧ ShAt S N H (.ref p) s ∧ NA N H ∧ OkS S N H { s with coming := s.coming + 1 } Q
def spShos (S NN : Addr) : Sp := fun vs H Q E => ∃ (p : Addr) (n : Int) (N : Addr → Prop) (s : Sht), vs = [.ref p, .int n] ∧ ShAt S N H (.ref p) s ∧ NA N H ∧ Lens s ∧ (∀ k, Fst (s.said.map Rw.num) n k → OkS S N H { s with said := s.said.eraseIdx k } Q) ∧ (n ∉ s.said.map Rw.num → NoS H NN E)
def spShom (S NN : Addr) : Sp := fun vs H Q E => ∃ (p : Addr) (n : Int) (N : Addr → Prop) (s : Sht), vs = [.ref p, .int n] ∧ ShAt S N H (.ref p) s ∧ NA N H ∧ Lens s ∧ (∀ k, Fst (s.noted.map Me.num) n k → OkS S N H { s with noted := s.noted.eraseIdx k } Q) ∧ (n ∉ s.noted.map Me.num → NoS H NN E)
def spSham (S NN BS : Addr) : Sp := fun vs H Q E => ∃ (p t : Addr) (N : Addr → Prop) (s : Sht) (r : Rw), vs = [.ref p, .ref t] ∧ ShAt S N H (.ref p) s ∧ RwAt H (.ref t) r ∧ NA N H ∧ Lens s ∧
  (∀ k, Fst (s.said.map Rw.num) r.num k → Gd2 s.size r.sy → OkS S N H { s with said := s.said.set k r } Q) ∧ (∀ k, Fst (s.said.map Rw.num) r.num k → ¬ Gd2 s.size r.sy → NoS H BS E) ∧ (r.num ∉ s.said.map Rw.num → NoS H NN E)
def spShre (S BL : Addr) : Sp := fun vs H Q E => ∃ (p : Addr) (e : Int) (N : Addr → Prop) (s : Sht), vs = [.ref p, .int e] ∧ ShAt S N H (.ref p) s ∧ (In40 e → OkS S N H { s with size := e } Q) ∧ (¬ In40 e → NoS H BL E)
def spShle (S BL : Addr) : Sp := fun vs H Q E => ∃ (p : Addr) (m : Int) (N : Addr → Prop) (s : Sht), vs = [.ref p, .int m] ∧ ShAt S N H (.ref p) s ∧ (1 ≤ m ∧ In40 (s.size + m) → OkS S N H { s with size := s.size + m } Q) ∧ (¬ (1 ≤ m ∧ In40 (s.size + m)) → NoS H BL E)
def spShsh (S BL IU : Addr) : Sp := fun vs H Q E => ∃ (p : Addr) (m : Int) (N : Addr → Prop) (s : Sht), vs = [.ref p, .int m] ∧ ShAt S N H (.ref p) s ∧ Lens s ∧ (1 ≤ m ∧ In40 (s.size - m) → (∀ z ∈ endsF s, z ≤ s.size - m) → OkS S N H { s with size := s.size - m } Q) ∧ (1 ≤ m ∧ In40 (s.size - m) → ¬ (∀ z ∈ endsF s, z ≤ s.size - m) → NoS H IU E) ∧ (¬ (1 ≤ m ∧ In40 (s.size - m)) → NoS H BL E)
def spShus (S : Addr) : Sp := fun vs H Q _ => ∃ (p : Addr) (N : Addr → Prop) (s : Sht), vs = [.ref p] ∧ ShAt S N H (.ref p) s ∧ Lens s ∧ ∀ H', Same H H' → Q (.int (maxI (endsF s) 0)) H'
theorem scShws : FnScope ["self", "row"] ["self", "row"] (defScope sSheetWith_saying) := ⟨rfl, rfl, rfl, by decide +kernel, rfl, by decide +kernel, by decide +kernel⟩
theorem scShwm : FnScope ["self", "row", "number", "letter", "at", "many"] ["self", "row"] (defScope sSheetWith_memory) := ⟨rfl, rfl, rfl, by decide +kernel, rfl, by decide +kernel, by decide +kernel⟩
theorem scShco : FnScope ["self"] ["self"] (defScope sSheetCounted_on) := ⟨rfl, rfl, rfl, by decide +kernel, rfl, by decide +kernel, by decide +kernel⟩
theorem scShos : FnScope ["self", "number"] ["self", "number"] (defScope sSheetWithout_saying) := ⟨rfl, rfl, rfl, by decide +kernel, rfl, by decide +kernel, by decide +kernel⟩
theorem scShom : FnScope ["self", "number"] ["self", "number"] (defScope sSheetWithout_memory) := ⟨rfl, rfl, rfl, by decide +kernel, rfl, by decide +kernel, by decide +kernel⟩
theorem scSham : FnScope ["self", "row", "k"] ["self", "row"] (defScope sSheetAmended) := ⟨rfl, rfl, rfl, by decide +kernel, rfl, by decide +kernel, by decide +kernel⟩
theorem scShre : FnScope ["self", "size"] ["self", "size"] (defScope sSheetResized) := ⟨rfl, rfl, rfl, by decide +kernel, rfl, by decide +kernel, by decide +kernel⟩
theorem scShle : FnScope ["self", "many"] ["self", "many"] (defScope sSheetLengthened) := ⟨rfl, rfl, rfl, by decide +kernel, rfl, by decide +kernel, by decide +kernel⟩
theorem scShsh : FnScope ["self", "many", "sheet"] ["self", "many"] (defScope sSheetShortened) := ⟨rfl, rfl, rfl, by decide +kernel, rfl, by decide +kernel, by decide +kernel⟩
abbrev nShus : List Str := ["self", "ends", "number", "one", "other", "many", "turned", "letter", "at"]
theorem scShus : FnScope nShus ["self"] (defScope sSheetUsed) := ⟨rfl, rfl, rfl, by decide +kernel, rfl, by decide +kernel, by decide +kernel⟩
structure TSh (Pg : Program) (w : World) (K : PySem.W.Frag) (mg : Str → Option Value) (base : Heap) (S BL NN FU BS BT IU : Addr) (fSh fCl fCs fCm fPo fWo fUn fCr fCg f7 f0 : Addr) (fdSh fdCl fdCs fdCm fdPo fdWo fdUn fdCr fdCg fd7 fd0 : FuncData) : Prop extends TxS K S where
  MSh : Mk K S fSh
  gSh : FnOk Pg w K mg base CX0 7 fSh fdSh nSinit (spSinit S)
  bSh : Binds K fdSh nSinit []
  mSh : mg "Sheet" = some (.ref S)
  gCl : FnOk Pg w K mg base (L2N.CX Pg w) 8 fCl fdCl ["length"] (spChklX BL)
  bCl : Binds K fdCl ["length"] []
  kCl : PySem.W.keepIn K (.ref fCl) = true
  mCl : mg "check_length" = some (.ref fCl)
  gCs : FnOk Pg w K mg base (L2N.CX Pg w) 8 fCs fdCs ["length", "sayings"] (spChkssX K BS)
  bCs : Binds K fdCs ["length", "sayings"] []
  kCs : PySem.W.keepIn K (.ref fCs) = true
  mCs : mg "check_sayings" = some (.ref fCs)
  gCm : FnOk Pg w K mg base (L2N.CX Pg w) 8 fCm fdCm ["length", "letter", "at", "many"] (spCmemX BT BS)
  bCm : Binds K fdCm ["length", "letter", "at", "many"] []
  kCm : PySem.W.keepIn K (.ref fCm) = true
  mCm : mg "check_memory" = some (.ref fCm)
  gPo : FnOk Pg w K mg base (L2N.CX Pg w) 8 fPo fdPo ["rows", "number"] (spPlo K NN)
  bPo : Binds K fdPo ["rows", "number"] []
  kPo : PySem.W.keepIn K (.ref fPo) = true
  mPo : mg "place_of" = some (.ref fPo)
  gWo : FnOk Pg w K mg base (L2N.CX Pg w) 8 fWo fdWo ["rows", "number"] (spWout K NN)
  bWo : Binds K fdWo ["rows", "number"] []
  kWo : PySem.W.keepIn K (.ref fWo) = true
  mWo : mg "without" = some (.ref fWo)
  gUn : FnOk Pg w K mg base CX0 8 fUn fdUn ["rows"] (spUnn K)
  bUn : Binds K fdUn ["rows"] []
  kUn : PySem.W.keepIn K (.ref fUn) = true
  mUn : mg "unnumbered" = some (.ref fUn)
  gCr : FnOk Pg w K mg base (L2N.CX Pg w) 8 fCr fdCr ["rows"] (spRoom K FU)
  bCr : Binds K fdCr ["rows"] []
  kCr : PySem.W.keepIn K (.ref fCr) = true
  mCr : mg "check_room" = some (.ref fCr)
  gCg : FnOk Pg w K mg base (L2N.CX Pg w) 8 fCg fdCg ["many"] (spChg BL)
  bCg : Binds K fdCg ["many"] []
  kCg : PySem.W.keepIn K (.ref fCg) = true
  mCg : mg "check_change" = some (.ref fCg)
  m7 : Meth K S "resized" f7
  b7 : Binds K fd7 ["self", "size"] []
  m0 : Meth K S "used" f0
  b0 : Binds K fd0 ["self"] []
  xIU : ExT K mg "InUse" IU
  mM : mg "max" = none
section
variable {Pg : Program} {w : World} {K : PySem.W.Frag} {mg : Str → Option Value} {base : Heap} {S BL NN FU BS BT IU : Addr} {fSh fCl fCs fCm fPo fWo fUn fCr fCg f7 f0 : Addr} {fdSh fdCl fdCs fdCm fdPo fdWo fdUn fdCr fdCg fd7 fd0 : FuncData}
theorem ok_shws {f : Addr} {fd : FuncData} (F : Fun K "with_saying" "Sheet.with_saying" sSheetWith_saying f fd) (T : TSh Pg w K mg base S BL NN FU BS BT IU fSh fCl fCs fCm fPo fWo fUn fCr fCg f7 f0 fdSh fdCl fdCs fdCm fdPo fdWo fdUn fdCr fdCg fd7 fd0) : FnOk Pg w K mg base (L2N.CX Pg w) 9 f fd ["self", "row"] (spShws S BS FU) := by
  refine okN F scShws (fun vs H Q E h => ?_) (fun cdv A outer s H vs Q E hr h => ?_)
  · obtain ⟨p, t, N, s_, r, rfl, _⟩ := h; rfl
  obtain ⟨p, t, N, s_, r, rfl, sh, ra, na_, ln, q, q1, q2⟩ := h
  have r8 : Room 8 _ := hr
  refine ⟨_, (pss_cons (ps_expr (pe_call T.gCs r8 (by rfl) T.mCs T.kCs T.bCs .nil (L2N.passes_call (L2N.takes_of rfl rfl rfl rfl) (fun _ _ _ _ h => h)) (pa_cons (pe_fld (pv 0) rfl) (pa_cons (pe_call T.gUn r8 (by rfl) T.mUn T.kUn T.bUn .nil pass0 (pa_cons (pe_lst (pa_cons (pv 1) pa_nil)) pa_nil)) pa_nil))))
    (pss_cons (ps_expr (pe_call T.gCr r8 (by rfl) T.mCr T.kCr T.bCr .nil (L2N.passes_call (L2N.takes_of rfl rfl rfl rfl) (fun _ _ _ _ h => h)) (pa_cons (pe_fld (pv 0) rfl) pa_nil)))
    (pss_one (ps_ret (pe_make T.MSh T.gSh r8 (by rfl) T.mSh T.bSh .nil pass0 (pa_cons (pe_fld (pv 0) rfl) (pa_cons (pe_fld (pv 0) rfl) (pa_cons (pe_op op_cat (pe_fld (pv 0) rfl) (pe_lst (pa_cons (pv 1) pa_nil))) (pa_cons (pe_fld (pv 0) rfl) pa_nil))))))))), ?_⟩
  obtain ⟨_, dx, sa, na, xs, ys, e0, h2, h3, h4, h5, h6, h7, h8⟩ := sh.ex
  cases e0
  have xl := h4.len
  have ls := ln.sd
  refine ⟨.ref p, rfl, p, S, dx, _, .int s_.size, rfl, h2, T.clS, T.nz, fldS_size _ _ _ _, .ref t, rfl, ?_⟩
  refine ⟨szN 1 rfl, fun l1 n_l1 => ?_⟩
  generalize e_l1 : upd H l1 _ = H1
  have s1 := new_same e_l1 n_l1
  have z1 := new_at e_l1
  clear e_l1
  refine ⟨l1, _, [r], rfl, z1, LL.one (ra.ts (TS.of s1)), by show 1 ≤ 1000; decide, fun H2 l2 zs s2 n2 z2 sl => ?_⟩
  have s12 := s1.trans s2
  refine ⟨s_.size, l2, zs, [r.sy], rfl, .inl (.inl z2), sl, fun hg => ?_, fun hg => q2 (fun z => hg fun y hy => by rw [List.mem_singleton.mp hy]; exact z) _ s12⟩
  have hg : Gd2 s_.size r.sy := hg r.sy (List.mem_singleton.mpr rfl)
  refine ⟨.ref p, rfl, p, S, dx, _, .ref sa, rfl, s12 _ _ h2, T.clS, T.ns, fldS_said _ _ _ _, sa, xs, rfl, s12 _ _ h3, fun hl => ?_, fun hl => q1 hg (by rw [← xl]; exact hl) _ s12⟩
  refine ⟨.ref p, rfl, p, S, dx, _, .int s_.size, rfl, s12 _ _ h2, T.clS, T.nz, fldS_size _ _ _ _, .ref p, rfl, p, S, dx, _, .int s_.coming, rfl, s12 _ _ h2, T.clS, T.nu, fldS_up _ _ _ _, .ref p, rfl, p, S, dx, _, .ref sa, rfl, s12 _ _ h2, T.clS, T.ns, fldS_said _ _ _ _, .ref t, rfl, ?_⟩
  refine ⟨szN 1 rfl, fun l3 n_l3 => ?_⟩
  generalize e_l3 : upd H2 l3 _ = H3
  have s3 := new_same e_l3 n_l3
  have z3 := new_at e_l3
  clear e_l3
  refine ⟨sa, l3, _, _, rfl, rfl, s3 _ _ (s12 _ _ h3), z3, Nat.le_trans (show xs.length + 1 ≤ 1000 by omega) (by decide), ?_⟩
  intro l4 n_l4
  generalize e_l4 : upd H3 l4 _ = H4
  have s4 := new_same e_l4 n_l4
  have z4 := new_at e_l4
  clear e_l4
  have s14 := s12.trans (s3.trans s4)
  refine ⟨.ref p, rfl, p, S, dx, _, .ref na, rfl, s14 _ _ h2, T.clS, T.nn, fldS_noted _ _ _ _, fun p' dx' np ndx ne => ?_⟩
  refine make_sh (N := N) z4 ((RL.ts (TS.of s14) h4).snoc (ra.ts (TS.of s14))) (s14 _ _ h5) (ML.ts (TS.of s14) h6) ((na_.same (s12.trans s3)).not n_l4) h8 np ndx ne (fun H5 s5 sh5 => ?_)
  exact q hg (by rw [← xl]; exact hl) H5 p' (s14.trans s5) sh5
theorem ok_shwm {f : Addr} {fd : FuncData} (F : Fun K "with_memory" "Sheet.with_memory" sSheetWith_memory f fd) (T : TSh Pg w K mg base S BL NN FU BS BT IU fSh fCl fCs fCm fPo fWo fUn fCr fCg f7 f0 fdSh fdCl fdCs fdCm fdPo fdWo fdUn fdCr fdCg fd7 fd0) : FnOk Pg w K mg base (L2N.CX Pg w) 9 f fd ["self", "row"] (spShwm S BT BS FU) := by
  refine okN F scShwm (fun vs H Q E h => ?_) (fun cdv A outer s H vs Q E hr h => ?_)
  · obtain ⟨p, t, N, s_, r, rfl, _⟩ := h; rfl
  obtain ⟨p, t, N, s_, m, rfl, sh, ra, hml, na_, ln, q, q1, q2, q3⟩ := h
  have r8 : Room 8 _ := hr
  refine ⟨_, (pss_cons (ps_asg (pv 1) (pg_tup rfl (pgs_cons (pg_name (i := 2) scShwm.nd rfl (.inl rfl)) (pgs_cons (pg_name (i := 3) scShwm.nd rfl (.inl rfl)) (pgs_cons (pg_name (i := 4) scShwm.nd rfl (.inl rfl)) (pgs_cons (pg_name (i := 5) scShwm.nd rfl (.inl rfl)) pgs_nil))))))
    (pss_cons (ps_expr (pe_call T.gCm r8 (by rfl) T.mCm T.kCm T.bCm .nil (L2N.passes_call (L2N.takes_of rfl rfl rfl rfl) (fun _ _ _ _ h => h)) (pa_cons (pe_fld (pv 0) rfl) (pa_cons (pv 3) (pa_cons (pv 4) (pa_cons (pv 5) pa_nil))))))
    (pss_cons (ps_expr (pe_call T.gCr r8 (by rfl) T.mCr T.kCr T.bCr .nil (L2N.passes_call (L2N.takes_of rfl rfl rfl rfl) (fun _ _ _ _ h => h)) (pa_cons (pe_fld (pv 0) rfl) pa_nil)))
    (pss_one (ps_ret (pe_make T.MSh T.gSh r8 (by rfl) T.mSh T.bSh .nil pass0 (pa_cons (pe_fld (pv 0) rfl) (pa_cons (pe_fld (pv 0) rfl) (pa_cons (pe_fld (pv 0) rfl) (pa_cons (pe_op op_cat (pe_fld (pv 0) rfl) (pe_lst (pa_cons (pv 1) pa_nil))) pa_nil)))))))))), ?_⟩
  obtain ⟨_, dx, sa, na, xs, ys, e0, h2, h3, h4, h5, h6, h7, h8⟩ := sh.ex
  cases e0
  obtain ⟨_, e0, ht⟩ := id ra
  cases e0
  have yl := h6.len
  have ls := ln.nt
  have rf := Same.refl H
  refine ⟨.ref t, rfl, t, _, rfl, .inl (.inl ht), rfl, _, _, rfl, _, _, rfl, _, _, rfl, _, _, rfl, rfl, ?_⟩
  refine ⟨.ref p, rfl, p, S, dx, _, .int s_.size, rfl, h2, T.clS, T.nz, fldS_size _ _ _ _, .str m.lt, rfl, .int m.at_, rfl, .int m.n, rfl, s_.size, m.at_, m.n, m.lt, rfl, hml, fun g1 g2 => ?_, fun g1 => q3 g1 _ rf, fun g1 g2 => q2 g1 g2 _ rf⟩
  refine ⟨.ref p, rfl, p, S, dx, _, .ref na, rfl, h2, T.clS, T.nn, fldS_noted _ _ _ _, na, ys, rfl, h5, fun hl => ?_, fun hl => q1 g1 g2 (by rw [← yl]; exact hl) _ rf⟩
  refine ⟨.ref p, rfl, p, S, dx, _, .int s_.size, rfl, h2, T.clS, T.nz, fldS_size _ _ _ _, .ref p, rfl, p, S, dx, _, .int s_.coming, rfl, h2, T.clS, T.nu, fldS_up _ _ _ _, .ref p, rfl, p, S, dx, _, .ref sa, rfl, h2, T.clS, T.ns, fldS_said _ _ _ _, .ref p, rfl, p, S, dx, _, .ref na, rfl, h2, T.clS, T.nn, fldS_noted _ _ _ _, .ref t, rfl, ?_⟩
  refine ⟨szN 1 rfl, fun l3 n_l3 => ?_⟩
  generalize e_l3 : upd H l3 _ = H3
  have s3 := new_same e_l3 n_l3
  have z3 := new_at e_l3
  clear e_l3
  refine ⟨na, l3, _, _, rfl, rfl, s3 _ _ h5, z3, Nat.le_trans (show ys.length + 1 ≤ 1000 by omega) (by decide), ?_⟩
  intro l4 n_l4
  generalize e_l4 : upd H3 l4 _ = H4
  have s4 := new_same e_l4 n_l4
  have z4 := new_at e_l4
  clear e_l4
  have s14 := s3.trans s4
  intro p' dx' np ndx ne
  refine make_sh (N := N) (s14 _ _ h3) (RL.ts (TS.of s14) h4) z4 ((ML.ts (TS.of s14) h6).snoc (ra.ts (TS.of s14))) h7 ((na_.same s3).not n_l4) np ndx ne (fun H5 s5 sh5 => ?_)
  exact q g1 g2 (by rw [← yl]; exact hl) H5 p' (s14.trans s5) sh5
theorem ok_shco {f : Addr} {fd : FuncData} (F : Fun K "counted_on" "Sheet.counted_on" sSheetCounted_on f fd) (T : TSh Pg w K mg base S BL NN FU BS BT IU fSh fCl fCs fCm fPo fWo fUn fCr fCg f7 f0 fdSh fdCl fdCs fdCm fdPo fdWo fdUn fdCr fdCg fd7 fd0) : FnOk Pg w K mg base CX0 9 f fd ["self"] (spShco S) := by
  refine F.ok scShco (fun vs H Q E h => ?_) (fun cdv A outer s H vs Q E hr h => ?_)
  · obtain ⟨p, N, s_, rfl, _⟩ := h; rfl
  obtain ⟨p, N, s_, rfl, sh, na_, q⟩ := h
  have r8 : Room 8 _ := hr
  refine ⟨_, (pss_one (ps_ret (pe_make T.MSh T.gSh r8 (by rfl) T.mSh T.bSh .nil pass0 (pa_cons (pe_fld (pv 0) rfl) (pa_cons (pe_op op_add (pe_fld (pv 0) rfl) pe_int) (pa_cons (pe_fld (pv 0) rfl) (pa_cons (pe_fld (pv 0) rfl) pa_nil))))))), ?_⟩
  obtain ⟨_, dx, sa, na, xs, ys, e0, h2, h3, h4, h5, h6, h7, h8⟩ := sh.ex
  cases e0
  refine ⟨.ref p, rfl, p, S, dx, _, .int s_.size, rfl, h2, T.clS, T.nz, fldS_size _ _ _ _, .ref p, rfl, p, S, dx, _, .int s_.coming, rfl, h2, T.clS, T.nu, fldS_up _ _ _ _, _, _, rfl, rfl, .ref p, rfl, p, S, dx, _, .ref sa, rfl, h2, T.clS, T.ns, fldS_said _ _ _ _, .ref p, rfl, p, S, dx, _, .ref na, rfl, h2, T.clS, T.nn, fldS_noted _ _ _ _, fun p' dx' np ndx ne => ?_⟩
  exact make_sh (N := N) h3 h4 h5 h6 h7 h8 np ndx ne (fun H5 s5 sh5 => q H5 p' s5 sh5)
theorem ok_shos {f : Addr} {fd : FuncData} (F : Fun K "without_saying" "Sheet.without_saying" sSheetWithout_saying f fd) (T : TSh Pg w K mg base S BL NN FU BS BT IU fSh fCl fCs fCm fPo fWo fUn fCr fCg f7 f0 fdSh fdCl fdCs fdCm fdPo fdWo fdUn fdCr fdCg fd7 fd0) : FnOk Pg w K mg base (L2N.CX Pg w) 9 f fd ["self", "number"] (spShos S NN) := by
  refine okN F scShos (fun vs H Q E h => ?_) (fun cdv A outer s H vs Q E hr h => ?_)
  · obtain ⟨p, n, N, s_, rfl, _⟩ := h; rfl
  obtain ⟨p, n, N, s_, rfl, sh, na_, ln, q, q1⟩ := h
  have r8 : Room 8 _ := hr
  refine ⟨_, (pss_one (ps_ret (pe_make T.MSh T.gSh r8 (by rfl) T.mSh T.bSh .nil pass0 (pa_cons (pe_fld (pv 0) rfl) (pa_cons (pe_fld (pv 0) rfl) (pa_cons (pe_call T.gWo r8 (by rfl) T.mWo T.kWo T.bWo .nil (L2N.passes_call (L2N.takes_of rfl rfl rfl rfl) (fun _ _ _ _ h => h)) (pa_cons (pe_fld (pv 0) rfl) (pa_cons (pv 1) pa_nil))) (pa_cons (pe_fld (pv 0) rfl) pa_nil))))))), ?_⟩
  obtain ⟨_, dx, sa, na, xs, ys, e0, h2, h3, h4, h5, h6, h7, h8⟩ := sh.ex
  cases e0
  have ls := ln.sd
  refine ⟨.ref p, rfl, p, S, dx, _, .int s_.size, rfl, h2, T.clS, T.nz, fldS_size _ _ _ _, .ref p, rfl, p, S, dx, _, .int s_.coming, rfl, h2, T.clS, T.nu, fldS_up _ _ _ _, .ref p, rfl, p, S, dx, _, .ref sa, rfl, h2, T.clS, T.ns, fldS_said _ _ _ _, .int n, rfl, sa, xs, _, n, rfl, h3, h4.hd, by rw [List.length_map]; omega, fun k H2 l s2 hk nl el => ?_, q1⟩
  refine ⟨.ref p, rfl, p, S, dx, _, .ref na, rfl, s2 _ _ h2, T.clS, T.nn, fldS_noted _ _ _ _, fun p' dx' np ndx ne => ?_⟩
  exact make_sh (N := N) el ((RL.ts (TS.of s2) h4).erase k) (s2 _ _ h5) (ML.ts (TS.of s2) h6) (na_.not nl) h8 np ndx ne (fun H5 s5 sh5 => q k hk H5 p' (s2.trans s5) sh5)
theorem ok_shom {f : Addr} {fd : FuncData} (F : Fun K "without_memory" "Sheet.without_memory" sSheetWithout_memory f fd) (T : TSh Pg w K mg base S BL NN FU BS BT IU fSh fCl fCs fCm fPo fWo fUn fCr fCg f7 f0 fdSh fdCl fdCs fdCm fdPo fdWo fdUn fdCr fdCg fd7 fd0) : FnOk Pg w K mg base (L2N.CX Pg w) 9 f fd ["self", "number"] (spShom S NN) := by
  refine okN F scShom (fun vs H Q E h => ?_) (fun cdv A outer s H vs Q E hr h => ?_)
  · obtain ⟨p, n, N, s_, rfl, _⟩ := h; rfl
  obtain ⟨p, n, N, s_, rfl, sh, na_, ln, q, q1⟩ := h
  have r8 : Room 8 _ := hr
  refine ⟨_, (pss_one (ps_ret (pe_make T.MSh T.gSh r8 (by rfl) T.mSh T.bSh .nil pass0 (pa_cons (pe_fld (pv 0) rfl) (pa_cons (pe_fld (pv 0) rfl) (pa_cons (pe_fld (pv 0) rfl) (pa_cons (pe_call T.gWo r8 (by rfl) T.mWo T.kWo T.bWo .nil (L2N.passes_call (L2N.takes_of rfl rfl rfl rfl) (fun _ _ _ _ h => h)) (pa_cons (pe_fld (pv 0) rfl) (pa_cons (pv 1) pa_nil))) pa_nil))))))), ?_⟩
  obtain ⟨_, dx, sa, na, xs, ys, e0, h2, h3, h4, h5, h6, h7, h8⟩ := sh.ex
  cases e0
  have ls := ln.nt
  refine ⟨.ref p, rfl, p, S, dx, _, .int s_.size, rfl, h2, T.clS, T.nz, fldS_size _ _ _ _, .ref p, rfl, p, S, dx, _, .int s_.coming, rfl, h2, T.clS, T.nu, fldS_up _ _ _ _, .ref p, rfl, p, S, dx, _, .ref sa, rfl, h2, T.clS, T.ns, fldS_said _ _ _ _, .ref p, rfl, p, S, dx, _, .ref na, rfl, h2, T.clS, T.nn, fldS_noted _ _ _ _, .int n, rfl, na, ys, _, n, rfl, h5, h6.hd, by rw [List.length_map]; omega, fun k H2 l s2 hk nl el => ?_, q1⟩
  intro p' dx' np ndx ne
  exact make_sh (N := N) (s2 _ _ h3) (RL.ts (TS.of s2) h4) el ((ML.ts (TS.of s2) h6).erase k) h7 (na_.not nl) np ndx ne (fun H5 s5 sh5 => q k hk H5 p' (s2.trans s5) sh5)
theorem LL.set {α : Type} {D : Hp → V → α → Prop} {H : Hp} {vs : List V} {as : List α} (h : LL D H vs as) {k : Nat} {v : V} {a : α} (hk : k < as.length) (d : D H v a) : LL D H (vs.take k ++ [v] ++ vs.drop (k + 1)) (as.set k a) := by
  have e : as.set k a = as.take k ++ [a] ++ as.drop (k + 1) := by
    rw [List.set_eq_take_append_cons_drop, if_pos hk, List.append_assoc]; rfl
  rw [e]
  refine ((h.take k).snoc d).app ⟨by rw [List.length_drop, List.length_drop, h.len], fun i v a h1 h2 => ?_⟩
  rw [List.getElem?_drop] at h1 h2
  exact h.at_ _ v a h1 h2
theorem ok_sham {f : Addr} {fd : FuncData} (F : Fun K "amended" "Sheet.amended" sSheetAmended f fd) (T : TSh Pg w K mg base S BL NN FU BS BT IU fSh fCl fCs fCm fPo fWo fUn fCr fCg f7 f0 fdSh fdCl fdCs fdCm fdPo fdWo fdUn fdCr fdCg fd7 fd0) : FnOk Pg w K mg base (L2N.CX Pg w) 9 f fd ["self", "row"] (spSham S NN BS) := by
  refine okN F scSham (fun vs H Q E h => ?_) (fun cdv A outer s H vs Q E hr h => ?_)
  · obtain ⟨p, t, N, s_, r, rfl, _⟩ := h; rfl
  obtain ⟨p, t, N, s_, r, rfl, sh, ra, na_, ln, q, q1, q2⟩ := h
  have r8 : Room 8 _ := hr
  refine ⟨_, (pss_cons (ps_set (i := 2) scSham.nd rfl (.inl rfl) (pe_call T.gPo r8 (by rfl) T.mPo T.kPo T.bPo .nil (L2N.passes_call (L2N.takes_of rfl rfl rfl rfl) (fun _ _ _ _ h => h)) (pa_cons (pe_fld (pv 0) rfl) (pa_cons (pe_ix ix_tup (pv 1) pe_int (fun _ _ => rfl)) pa_nil))))
    (pss_cons (ps_expr (pe_call T.gCs r8 (by rfl) T.mCs T.kCs T.bCs .nil (L2N.passes_call (L2N.takes_of rfl rfl rfl rfl) (fun _ _ _ _ h => h)) (pa_cons (pe_fld (pv 0) rfl) (pa_cons (pe_call T.gUn r8 (by rfl) T.mUn T.kUn T.bUn .nil pass0 (pa_cons (pe_lst (pa_cons (pv 1) pa_nil)) pa_nil)) pa_nil))))
    (pss_one (ps_ret (pe_make T.MSh T.gSh r8 (by rfl) T.mSh T.bSh .nil pass0 (pa_cons (pe_fld (pv 0) rfl) (pa_cons (pe_fld (pv 0) rfl) (pa_cons (pe_op op_cat (pe_op op_cat (pe_slice sl_list (pe_fld (pv 0) rfl) po_none (po_some (pv 2))) (pe_lst (pa_cons (pv 1) pa_nil))) (pe_slice sl_list (pe_fld (pv 0) rfl) (po_some (pe_op op_add (pv 2) pe_int)) po_none)) (pa_cons (pe_fld (pv 0) rfl) pa_nil))))))))), ?_⟩
  obtain ⟨_, dx, sa, na, xs, ys, e0, h2, h3, h4, h5, h6, h7, h8⟩ := sh.ex
  cases e0
  obtain ⟨_, e0, ht⟩ := id ra
  cases e0
  have xl := h4.len
  have ls := ln.sd
  refine ⟨.ref p, rfl, p, S, dx, _, .ref sa, rfl, h2, T.clS, T.ns, fldS_said _ _ _ _, .ref t, rfl, t, _, _, .int r.num, rfl, rfl, .inl (.inl ht), rfl, sa, xs, _, r.num, rfl, .inl (.inl h3), h4.hd, by rw [List.length_map]; omega, fun k H0 s0 hk => ?_, q2⟩
  have kl : k < s_.said.length := by
    have := (List.getElem?_eq_some_iff.mp hk.1).1
    rw [List.length_map] at this
    exact this
  refine ⟨.ref p, rfl, p, S, dx, _, .int s_.size, rfl, s0 _ _ h2, T.clS, T.nz, fldS_size _ _ _ _, .ref t, rfl, ?_⟩
  refine ⟨szN 1 rfl, fun l1 n_l1 => ?_⟩
  generalize e_l1 : upd H0 l1 _ = H1
  have s1' := new_same e_l1 n_l1
  have z1 := new_at e_l1
  clear e_l1
  have s1 := s0.trans s1'
  refine ⟨l1, _, [r], rfl, z1, LL.one (ra.ts (TS.of s1)), by show 1 ≤ 1000; decide, fun H2 l2 zs s2 n2 z2 sl => ?_⟩
  have s12 := s1.trans s2
  refine ⟨s_.size, l2, zs, [r.sy], rfl, .inl (.inl z2), sl, fun hg => ?_, fun hg => q1 k hk (fun z => hg fun y hy => by rw [List.mem_singleton.mp hy]; exact z) _ s12⟩
  have hg : Gd2 s_.size r.sy := hg r.sy (List.mem_singleton.mpr rfl)
  refine ⟨.ref p, rfl, p, S, dx, _, .int s_.size, rfl, s12 _ _ h2, T.clS, T.nz, fldS_size _ _ _ _, .ref p, rfl, p, S, dx, _, .int s_.coming, rfl, s12 _ _ h2, T.clS, T.nu, fldS_up _ _ _ _, .ref p, rfl, p, S, dx, _, .ref sa, rfl, s12 _ _ h2, T.clS, T.ns, fldS_said _ _ _ _, .int (k : Int), rfl, _, rfl, sa, xs, rfl, .inl (.inl (s12 _ _ h3)), ?_⟩
  intro l3 n_l3
  generalize e_l3 : upd H2 l3 _ = H3
  have s3 := new_same e_l3 n_l3
  have z3 := new_at e_l3
  clear e_l3
  rw [cutTo] at z3
  refine ⟨.ref t, rfl, ?_⟩
  refine ⟨szN 1 rfl, fun l4 n_l4 => ?_⟩
  generalize e_l4 : upd H3 l4 _ = H4
  have s4 := new_same e_l4 n_l4
  have z4 := new_at e_l4
  clear e_l4
  refine ⟨l3, l4, _, _, rfl, rfl, s4 _ _ z3, z4, Nat.le_trans (show _ ≤ 1000 by rw [List.length_take]; show _ + 1 ≤ 1000; omega) (by decide), ?_⟩
  intro l5 n_l5
  generalize e_l5 : upd H4 l5 _ = H5
  have s5 := new_same e_l5 n_l5
  have z5 := new_at e_l5
  clear e_l5
  have s15 := s12.trans (s3.trans (s4.trans s5))
  refine ⟨.ref p, rfl, p, S, dx, _, .ref sa, rfl, s15 _ _ h2, T.clS, T.ns, fldS_said _ _ _ _, .int (k : Int), rfl, _, _, rfl, rfl, _, rfl, sa, xs, rfl, .inl (.inl (s15 _ _ h3)), ?_⟩
  intro l6 n_l6
  generalize e_l6 : upd H5 l6 _ = H6
  have s6 := new_same e_l6 n_l6
  have z6 := new_at e_l6
  clear e_l6
  have ec : cutV xs (some ((k : Int) + 1)) none = xs.drop (k + 1) := cutFrom xs (k + 1)
  rw [ec] at z6
  refine ⟨l5, l6, _, _, rfl, rfl, s6 _ _ z5, z6, Nat.le_trans (show _ ≤ 1000 by rw [List.length_append, List.length_take, List.length_drop]; show _ + 1 + _ ≤ 1000; omega) (by decide), ?_⟩
  intro l7 n_l7
  generalize e_l7 : upd H6 l7 _ = H7
  have s7 := new_same e_l7 n_l7
  have z7 := new_at e_l7
  clear e_l7
  have s17 := s15.trans (s6.trans s7)
  refine ⟨.ref p, rfl, p, S, dx, _, .ref na, rfl, s17 _ _ h2, T.clS, T.nn, fldS_noted _ _ _ _, fun p' dx' np ndx ne => ?_⟩
  refine make_sh (N := N) z7 ((RL.ts (TS.of s17) h4).set kl (ra.ts (TS.of s17))) (s17 _ _ h5) (ML.ts (TS.of s17) h6) ((na_.same (s15.trans s6)).not n_l7) h8 np ndx ne (fun H8 s8 sh8 => ?_)
  exact q k hk hg H8 p' (s17.trans s8) sh8
theorem ok_shre {f : Addr} {fd : FuncData} (F : Fun K "resized" "Sheet.resized" sSheetResized f fd) (T : TSh Pg w K mg base S BL NN FU BS BT IU fSh fCl fCs fCm fPo fWo fUn fCr fCg f7 f0 fdSh fdCl fdCs fdCm fdPo fdWo fdUn fdCr fdCg fd7 fd0) : FnOk Pg w K mg base (L2N.CX Pg w) 9 f fd ["self", "size"] (spShre S BL) := by
  refine okN F scShre (fun vs H Q E h => ?_) (fun cdv A outer s H vs Q E hr h => ?_)
  · obtain ⟨p, e, N, s_, rfl, _⟩ := h; rfl
  obtain ⟨p, e, N, s_, rfl, sh, q, q1⟩ := h
  have r8 : Room 8 _ := hr
  refine ⟨_, (pss_cons (ps_expr (pe_call T.gCl r8 (by rfl) T.mCl T.kCl T.bCl .nil (L2N.passes_call (L2N.takes_of rfl rfl rfl rfl) (fun _ _ _ _ h => h)) (pa_cons (pv 1) pa_nil)))
    (pss_one (ps_ret (pe_make T.MSh T.gSh r8 (by rfl) T.mSh T.bSh .nil pass0 (pa_cons (pv 1) (pa_cons (pe_fld (pv 0) rfl) (pa_cons (pe_fld (pv 0) rfl) (pa_cons (pe_fld (pv 0) rfl) pa_nil)))))))), ?_⟩
  obtain ⟨_, dx, sa, na, xs, ys, e0, h2, h3, h4, h5, h6, h7, h8⟩ := sh.ex
  cases e0
  refine ⟨.int e, rfl, e, rfl, fun he => ?_, fun he => q1 he _ (Same.refl _)⟩
  refine ⟨.int e, rfl, .ref p, rfl, p, S, dx, _, .int s_.coming, rfl, h2, T.clS, T.nu, fldS_up _ _ _ _, .ref p, rfl, p, S, dx, _, .ref sa, rfl, h2, T.clS, T.ns, fldS_said _ _ _ _, .ref p, rfl, p, S, dx, _, .ref na, rfl, h2, T.clS, T.nn, fldS_noted _ _ _ _, fun p' dx' np ndx ne => ?_⟩
  exact make_sh (N := N) h3 h4 h5 h6 h7 h8 np ndx ne (fun H5 s5 sh5 => q he H5 p' s5 sh5)
theorem ok_shle {f : Addr} {fd : FuncData} (F : Fun K "lengthened" "Sheet.lengthened" sSheetLengthened f fd) (T : TSh Pg w K mg base S BL NN FU BS BT IU fSh fCl fCs fCm fPo fWo fUn fCr fCg f7 f0 fdSh fdCl fdCs fdCm fdPo fdWo fdUn fdCr fdCg fd7 fd0) (g7 : FnOk Pg w K mg base (L2N.CX Pg w) 9 f7 fd7 ["self", "size"] (spShre S BL)) : FnOk Pg w K mg base (L2N.CX Pg w) 10 f fd ["self", "many"] (spShle S BL) := by
  refine okN F scShle (fun vs H Q E h => ?_) (fun cdv A outer s H vs Q E hr h => ?_)
  · obtain ⟨p, e, N, s_, rfl, _⟩ := h; rfl
  obtain ⟨p, m, N, s_, rfl, sh, q, q1⟩ := h
  have r9 : Room 9 _ := hr
  have r8 : Room 8 _ := hr.mono (by decide)
  refine ⟨_, (pss_cons (ps_expr (pe_call T.gCg r8 (by rfl) T.mCg T.kCg T.bCg .nil (L2N.passes_call (L2N.takes_of rfl rfl rfl rfl) (fun _ _ _ _ h => h)) (pa_cons (pv 1) pa_nil)))
    (pss_one (ps_ret (pe_meth (pv 0) T.clS T.m7 g7 r9 T.b7 .nil (L2N.passes_call (L2N.takes_of rfl rfl rfl rfl) (fun _ _ _ _ h => h)) (pa_cons (pe_op op_add (pe_fld (pv 0) rfl) (pv 1)) pa_nil))))), ?_⟩
  obtain ⟨_, dx, sa, na, xs, ys, e0, h2, h3, h4, h5, h6, h7, h8⟩ := sh.ex
  cases e0
  refine ⟨.int m, rfl, m, rfl, fun hm => ?_, fun hm => q1 (fun z => hm z.1) _ (Same.refl _)⟩
  refine ⟨.ref p, rfl, p, dx, _, rfl, h2, fldS_no _ _ _ _ (by decide +kernel), .ref p, rfl, p, S, dx, _, .int s_.size, rfl, h2, T.clS, T.nz, fldS_size _ _ _ _, .int m, rfl, _, _, rfl, rfl, ?_⟩
  exact ⟨p, s_.size + m, N, s_, rfl, sh, fun he => q ⟨hm, he⟩, fun he => q1 fun z => he z.2⟩
theorem ok_shus {f : Addr} {fd : FuncData} {k : Nat} (F : Fun K "used" "Sheet.used" sSheetUsed f fd) (X : TxS K S) (T : TMax mg) : FnOk Pg w K mg base CX0 (k + 1) f fd ["self"] (spShus S) := by
  refine F.ok scShus (fun vs H Q E h => ?_) (fun cdv A outer s H vs Q E hr h => ?_)
  · obtain ⟨p, N, s_, rfl, _⟩ := h; rfl
  obtain ⟨p, N, s_, rfl, sh, ln, q⟩ := h
  obtain ⟨_, dx, sa, na, xs, ys, e0, h2, h3, h4, h5, h6, h7, h8⟩ := sh.ex
  cases e0
  have ls := ln.sd
  have lt := ln.nt
  refine ⟨_, (pss_cons (ps_setLc (i := 1) (own := [("number", 2), ("one", 3), ("other", 4), ("many", 5), ("turned", 6)]) (g := (gTup K 5 (gCons (gName 2) (gCons (gName 3) (gCons (gName 4) (gCons (gName 5) (gCons (gName 6) gNil))))))) (tt := tYes) rfl scShus.nd rfl rfl (sw_true rfl rfl rfl (by decide +kernel)) (pi_list (pe_fld (pv 0) rfl)) (blkOk_by (N := nShus) (sc := defScope sSheetUsed) (by decide +kernel)) (fun _ _ _ _ _ => (pg_tup rfl (pgs_cons (pg_name (i := 2) scShus.nd rfl (.inl rfl)) (pgs_cons (pg_name (i := 3) scShus.nd rfl (.inl rfl)) (pgs_cons (pg_name (i := 4) scShus.nd rfl (.inl rfl)) (pgs_cons (pg_name (i := 5) scShus.nd rfl (.inl rfl)) (pgs_cons (pg_name (i := 6) scShus.nd rfl (.inl rfl)) pgs_nil))))))) (fun _ _ _ _ _ => pts_nil) (fun _ _ _ _ _ => (pe_op op_add (pe_callB (call_max2 rfl) (by rfl) T.mM (by decide +kernel) (pa_cons (pv 3) (pa_cons (pv 4) pa_nil))) (pv 5))))
    (pss_one (ps_ret (pe_callBK (cr_maxD rfl hr.units) (by rfl) T.mM (by decide +kernel) (pa_cons (pe_op op_cat (pv 1) (pe_lc (own := [("number", 2), ("letter", 7), ("at", 8), ("many", 5)]) (g := (gTup K 4 (gCons (gName 2) (gCons (gName 7) (gCons (gName 8) (gCons (gName 5) gNil)))))) (tt := tYes) rfl scShus.nd (pi_list (pe_fld (pv 0) rfl)) (blkOk_by (N := nShus) (sc := defScope sSheetUsed) (by decide +kernel)) (fun _ _ _ _ _ => (pg_tup rfl (pgs_cons (pg_name (i := 2) scShus.nd rfl (.inl rfl)) (pgs_cons (pg_name (i := 7) scShus.nd rfl (.inl rfl)) (pgs_cons (pg_name (i := 8) scShus.nd rfl (.inl rfl)) (pgs_cons (pg_name (i := 5) scShus.nd rfl (.inl rfl)) pgs_nil)))))) (fun _ _ _ _ _ => pts_nil) (fun _ _ _ _ _ => (pe_op op_add (pv 8) (pv 5))))) pa_nil) (pk_cons pe_int pk_nil))))), ?_⟩
  refine ⟨.ref p, rfl, p, S, dx, _, .ref sa, rfl, h2, X.clS, X.ns, fldS_said _ _ _ _, sa, rfl, ⟨_, .inl (.inl h3)⟩, fun D nD => ?_⟩
  refine lc_list (xs := xs) (fun i H5 => Same H H5 ∧ H5 D = some (.lst (((s_.said.take i).map fun r => (if r.sy.lo < r.sy.hi then r.sy.hi else r.sy.lo) + r.sy.n).map V.int))) ⟨same_upd nD, upd_same⟩ (fun i H5 _ hP => .inl (.inl (hP.1 _ _ h3))) (fun i v H5 hv hP => ?_) (fun H5 hP => ?_)
  · obtain ⟨sm, eD⟩ := hP
    obtain ⟨r, hr_, t, rfl, ht⟩ := h4.get hv
    have hi : i < s_.said.length := (List.getElem?_eq_some_iff.mp hr_).1
    refine ⟨t, _, rfl, .inl (.inl (sm _ _ ht)), rfl, _, _, rfl, _, _, rfl, _, _, rfl, _, _, rfl, _, _, rfl, rfl, rfl, ?_⟩
    refine tYes_ok ?_
    refine iteT ?_
    refine ⟨.int r.sy.lo, rfl, .int r.sy.hi, rfl, r.sy.lo, r.sy.hi, rfl, .int r.sy.n, rfl, _, _, rfl, rfl, _, eD, ?_, same_over sm nD, ?_⟩
    · rw [List.length_map, List.length_map, List.length_take]
      exact Nat.lt_of_le_of_lt (show _ ≤ 100000 by omega) (by decide)
    · rw [upd_same, List.take_add_one, hr_, List.map_append, List.map_append]
      rfl
  · obtain ⟨sm, eD⟩ := hP
    rw [h4.len, List.take_length] at eD
    refine ⟨.ref D, rfl, .ref p, rfl, p, S, dx, _, .ref na, rfl, sm _ _ h2, X.clS, X.nn, fldS_noted _ _ _ _, na, rfl, ⟨_, .inl (.inl (sm _ _ h5))⟩, fun D2 nD2 => ?_⟩
    refine lc_list (xs := ys) (fun i H6 => Same H5 H6 ∧ H6 D2 = some (.lst (((s_.noted.take i).map fun m => m.at_ + m.n).map V.int))) ⟨same_upd nD2, upd_same⟩ (fun i H6 _ hP => .inl (.inl (hP.1 _ _ (sm _ _ h5)))) (fun i v H6 hv hP => ?_) (fun H6 hP => ?_)
    · obtain ⟨sm2, eD2⟩ := hP
      obtain ⟨m, hm, t, rfl, ht⟩ := h6.get hv
      have hi : i < s_.noted.length := (List.getElem?_eq_some_iff.mp hm).1
      refine ⟨t, _, rfl, .inl (.inl (sm2 _ _ (sm _ _ ht))), rfl, _, _, rfl, _, _, rfl, _, _, rfl, _, _, rfl, rfl, rfl, ?_⟩
      refine tYes_ok ?_
      refine iteT ?_
      refine ⟨.int m.at_, rfl, .int m.n, rfl, _, _, rfl, rfl, _, eD2, ?_, same_over sm2 nD2, ?_⟩
      · rw [List.length_map, List.length_map, List.length_take]
        exact Nat.lt_of_le_of_lt (show _ ≤ 100000 by omega) (by decide)
      · rw [upd_same, List.take_add_one, hm, List.map_append, List.map_append]
        rfl
    · obtain ⟨sm2, eD2⟩ := hP
      rw [h6.len, List.take_length] at eD2
      refine ⟨D, D2, _, _, rfl, rfl, sm2 _ _ eD, eD2, ?_, ?_⟩
      · rw [List.length_map, List.length_map, List.length_map, List.length_map]
        exact Nat.le_trans (show _ ≤ 1000 by omega) (by decide)
      intro l1 n_l1
      generalize e_l1 : upd H6 l1 _ = H7
      have s7 := new_same e_l1 n_l1
      have z7 := new_at e_l1
      clear e_l1
      rw [← List.map_append] at z7
      exact ⟨l1, endsF s_, 0, rfl, rfl, .inl (.inl z7), q H7 (sm.trans (sm2.trans s7))⟩
theorem ok_shsh {f : Addr} {fd : FuncData} (F : Fun K "shortened" "Sheet.shortened" sSheetShortened f fd) (T : TSh Pg w K mg base S BL NN FU BS BT IU fSh fCl fCs fCm fPo fWo fUn fCr fCg f7 f0 fdSh fdCl fdCs fdCm fdPo fdWo fdUn fdCr fdCg fd7 fd0) (g7 : FnOk Pg w K mg base (L2N.CX Pg w) 9 f7 fd7 ["self", "size"] (spShre S BL)) (g0 : FnOk Pg w K mg base CX0 8 f0 fd0 ["self"] (spShus S)) : FnOk Pg w K mg base (L2N.CX Pg w) 10 f fd ["self", "many"] (spShsh S BL IU) := by
  refine okN F scShsh (fun vs H Q E h => ?_) (fun cdv A outer s H vs Q E hr h => ?_)
  · obtain ⟨p, e, N, s_, rfl, _⟩ := h; rfl
  obtain ⟨p, m, N, s_, rfl, sh, ln, q, q1, q2⟩ := h
  have r9 : Room 9 _ := hr
  have r8 : Room 8 _ := hr.mono (by decide)
  refine ⟨_, (pss_cons (ps_expr (pe_call T.gCg r8 (by rfl) T.mCg T.kCg T.bCg .nil (L2N.passes_call (L2N.takes_of rfl rfl rfl rfl) (fun _ _ _ _ h => h)) (pa_cons (pv 1) pa_nil)))
    (pss_cons (ps_set (i := 2) scShsh.nd rfl (.inl rfl) (pe_meth (pv 0) T.clS T.m7 g7 r9 T.b7 .nil (L2N.passes_call (L2N.takes_of rfl rfl rfl rfl) (fun _ _ _ _ h => h)) (pa_cons (pe_op op_sub (pe_fld (pv 0) rfl) (pv 1)) pa_nil)))
    (pss_cons (ps_if (pt_cmpR op_gt (pe_meth0 (pv 0) T.clS T.m0 g0 r8 T.b0 .nil pass0) (pe_fld (pv 2) rfl) (nomark _)) (pss_one (L2N.ps_raise rfl (L2N.takes_of rfl rfl rfl rfl) (L2N.pmk_own PySem.F.excBase_ValueError T.xIU.x T.xIU.g T.xIU.k (raises_own T.xIU.b T.xIU.t) rfl))) pss_nil)
    (pss_one (ps_ret (pv 2)))))), ?_⟩
  obtain ⟨_, dx, sa, na, xs, ys, e0, h2, h3, h4, h5, h6, h7, h8⟩ := sh.ex
  cases e0
  refine ⟨.int m, rfl, m, rfl, fun hm => ?_, fun hm => q2 (fun z => hm z.1) _ (Same.refl _)⟩
  refine ⟨.ref p, rfl, p, dx, _, rfl, h2, fldS_no _ _ _ _ (by decide +kernel), .ref p, rfl, p, S, dx, _, .int s_.size, rfl, h2, T.clS, T.nz, fldS_size _ _ _ _, .int m, rfl, _, _, rfl, rfl, ?_⟩
  refine ⟨p, s_.size - m, N, s_, rfl, sh, fun he => ?_, fun he => q2 fun z => he z.2⟩
  intro H1 p' s1 sh1
  obtain ⟨_, dx', sa', na', xs', ys', e0, k2, k3, k4, k5, k6, k7, k8⟩ := id sh1.ex
  cases e0
  refine ⟨.ref p, rfl, p, dx, _, rfl, s1 _ _ h2, fldS_no _ _ _ _ (by decide +kernel), p, N, s_, rfl, sh.same s1, ln, fun H2 s2 => ?_⟩
  refine ⟨.ref p', rfl, p', S, dx', _, .int (s_.size - m), rfl, s2 _ _ k2, T.clS, T.nz, fldS_size _ _ _ _, _, _, rfl, rfl, _, rfl, ite2 (fun c => ?_) (fun c => ?_)⟩
  · have c : s_.size - m < maxI (endsF s_) 0 := of_decide_eq_true c
    exact q1 ⟨hm, he⟩ (fun z => by have := maxI_le (d := 0) (b := s_.size - m) he.1 z; omega) _ (s1.trans s2)
  · have c : ¬ (s_.size - m < maxI (endsF s_) 0) := fun z => c (decide_eq_true z)
    refine ⟨.ref p', rfl, q ⟨hm, he⟩ (fun z hz => ?_) H2 p' (s1.trans s2) (sh1.same s2)⟩
    have := le_maxI (d := 0) hz
    omega
end
end Rep
namespace Rep
open PySem L2 L2H RepHot
/-! the book -/
def fldB (l : Addr) (h : Int) (sv nv : V) : List (Str × V) := [("sheets", .ref l), ("here", .int h), ("song", sv), ("notes", nv)]
theorem kb : ¬ (("sheets" : Str) = "here") ∧ ¬ (("sheets" : Str) = "song") ∧ ¬ (("sheets" : Str) = "notes") ∧ ¬ (("here" : Str) = "song") ∧ ¬ (("here" : Str) = "notes") ∧ ¬ (("song" : Str) = "notes") := by decide +kernel
theorem fldB_mk (l : Addr) (h : Int) (sv nv : V) : putF "notes" nv (putF "song" sv (putF "here" (.int h) (putF "sheets" (.ref l) []))) = fldB l h sv nv := by
  have e1 : putF "here" (.int h) ([(("sheets" : Str), V.ref l)] : List (Str × V)) = ([(("sheets" : Str), V.ref l), (("here" : Str), V.int h)] : List (Str × V)) := by
    show (if _ then _ else _) = _
    rw [if_neg kb.1]; rfl
  have e2 : putF "song" sv ([(("sheets" : Str), V.ref l), (("here" : Str), V.int h)] : List (Str × V)) = ([(("sheets" : Str), V.ref l), (("here" : Str), V.int h), (("song" : Str), sv)] : List (Str × V)) := by
    show (if _ then _ else _) = _
    rw [if_neg kb.2.1]
    show _ :: (if _ then _ else _) = _
    rw [if_neg kb.2.2.2.1]; rfl
  show putF "notes" nv (putF "song" sv (putF "here" (.int h) ([(("sheets" : Str), V.ref l)] : List (Str × V)))) = _
  rw [e1, e2]
  show (if _ then _ else _) = _
  rw [if_neg kb.2.2.1]
  show _ :: (if _ then _ else _) = _
  rw [if_neg kb.2.2.2.2.1]
  show _ :: _ :: (if _ then _ else _) = _
  rw [if_neg kb.2.2.2.2.2]; rfl
section
variable (l l' : Addr) (h h' : Int) (sv sv' nv nv' : V)
theorem fldB_sheets : (fldB l h sv nv).lookup ("sheets" : Str) = some (.ref l) := by rw [← fldB_mk, lookup_putF, if_neg kb.2.2.1, lookup_putF, if_neg kb.2.1, lookup_putF, if_neg kb.1, lookup_putF, if_pos rfl]
theorem fldB_here : (fldB l h sv nv).lookup ("here" : Str) = some (.int h) := by rw [← fldB_mk, lookup_putF, if_neg kb.2.2.2.2.1, lookup_putF, if_neg kb.2.2.2.1, lookup_putF, if_pos rfl]
theorem fldB_song : (fldB l h sv nv).lookup ("song" : Str) = some sv := by rw [← fldB_mk, lookup_putF, if_neg kb.2.2.2.2.2, lookup_putF, if_pos rfl]
theorem fldB_notes : (fldB l h sv nv).lookup ("notes" : Str) = some nv := by rw [← fldB_mk, lookup_putF, if_pos rfl]
theorem fldB_no {m : Str} (k : (m == "notes" || m == "song" || m == "here" || m == "sheets") = false) : (fldB l h sv nv).lookup m = none := by
  simp only [Bool.or_eq_false_iff, beq_eq_false_iff_ne] at k
  obtain ⟨⟨⟨h1, h2⟩, h3⟩, h4⟩ := k
  rw [← fldB_mk, lookup_putF, if_neg h1, lookup_putF, if_neg h2, lookup_putF, if_neg h3, lookup_putF, if_neg h4]; rfl
theorem putB_sheets : putF "sheets" (.ref l') (fldB l h sv nv) = fldB l' h sv nv := by show (if _ then _ else _) = _; rw [if_pos rfl]; rfl
theorem putB_here : putF "here" (.int h') (fldB l h sv nv) = fldB l h' sv nv := by
  show (if _ then _ else _) = _
  rw [if_neg kb.1]
  show _ :: (if _ then _ else _) = _
  rw [if_pos rfl]; rfl
theorem putB_song : putF "song" sv' (fldB l h sv nv) = fldB l h sv' nv := by
  show (if _ then _ else _) = _
  rw [if_neg kb.2.1]
  show _ :: (if _ then _ else _) = _
  rw [if_neg kb.2.2.2.1]
  show _ :: _ :: (if _ then _ else _) = _
  rw [if_pos rfl]; rfl
theorem putB_notes : putF "notes" nv' (fldB l h sv nv) = fldB l h sv nv' := by
  show (if _ then _ else _) = _
  rw [if_neg kb.2.2.1]
  show _ :: (if _ then _ else _) = _
  rw [if_neg kb.2.2.2.2.1]
  show _ :: _ :: (if _ then _ else _) = _
  rw [if_neg kb.2.2.2.2.2]
  show _ :: _ :: _ :: (if _ then _ else _) = _
  rw [if_pos rfl]; rfl
theorem fldB_len : (fldB l h sv nv).length < 1000 := by show 4 < 1000; decide
end
theorem atI_eq (xs : List V) (i : Nat) : atI xs (i : Int) = xs[i]? := by
  unfold atI ixN
  rw [if_pos (by omega)]
  by_cases h : (i : Int) < xs.length
  · rw [if_pos h]
    show xs[(i : Int).toNat]? = _
    rw [Int.toNat_natCast]
  · rw [if_neg h, List.getElem?_eq_none (by omega)]
    rfl
structure BkAt (BK S : Addr) (N : Addr → Prop) (H : Hp) (b : Addr) (sts : List Sht) (here : Nat) (sv nv : V) : Prop where
  ex : ∃ (dx l : Addr) (vs : List V), H b = some (.ins BK dx (fldB l (here : Int) sv nv)) ∧ H l = some (.lst vs) ∧ LL (ShAt S N) H vs sts ∧ ¬ N l ∧ here < sts.length
section
variable {BK S b : Addr} {N : Addr → Prop} {H H' : Hp} {sts : List Sht} {here : Nat} {sv nv : V}
theorem BkAt.kp (h : BkAt BK S N H b sts here sv nv) (k : Kp S N H H') (kb : ∀ o, H b = some o → H' b = some o) : BkAt BK S N H' b sts here sv nv := by
  obtain ⟨dx, l, vs, h1, h2, h3, h4, h5⟩ := h.ex
  exact ⟨dx, l, vs, kb _ h1, k _ _ h2 h4, h3.imp fun _ _ z => z.kp k, h4, h5⟩
theorem BkAt.same (h : BkAt BK S N H b sts here sv nv) (s : Same H H') : BkAt BK S N H' b sts here sv nv := h.kp (.of s) (fun o e => s _ _ e)
theorem BkAt.ins (h : BkAt BK S N H b sts here sv nv) {m : Str} (k : (m == "notes" || m == "song" || m == "here" || m == "sheets") = false) : ∃ dx fs, H b = some (.ins BK dx fs) ∧ fs.lookup m = none := by
  obtain ⟨dx, l, vs, h1, _⟩ := h.ex
  exact ⟨dx, _, h1, fldB_no _ _ _ _ k⟩
end
/-! rows as data -/
def rwD (r : Rw) : PyData := .tuple [.int r.num, .int r.sy.lo, .int r.sy.hi, .int r.sy.n, .bool r.sy.t]
theorem dpAll_rw {K : PySem.W.Frag} {H : Hp} : ∀ {vs : List V} {rs : List Rw}, RL H vs rs → DpAll K H vs (rs.map rwD)
  | [], [], _ => .nil
  | [], _ :: _, h => by have := h.len; simp at this
  | _ :: _, [], h => by have := h.len; simp at this
  | v :: vs, m :: ms, h => .cons (by obtain ⟨t, rfl, ht⟩ := h.at_ 0 v m rfl rfl
                                     exact .tup (.inl (.inl ht)) (.cons (.int _) (.cons (.int _) (.cons (.int _) (.cons (.int _) (.cons (.bl _) .nil)))))) (dpAll_rw ⟨by have := h.len; simpa using this, fun i w u h1 h2 => h.at_ (i + 1) w u h1 h2⟩)
theorem canRw : ∀ rs : List Rw, PyData.canLayAll0 (rs.map rwD) = true
  | [] => rfl
  | _ :: r => by
    show (true && PyData.canLayAll0 (r.map rwD)) = true
    rw [canRw r]; rfl
theorem depRw : ∀ rs : List Rw, PyData.depthAll (rs.map rwD) ≤ 1
  | [] => Nat.zero_le _
  | _ :: r => by
    show max 1 (PyData.depthAll (r.map rwD)) ≤ 1
    have := depRw r
    omega
theorem shapedRw (rs : List Rw) : SeqAt.shaped (.list (rs.map rwD)) = true := by
  unfold SeqAt.shaped
  have e : PyData.canLay0 (.list (rs.map rwD)) = true := canRw rs
  rw [e]
  refine decide_eq_true ?_
  show PyData.depthAll (rs.map rwD) + 1 ≤ 64
  have := depRw rs
  omega
/-- what the song is when another sheet is turned to -/
def SvK (sv sv' : V) (s s' : Sht) : Prop := sv' = .non ∨ (sv' = sv ∧ s.size = s'.size ∧ PyData.eqv (.list (s.said.map rwD)) (.list (s'.said.map rwD)) = true)
inductive Dd where
  | say (y : Sy) | unsay (n : Int) | amend (n : Int) (y : Sy) | rem (z : Str) (x m : Int) | forget (n : Int) | longer (m : Int) | shorter (m : Int)
/-- what a deed leads to: the kind of its refusal, or what is told and the sheet -/
def Stp (s : Sht) : Dd → Nat ⊕ (Option Int × Sht) → Prop
  | .say y, r => (Gd2 s.size y ∧ s.said.length < 24 ∧ r = .inr (some s.coming, { s with said := s.said ++ [⟨s.coming, y⟩], coming := s.coming + 1 })) ∨ (Gd2 s.size y ∧ ¬ s.said.length < 24 ∧ r = .inl 5) ∨ (¬ Gd2 s.size y ∧ r = .inl 1)
  | .unsay n, r => (∃ k, Fst (s.said.map Rw.num) n k ∧ r = .inr (none, { s with said := s.said.eraseIdx k })) ∨ (n ∉ s.said.map Rw.num ∧ r = .inl 3)
  | .amend n y, r => (∃ k, Fst (s.said.map Rw.num) n k ∧ Gd2 s.size y ∧ r = .inr (none, { s with said := s.said.set k ⟨n, y⟩ })) ∨ (∃ k, Fst (s.said.map Rw.num) n k ∧ ¬ Gd2 s.size y ∧ r = .inl 1) ∨ (n ∉ s.said.map Rw.num ∧ r = .inl 3)
  | .rem z x m, r => (Ltr z ∧ St_ x m s.size ∧ s.noted.length < 24 ∧ r = .inr (some s.coming, { s with noted := s.noted ++ [⟨s.coming, z, x, m⟩], coming := s.coming + 1 })) ∨ (Ltr z ∧ St_ x m s.size ∧ ¬ s.noted.length < 24 ∧ r = .inl 5) ∨ (Ltr z ∧ ¬ St_ x m s.size ∧ r = .inl 1) ∨ (¬ Ltr z ∧ r = .inl 4)
  | .forget n, r => (∃ k, Fst (s.noted.map Me.num) n k ∧ r = .inr (none, { s with noted := s.noted.eraseIdx k })) ∨ (n ∉ s.noted.map Me.num ∧ r = .inl 3)
  | .longer m, r => (1 ≤ m ∧ In40 (s.size + m) ∧ r = .inr (none, { s with size := s.size + m })) ∨ (¬ (1 ≤ m ∧ In40 (s.size + m)) ∧ r = .inl 0)
  | .shorter m, r => (1 ≤ m ∧ In40 (s.size - m) ∧ (∀ z ∈ endsF s, z ≤ s.size - m) ∧ r = .inr (none, { s with size := s.size - m })) ∨ (1 ≤ m ∧ In40 (s.size - m) ∧ ¬ (∀ z ∈ endsF s, z ≤ s.size - m) ∧ r = .inl 6) ∨ (¬ (1 ≤ m ∧ In40 (s.size - m)) ∧ r = .inl 0)
def oV' : Option Int → V
  | none => .non
  | some z => .int z
def Aft (BK S : Addr) (N : Addr → Prop) (cz : Nat → Addr) (H : Hp) (b : Addr) (sts : List Sht) (here : Nat) (sv : V) (s : Sht) (Q : VK) (E : XK) : Nat ⊕ (Option Int × Sht) → Prop
  | .inl j => NoS H (cz j) E
  | .inr (o, s') => ∀ H' sv', Sam b H H' → BkAt BK S N H' b (sts.take (here + 1) ++ [s']) (here + 1) sv' .non → SvK sv sv' s s' → Q (oV' o) H'
/-- a book that can be asked for a deed -/
structure Bk0 (BK S : Addr) (N : Addr → Prop) (H : Hp) (b : Addr) (sts : List Sht) (here : Nat) (sv nv : V) (s : Sht) : Prop where
  at_ : BkAt BK S N H b sts here sv nv
  now : sts[here]? = some s
  na : NA N H
  ln : Lens s
  lt : sts.length ≤ 1000
def spDd (BK S : Addr) (cz : Nat → Addr) (mk : Addr → List V → Dd → Prop) : Sp := fun vs H Q E => ∃ (b : Addr) (N : Addr → Prop) (sts : List Sht) (here : Nat) (sv nv : V) (s : Sht) (d : Dd), mk b vs d ∧ Bk0 BK S N H b sts here sv nv s ∧ ∀ r, Stp s d r → Aft BK S N cz H b sts here sv s Q E r
def mSay (b : Addr) (vs : List V) (d : Dd) : Prop := ∃ y : Sy, vs = [.ref b, .int y.lo, .int y.hi, .int y.n, .bl y.t] ∧ d = .say y
def mUnsay (b : Addr) (vs : List V) (d : Dd) : Prop := ∃ n : Int, vs = [.ref b, .int n] ∧ d = .unsay n
def mAmend (b : Addr) (vs : List V) (d : Dd) : Prop := ∃ (n : Int) (y : Sy), vs = [.ref b, .int n, .int y.lo, .int y.hi, .int y.n, .bl y.t] ∧ d = .amend n y
def mRem (b : Addr) (vs : List V) (d : Dd) : Prop := ∃ (z : Str) (x m : Int), vs = [.ref b, .str z, .int x, .int m] ∧ z.length ≤ 1000 ∧ d = .rem z x m
def mForget (b : Addr) (vs : List V) (d : Dd) : Prop := ∃ n : Int, vs = [.ref b, .int n] ∧ d = .forget n
def mLonger (b : Addr) (vs : List V) (d : Dd) : Prop := ∃ n : Int, vs = [.ref b, .int n] ∧ d = .longer n
def mShorter (b : Addr) (vs : List V) (d : Dd) : Prop := ∃ n : Int, vs = [.ref b, .int n] ∧ d = .shorter n
def spBsheet (BK S : Addr) : Sp := fun vs H Q _ => ∃ (b : Addr) (N : Addr → Prop) (sts : List Sht) (here : Nat) (sv nv : V), vs = [.ref b] ∧ BkAt BK S N H b sts here sv nv ∧ ∀ p s, ShAt S N H (.ref p) s → sts[here]? = some s → Q (.ref p) H
def spBlen (BK S : Addr) : Sp := fun vs H Q _ => ∃ (b : Addr) (N : Addr → Prop) (sts : List Sht) (here : Nat) (sv nv : V), vs = [.ref b] ∧ BkAt BK S N H b sts here sv nv ∧ ∀ s, sts[here]? = some s → Q (.int s.size) H
def spBcom (BK S : Addr) : Sp := fun vs H Q _ => ∃ (b : Addr) (N : Addr → Prop) (sts : List Sht) (here : Nat) (sv nv : V), vs = [.ref b] ∧ BkAt BK S N H b sts here sv nv ∧ ∀ s, sts[here]? = some s → Q (.int s.coming) H
def spBsay (BK S : Addr) : Sp := fun vs H Q _ => ∃ (b : Addr) (N : Addr → Prop) (sts : List Sht) (here : Nat) (sv nv : V), vs = [.ref b] ∧ BkAt BK S N H b sts here sv nv ∧ ∀ s H' l xs, sts[here]? = some s → Same H H' → H l = none → H' l = some (.lst xs) → RL H' xs s.said → Q (.ref l) H'
def spBmem (BK S : Addr) : Sp := fun vs H Q _ => ∃ (b : Addr) (N : Addr → Prop) (sts : List Sht) (here : Nat) (sv nv : V), vs = [.ref b] ∧ BkAt BK S N H b sts here sv nv ∧ ∀ s H' l xs, sts[here]? = some s → Same H H' → H l = none → H' l = some (.lst xs) → ML H' xs s.noted → Q (.ref l) H'
def spBundb (BK S : Addr) : Sp := fun vs H Q _ => ∃ (b : Addr) (N : Addr → Prop) (sts : List Sht) (here : Nat) (sv nv : V), vs = [.ref b] ∧ BkAt BK S N H b sts here sv nv ∧ Q (.int (here : Int)) H
def spBredb (BK S : Addr) : Sp := fun vs H Q _ => ∃ (b : Addr) (N : Addr → Prop) (sts : List Sht) (here : Nat) (sv nv : V), vs = [.ref b] ∧ BkAt BK S N H b sts here sv nv ∧ Q (.int ((sts.length : Int) - 1 - (here : Int))) H
def spBturn (BK S : Addr) : Sp := fun vs H Q _ => ∃ (b : Addr) (N : Addr → Prop) (sts : List Sht) (here here' : Nat) (by_ : Int) (sv nv : V), vs = [.ref b, .int by_] ∧ BkAt BK S N H b sts here sv nv ∧ (here : Int) + by_ = (here' : Int) ∧ here' < sts.length ∧ ∀ s s' H' sv', sts[here]? = some s → sts[here']? = some s' → Sam b H H' → BkAt BK S N H' b sts here' sv' .non → SvK sv sv' s s' → Q .non H'
def spBgoon (BK S : Addr) : Sp := fun vs H Q _ => ∃ (b p : Addr) (N : Addr → Prop) (sts : List Sht) (here : Nat) (sv nv : V) (s' : Sht), vs = [.ref b, .ref p] ∧ BkAt BK S N H b sts here sv nv ∧ ShAt S N H (.ref p) s' ∧ NA N H ∧ sts.length ≤ 1000 ∧ ∀ s H' sv', sts[here]? = some s → Sam b H H' → BkAt BK S N H' b (sts.take (here + 1) ++ [s']) (here + 1) sv' .non → SvK sv sv' s s' → Q .non H'
def spBundo (BK S : Addr) (cz : Nat → Addr) : Sp := fun vs H Q E => ∃ (b : Addr) (N : Addr → Prop) (sts : List Sht) (here : Nat) (sv nv : V), vs = [.ref b] ∧ BkAt BK S N H b sts here sv nv ∧ (∀ h', here = h' + 1 → ∀ s s' H' sv', sts[here]? = some s → sts[h']? = some s' → Sam b H H' → BkAt BK S N H' b sts h' sv' .non → SvK sv sv' s s' → Q .non H') ∧ (here = 0 → NoS H (cz 7) E)
def spBredo (BK S : Addr) (cz : Nat → Addr) : Sp := fun vs H Q E => ∃ (b : Addr) (N : Addr → Prop) (sts : List Sht) (here : Nat) (sv nv : V), vs = [.ref b] ∧ BkAt BK S N H b sts here sv nv ∧ (here + 1 < sts.length → ∀ s s' H' sv', sts[here]? = some s → sts[here + 1]? = some s' → Sam b H H' → BkAt BK S N H' b sts (here + 1) sv' .non → SvK sv sv' s s' → Q .non H') ∧ (¬ here + 1 < sts.length → NoS H (cz 7) E)
def spBinit (BK S BL : Addr) : Sp := fun vs H Q E => ∃ (b dx : Addr) (N : Addr → Prop) (e : Int), vs = [.ref b, .int e] ∧ H b = some (.ins BK dx []) ∧ NA N H ∧ (In40 e → ∀ H', Sam b H H' → BkAt BK S N H' b [⟨e, 1, [], []⟩] 0 .non .non → Q .non H') ∧ (¬ In40 e → E (.ref BL) none H)
theorem scBinit : FnScope ["self", "length"] ["self", "length"] (defScope sBookInit) := ⟨rfl, rfl, rfl, by decide +kernel, rfl, by decide +kernel, by decide +kernel⟩
theorem scBsheet : FnScope ["self"] ["self"] (defScope sBookSheet) := ⟨rfl, rfl, rfl, by decide +kernel, rfl, by decide +kernel, by decide +kernel⟩
theorem scBlen : FnScope ["self"] ["self"] (defScope sBookLength) := ⟨rfl, rfl, rfl, by decide +kernel, rfl, by decide +kernel, by decide +kernel⟩
theorem scBcom : FnScope ["self"] ["self"] (defScope sBookComing) := ⟨rfl, rfl, rfl, by decide +kernel, rfl, by decide +kernel, by decide +kernel⟩
theorem scBsay : FnScope ["self"] ["self"] (defScope sBookSayings) := ⟨rfl, rfl, rfl, by decide +kernel, rfl, by decide +kernel, by decide +kernel⟩
theorem scBmem : FnScope ["self"] ["self"] (defScope sBookMemories) := ⟨rfl, rfl, rfl, by decide +kernel, rfl, by decide +kernel, by decide +kernel⟩
theorem scBsayd : FnScope ["self", "one", "other", "many", "turned", "number"] ["self", "one", "other", "many", "turned"] (defScope sBookSay) := ⟨rfl, rfl, rfl, by decide +kernel, rfl, by decide +kernel, by decide +kernel⟩
theorem scBunsay : FnScope ["self", "number"] ["self", "number"] (defScope sBookUnsay) := ⟨rfl, rfl, rfl, by decide +kernel, rfl, by decide +kernel, by decide +kernel⟩
theorem scBamend : FnScope ["self", "number", "one", "other", "many", "turned"] ["self", "number", "one", "other", "many", "turned"] (defScope sBookAmend) := ⟨rfl, rfl, rfl, by decide +kernel, rfl, by decide +kernel, by decide +kernel⟩
theorem scBrem : FnScope ["self", "letter", "at", "many", "number"] ["self", "letter", "at", "many"] (defScope sBookRemember) := ⟨rfl, rfl, rfl, by decide +kernel, rfl, by decide +kernel, by decide +kernel⟩
theorem scBforg : FnScope ["self", "number"] ["self", "number"] (defScope sBookForget) := ⟨rfl, rfl, rfl, by decide +kernel, rfl, by decide +kernel, by decide +kernel⟩
theorem scBlon : FnScope ["self", "many"] ["self", "many"] (defScope sBookLengthen) := ⟨rfl, rfl, rfl, by decide +kernel, rfl, by decide +kernel, by decide +kernel⟩
theorem scBsho : FnScope ["self", "many"] ["self", "many"] (defScope sBookShorten) := ⟨rfl, rfl, rfl, by decide +kernel, rfl, by decide +kernel, by decide +kernel⟩
theorem scBgoon : FnScope ["self", "sheet"] ["self", "sheet"] (defScope sBookGo_on) := ⟨rfl, rfl, rfl, by decide +kernel, rfl, by decide +kernel, by decide +kernel⟩
theorem scBturn : FnScope ["self", "by", "old", "new"] ["self", "by"] (defScope sBookTurn) := ⟨rfl, rfl, rfl, by decide +kernel, rfl, by decide +kernel, by decide +kernel⟩
theorem scBundo : FnScope ["self"] ["self"] (defScope sBookUndo) := ⟨rfl, rfl, rfl, by decide +kernel, rfl, by decide +kernel, by decide +kernel⟩
theorem scBredo : FnScope ["self"] ["self"] (defScope sBookRedo) := ⟨rfl, rfl, rfl, by decide +kernel, rfl, by decide +kernel, by decide +kernel⟩
theorem scBundb : FnScope ["self"] ["self"] (defScope sBookUndoable) := ⟨rfl, rfl, rfl, by decide +kernel, rfl, by decide +kernel, by decide +kernel⟩
theorem scBredb : FnScope ["self"] ["self"] (defScope sBookRedoable) := ⟨rfl, rfl, rfl, by decide +kernel, rfl, by decide +kernel, by decide +kernel⟩
structure TxB (K : PySem.W.Frag) (mg : Str → Option Value) (BK S : Addr) : Prop extends TxS K S where
  clB : Cls K BK
  nsh : NoAttr K BK "sheets"
  nhe : NoAttr K BK "here"
  nso : NoAttr K BK "song"
  nno : NoAttr K BK "notes"
  ne : BK ≠ S
  mL : mg "list" = none
  ml : mg "len" = none
structure TB1 (Pg : Program) (w : World) (K : PySem.W.Frag) (mg : Str → Option Value) (base : Heap) (BK S : Addr) (fbs : Addr) (fdbs : FuncData) : Prop extends TxB K mg BK S where
  mbs : Meth K BK "sheet" fbs
  gbs : FnOk Pg w K mg base CX0 7 fbs fdbs ["self"] (spBsheet BK S)
  bbs : Binds K fdbs ["self"] []
structure TB2 (Pg : Program) (w : World) (K : PySem.W.Frag) (mg : Str → Option Value) (base : Heap) (BK S : Addr) (cz : Nat → Addr) (fbs fbc fbo fbt fbu fbr f1 f2 f3 f4 f5 f6 f8 f9 : Addr) (fdbs fdbc fdbo fdbt fdbu fdbr fd1 fd2 fd3 fd4 fd5 fd6 fd8 fd9 : FuncData) : Prop extends TB1 Pg w K mg base BK S fbs fdbs where
  mbc : Meth K BK "coming" fbc
  gbc : FnOk Pg w K mg base CX0 8 fbc fdbc ["self"] (spBcom BK S)
  bbc : Binds K fdbc ["self"] []
  mbo : Meth K BK "go_on" fbo
  gbo : FnOk Pg w K mg base CX0 9 fbo fdbo ["self", "sheet"] (spBgoon BK S)
  bbo : Binds K fdbo ["self", "sheet"] []
  mbt : Meth K BK "turn" fbt
  gbt : FnOk Pg w K mg base CX0 8 fbt fdbt ["self", "by"] (spBturn BK S)
  bbt : Binds K fdbt ["self", "by"] []
  mbu : Meth K BK "undoable" fbu
  gbu : FnOk Pg w K mg base CX0 7 fbu fdbu ["self"] (spBundb BK S)
  bbu : Binds K fdbu ["self"] []
  mbr : Meth K BK "redoable" fbr
  gbr : FnOk Pg w K mg base CX0 7 fbr fdbr ["self"] (spBredb BK S)
  bbr : Binds K fdbr ["self"] []
  m1 : Meth K S "with_saying" f1
  g1 : FnOk Pg w K mg base (L2N.CX Pg w) 9 f1 fd1 ["self", "row"] (spShws S (cz 1) (cz 5))
  b1 : Binds K fd1 ["self", "row"] []
  m2 : Meth K S "with_memory" f2
  g2 : FnOk Pg w K mg base (L2N.CX Pg w) 9 f2 fd2 ["self", "row"] (spShwm S (cz 4) (cz 1) (cz 5))
  b2 : Binds K fd2 ["self", "row"] []
  m3 : Meth K S "counted_on" f3
  g3 : FnOk Pg w K mg base CX0 9 f3 fd3 ["self"] (spShco S)
  b3 : Binds K fd3 ["self"] []
  m4 : Meth K S "without_saying" f4
  g4 : FnOk Pg w K mg base (L2N.CX Pg w) 9 f4 fd4 ["self", "number"] (spShos S (cz 3))
  b4 : Binds K fd4 ["self", "number"] []
  m5 : Meth K S "without_memory" f5
  g5 : FnOk Pg w K mg base (L2N.CX Pg w) 9 f5 fd5 ["self", "number"] (spShom S (cz 3))
  b5 : Binds K fd5 ["self", "number"] []
  m6 : Meth K S "amended" f6
  g6 : FnOk Pg w K mg base (L2N.CX Pg w) 9 f6 fd6 ["self", "row"] (spSham S (cz 3) (cz 1))
  b6 : Binds K fd6 ["self", "row"] []
  m8 : Meth K S "lengthened" f8
  g8 : FnOk Pg w K mg base (L2N.CX Pg w) 10 f8 fd8 ["self", "many"] (spShle S (cz 0))
  b8 : Binds K fd8 ["self", "many"] []
  m9 : Meth K S "shortened" f9
  g9 : FnOk Pg w K mg base (L2N.CX Pg w) 10 f9 fd9 ["self", "many"] (spShsh S (cz 0) (cz 6))
  b9 : Binds K fd9 ["self", "many"] []
  xNL : ExT K mg "NothingLeft" (cz 7)
section
variable {Pg : Program} {w : World} {K : PySem.W.Frag} {mg : Str → Option Value} {base : Heap} {BK S : Addr} {cz : Nat → Addr} {fbs fbc fbo fbt fbu fbr f1 f2 f3 f4 f5 f6 f8 f9 : Addr} {fdbs fdbc fdbo fdbt fdbu fdbr fd1 fd2 fd3 fd4 fd5 fd6 fd8 fd9 : FuncData}
theorem ok_bsheet {f : Addr} {fd : FuncData} {k : Nat} (F : Fun K "sheet" "Book.sheet" sBookSheet f fd) (X : TxB K mg BK S) : FnOk Pg w K mg base CX0 (k + 1) f fd ["self"] (spBsheet BK S) := by
  refine F.ok scBsheet (fun vs H Q E h => ?_) (fun cdv A outer s H vs Q E hr h => ?_)
  · obtain ⟨b, N, sts, here, sv, nv, rfl, _⟩ := h; rfl
  obtain ⟨b, N, sts, here, sv, nv, rfl, bk, q⟩ := h
  refine ⟨_, (pss_one (ps_ret (pe_ix ix_list (pe_fld (pv 0) rfl) (pe_fld (pv 0) rfl) (fun _ _ => rfl)))), ?_⟩
  obtain ⟨dx, l, vs, h1, h2, h3, h4, h5⟩ := bk.ex
  obtain ⟨v, hv, sh⟩ := h3.get' (List.getElem?_eq_getElem h5)
  obtain ⟨p, _, _, _, _, _, rfl, _⟩ := id sh.ex
  refine ⟨.ref b, rfl, b, BK, dx, _, .ref l, rfl, h1, X.clB, X.nsh, fldB_sheets _ _ _ _, .ref b, rfl, b, BK, dx, _, .int (here : Int), rfl, h1, X.clB, X.nhe, fldB_here _ _ _ _, l, vs, _, .ref p, rfl, rfl, .inl (.inl h2), ?_, q p _ sh (List.getElem?_eq_getElem h5)⟩
  rw [atI_eq]; exact hv
theorem ok_blen {f : Addr} {fd : FuncData} (F : Fun K "length" "Book.length" sBookLength f fd) (T : TB1 Pg w K mg base BK S fbs fdbs) : FnOk Pg w K mg base CX0 8 f fd ["self"] (spBlen BK S) := by
  refine F.ok scBlen (fun vs H Q E h => ?_) (fun cdv A outer s H vs Q E hr h => ?_)
  · obtain ⟨b, N, sts, here, sv, nv, rfl, _⟩ := h; rfl
  obtain ⟨b, N, sts, here, sv, nv, rfl, bk, q⟩ := h
  have r7 : Room 7 _ := hr
  refine ⟨_, (pss_one (ps_ret (pe_fld (pe_meth0 (pv 0) T.clB T.mbs T.gbs r7 T.bbs .nil pass0) rfl))), ?_⟩
  obtain ⟨dx, fs, hi, hn⟩ := bk.ins (m := "sheet") (by decide +kernel)
  refine ⟨.ref b, rfl, b, dx, _, rfl, hi, hn, b, N, sts, here, sv, nv, rfl, bk, fun p s_ sh hs => ?_⟩
  obtain ⟨_, dx, sa, na, xs, ys, e0, h2, h3, h4, h5, h6, h7, h8⟩ := sh.ex
  cases e0
  exact ⟨p, S, dx, _, .int s_.size, rfl, h2, T.clS, T.nz, fldS_size _ _ _ _, q s_ hs⟩
theorem ok_bcom {f : Addr} {fd : FuncData} (F : Fun K "coming" "Book.coming" sBookComing f fd) (T : TB1 Pg w K mg base BK S fbs fdbs) : FnOk Pg w K mg base CX0 8 f fd ["self"] (spBcom BK S) := by
  refine F.ok scBcom (fun vs H Q E h => ?_) (fun cdv A outer s H vs Q E hr h => ?_)
  · obtain ⟨b, N, sts, here, sv, nv, rfl, _⟩ := h; rfl
  obtain ⟨b, N, sts, here, sv, nv, rfl, bk, q⟩ := h
  have r7 : Room 7 _ := hr
  refine ⟨_, (pss_one (ps_ret (pe_fld (pe_meth0 (pv 0) T.clB T.mbs T.gbs r7 T.bbs .nil pass0) rfl))), ?_⟩
  obtain ⟨dx, fs, hi, hn⟩ := bk.ins (m := "sheet") (by decide +kernel)
  refine ⟨.ref b, rfl, b, dx, _, rfl, hi, hn, b, N, sts, here, sv, nv, rfl, bk, fun p s_ sh hs => ?_⟩
  obtain ⟨_, dx, sa, na, xs, ys, e0, h2, h3, h4, h5, h6, h7, h8⟩ := sh.ex
  cases e0
  exact ⟨p, S, dx, _, .int s_.coming, rfl, h2, T.clS, T.nu, fldS_up _ _ _ _, q s_ hs⟩
theorem ok_bsay {f : Addr} {fd : FuncData} (F : Fun K "sayings" "Book.sayings" sBookSayings f fd) (T : TB1 Pg w K mg base BK S fbs fdbs) : FnOk Pg w K mg base CX0 8 f fd ["self"] (spBsay BK S) := by
  refine F.ok scBsay (fun vs H Q E h => ?_) (fun cdv A outer s H vs Q E hr h => ?_)
  · obtain ⟨b, N, sts, here, sv, nv, rfl, _⟩ := h; rfl
  obtain ⟨b, N, sts, here, sv, nv, rfl, bk, q⟩ := h
  have r7 : Room 7 _ := hr
  refine ⟨_, (pss_one (ps_ret (pe_callTy call_list_of (by rfl) T.mL PyProof.Rows.boot_list (pa_cons (pe_fld (pe_meth0 (pv 0) T.clB T.mbs T.gbs r7 T.bbs .nil pass0) rfl) pa_nil)))), ?_⟩
  obtain ⟨dx, fs, hi, hn⟩ := bk.ins (m := "sheet") (by decide +kernel)
  refine ⟨.ref b, rfl, b, dx, _, rfl, hi, hn, b, N, sts, here, sv, nv, rfl, bk, fun p s_ sh hs => ?_⟩
  obtain ⟨_, dx, sa, na, xs, ys, e0, h2, h3, h4, h5, h6, h7, h8⟩ := sh.ex
  cases e0
  refine ⟨p, S, dx, _, .ref sa, rfl, h2, T.clS, T.ns, fldS_said _ _ _ _, sa, xs, rfl, .inl (.inl (.inl h3)), ?_⟩
  intro l1 n_l1
  generalize e_l1 : upd H l1 _ = H1
  have s1 := new_same e_l1 n_l1
  have z1 := new_at e_l1
  clear e_l1
  exact q s_ H1 l1 xs hs s1 n_l1 z1 (RL.ts (TS.of s1) h4)
theorem ok_bmem {f : Addr} {fd : FuncData} (F : Fun K "memories" "Book.memories" sBookMemories f fd) (T : TB1 Pg w K mg base BK S fbs fdbs) : FnOk Pg w K mg base CX0 8 f fd ["self"] (spBmem BK S) := by
  refine F.ok scBmem (fun vs H Q E h => ?_) (fun cdv A outer s H vs Q E hr h => ?_)
  · obtain ⟨b, N, sts, here, sv, nv, rfl, _⟩ := h; rfl
  obtain ⟨b, N, sts, here, sv, nv, rfl, bk, q⟩ := h
  have r7 : Room 7 _ := hr
  refine ⟨_, (pss_one (ps_ret (pe_callTy call_list_of (by rfl) T.mL PyProof.Rows.boot_list (pa_cons (pe_fld (pe_meth0 (pv 0) T.clB T.mbs T.gbs r7 T.bbs .nil pass0) rfl) pa_nil)))), ?_⟩
  obtain ⟨dx, fs, hi, hn⟩ := bk.ins (m := "sheet") (by decide +kernel)
  refine ⟨.ref b, rfl, b, dx, _, rfl, hi, hn, b, N, sts, here, sv, nv, rfl, bk, fun p s_ sh hs => ?_⟩
  obtain ⟨_, dx, sa, na, xs, ys, e0, h2, h3, h4, h5, h6, h7, h8⟩ := sh.ex
  cases e0
  refine ⟨p, S, dx, _, .ref na, rfl, h2, T.clS, T.nn, fldS_noted _ _ _ _, na, ys, rfl, .inl (.inl (.inl h5)), ?_⟩
  intro l1 n_l1
  generalize e_l1 : upd H l1 _ = H1
  have s1 := new_same e_l1 n_l1
  have z1 := new_at e_l1
  clear e_l1
  exact q s_ H1 l1 ys hs s1 n_l1 z1 (ML.ts (TS.of s1) h6)
theorem ok_bundb {f : Addr} {fd : FuncData} {k : Nat} (F : Fun K "undoable" "Book.undoable" sBookUndoable f fd) (X : TxB K mg BK S) : FnOk Pg w K mg base CX0 (k + 1) f fd ["self"] (spBundb BK S) := by
  refine F.ok scBundb (fun vs H Q E h => ?_) (fun cdv A outer s H vs Q E hr h => ?_)
  · obtain ⟨b, N, sts, here, sv, nv, rfl, _⟩ := h; rfl
  obtain ⟨b, N, sts, here, sv, nv, rfl, bk, q⟩ := h
  refine ⟨_, (pss_one (ps_ret (pe_fld (pv 0) rfl))), ?_⟩
  obtain ⟨dx, l, vs, h1, h2, h3, h4, h5⟩ := bk.ex
  exact ⟨.ref b, rfl, b, BK, dx, _, .int (here : Int), rfl, h1, X.clB, X.nhe, fldB_here _ _ _ _, q⟩
theorem ok_bredb {f : Addr} {fd : FuncData} {k : Nat} (F : Fun K "redoable" "Book.redoable" sBookRedoable f fd) (T : TxB K mg BK S) : FnOk Pg w K mg base CX0 (k + 1) f fd ["self"] (spBredb BK S) := by
  refine F.ok scBredb (fun vs H Q E h => ?_) (fun cdv A outer s H vs Q E hr h => ?_)
  · obtain ⟨b, N, sts, here, sv, nv, rfl, _⟩ := h; rfl
  obtain ⟨b, N, sts, here, sv, nv, rfl, bk, q⟩ := h
  refine ⟨_, (pss_one (ps_ret (pe_op op_sub (pe_op op_sub (pe_callB call_len_seq (by rfl) T.ml PySem.boot_len (pa_cons (pe_fld (pv 0) rfl) pa_nil)) pe_int) (pe_fld (pv 0) rfl)))), ?_⟩
  obtain ⟨dx, l, vs, h1, h2, h3, h4, h5⟩ := bk.ex
  refine ⟨.ref b, rfl, b, BK, dx, _, .ref l, rfl, h1, T.clB, T.nsh, fldB_sheets _ _ _ _, l, vs, rfl, .inl (.inl (.inl h2)), _, _, rfl, rfl, .ref b, rfl, b, BK, dx, _, .int (here : Int), rfl, h1, T.clB, T.nhe, fldB_here _ _ _ _, _, _, rfl, rfl, ?_⟩
  rw [h3.len]; exact q
theorem ok_bturn {f : Addr} {fd : FuncData} (F : Fun K "turn" "Book.turn" sBookTurn f fd) (T : TB1 Pg w K mg base BK S fbs fdbs) : FnOk Pg w K mg base CX0 8 f fd ["self", "by"] (spBturn BK S) := by
  refine F.ok scBturn (fun vs H Q E h => ?_) (fun cdv A outer s H vs Q E hr h => ?_)
  · obtain ⟨b, N, sts, here, here', by_, sv, nv, rfl, _⟩ := h; rfl
  obtain ⟨b, N, sts, here, here', by_, sv, nv, rfl, bk, eb, hl, q⟩ := h
  have r7 : Room 7 _ := hr
  refine ⟨_, (pss_cons (ps_set (i := 2) scBturn.nd rfl (.inl rfl) (pe_meth0 (pv 0) T.clB T.mbs T.gbs r7 T.bbs .nil pass0))
    (pss_cons (ps_fldaug (pv 0) (pv 1) in_add)
    (pss_cons (ps_set (i := 3) scBturn.nd rfl (.inl rfl) (pe_meth0 (pv 0) T.clB T.mbs T.gbs r7 T.bbs .nil pass0))
    (pss_cons (ps_if (PW.pt (pw_or (pt_cmpR op_ne (pe_fld (pv 2) rfl) (pe_fld (pv 3) rfl) (nomark _)) (pw_or1 (pt_cmpR (op_neD hr.units) (pe_fld (pv 2) rfl) (pe_fld (pv 3) rfl) (nomark _))))) (pss_one (ps_fld (pv 0) pe_non rfl)) pss_nil)
    (pss_one (ps_fld (pv 0) pe_non rfl)))))), ?_⟩
  obtain ⟨dx0, fs0, hi, hn⟩ := bk.ins (m := "sheet") (by decide +kernel)
  refine ⟨.ref b, rfl, b, dx0, _, rfl, hi, hn, b, N, sts, here, sv, nv, rfl, bk, fun p s_ sh hs => ?_⟩
  obtain ⟨dx, l, vs, h1, h2, h3, h4, h5⟩ := bk.ex
  refine ⟨.ref b, rfl, b, BK, dx, _, .int (here : Int), rfl, h1, T.clB, T.nhe, fldB_here _ _ _ _, .int by_, rfl, _, _, rfl, rfl, dx, _, h1, fldB_len _ _ _ _, ?_⟩
  rw [eb, putB_here]
  have s0 : Sam b H H := fun b o e _ => e
  have sm1 : Sam b H (upd H b (.ins BK dx (fldB l (here' : Int) sv nv))) := s0.upd
  have hb1 : upd H b (.ins BK dx (fldB l (here' : Int) sv nv)) b = some (.ins BK dx (fldB l (here' : Int) sv nv)) := upd_same
  generalize upd H b (.ins BK dx (fldB l (here' : Int) sv nv)) = H1 at sm1 hb1 ⊢
  have kp1 : Kp S N H H1 := .sam sm1 h1 T.ne
  have nlb : l ≠ b := fun z => by rw [z, h1] at h2; cases h2
  have bk1 : BkAt BK S N H1 b sts here' sv nv := ⟨dx, l, vs, hb1, sm1 _ _ h2 nlb, h3.imp fun _ _ z => z.kp kp1, h4, hl⟩
  refine ⟨.ref b, rfl, b, dx, _, rfl, hb1, fldB_no _ _ _ _ (by decide +kernel), b, N, sts, here', sv, nv, rfl, bk1, fun p' s' sh' hs' => ?_⟩
  have shp := sh.kp kp1
  obtain ⟨_, da, sa, na, xs, ys, e0, a2, a3, a4, a5, a6, a7, a8⟩ := shp.ex
  cases e0
  obtain ⟨_, dc, sc, nc, xc, yc, e0, c2, c3, c4, c5, c6, c7, c8⟩ := sh'.ex
  cases e0
  have fin : ∀ (Hx : Hp) (sx : V), Sam b H Hx → Hx b = some (.ins BK dx (fldB l (here' : Int) sx nv)) → SvK sv sx s_ s' → Q .non (upd Hx b (.ins BK dx (fldB l (here' : Int) sx .non))) := fun Hx sx smx hbx hk => by
    have kpx : Kp S N H (upd Hx b (.ins BK dx (fldB l (here' : Int) sx .non))) := .sam smx.upd h1 T.ne
    exact q s_ s' _ sx hs hs' smx.upd ⟨dx, l, vs, upd_same, smx.upd _ _ h2 nlb, h3.imp fun _ _ z => z.kp kpx, h4, hl⟩ hk
  refine ⟨.ref p, rfl, p, S, da, _, .int s_.size, rfl, a2, T.clS, T.nz, fldS_size _ _ _ _, .ref p', rfl, p', S, dc, _, .int s'.size, rfl, c2, T.clS, T.nz, fldS_size _ _ _ _, rfl, _, rfl, ite2 (fun c => ?_) (fun c => ?_)⟩
  · refine iteT ?_
    refine ⟨.ref b, rfl, b, BK, dx, _, rfl, hb1, T.clB, T.nso, fldB_len _ _ _ _, ?_⟩
    rw [putB_song]
    refine ⟨.ref b, rfl, b, BK, dx, _, rfl, upd_same, T.clB, T.nno, fldB_len _ _ _ _, ?_⟩
    rw [putB_notes]
    exact fin _ .non sm1.upd upd_same (.inl rfl)
  · have c : s_.size = s'.size := by
      by_cases z : s_.size = s'.size
      · exact z
      · exact absurd (show (!decide (V.int s_.size = V.int s'.size)) = true by rw [decide_eq_false fun y => z (V.int.inj y)]; rfl) c
    refine ⟨.ref p, rfl, p, S, da, _, .ref sa, rfl, a2, T.clS, T.ns, fldS_said _ _ _ _, .ref p', rfl, p', S, dc, _, .ref sc, rfl, c2, T.clS, T.ns, fldS_said _ _ _ _, _, _, .lst (.inl (.inl a3)) (dpAll_rw a4), .lst (.inl (.inl c3)) (dpAll_rw c4), shapedRw _, shapedRw _, _, rfl, ite2 (fun d => ?_) (fun d => ?_)⟩
    · refine ⟨.ref b, rfl, b, BK, dx, _, rfl, hb1, T.clB, T.nso, fldB_len _ _ _ _, ?_⟩
      rw [putB_song]
      refine ⟨.ref b, rfl, b, BK, dx, _, rfl, upd_same, T.clB, T.nno, fldB_len _ _ _ _, ?_⟩
      rw [putB_notes]
      exact fin _ .non sm1.upd upd_same (.inl rfl)
    · refine ⟨.ref b, rfl, b, BK, dx, _, rfl, hb1, T.clB, T.nno, fldB_len _ _ _ _, ?_⟩
      rw [putB_notes]
      exact fin H1 sv sm1 hb1 (.inr ⟨rfl, c, by simpa using d⟩)
end
end Rep
namespace Rep
open PySem L2 L2H RepHot
/-! the book's deeds -/
theorem Sam.pre {b : Addr} {H H1 H2 : Hp} (s : Same H H1) (h : Sam b H1 H2) : Sam b H H2 := fun c o e n => h c o (s _ _ e) n
theorem Sam.trans {b : Addr} {H H1 H2 : Hp} (h : Sam b H H1) (k : Sam b H1 H2) : Sam b H H2 := fun c o e n => k c o (h c o e n) n
theorem ShAt.ins {S p : Addr} {N : Addr → Prop} {H : Hp} {s : Sht} (h : ShAt S N H (.ref p) s) {m : Str} (k : (m == "noted" || m == "said" || m == "upcoming" || m == "size") = false) : ∃ dx fs, H p = some (.ins S dx fs) ∧ fs.lookup m = none := by
  obtain ⟨_, dx, sa, na, xs, ys, e0, h2, _⟩ := h.ex
  cases e0
  exact ⟨dx, _, h2, fldS_no _ _ _ _ k⟩
theorem take_at {α : Type} {l : List α} {k : Nat} {a : α} (h : k < l.length) : (l.take (k + 1) ++ [a])[k]? = l[k]? ∧ (l.take (k + 1) ++ [a])[k + 1]? = some a ∧ (l.take (k + 1) ++ [a]).length = k + 2 := by
  have e : (l.take (k + 1)).length = k + 1 := by rw [List.length_take]; omega
  refine ⟨?_, ?_, ?_⟩
  · rw [List.getElem?_append_left (by omega), List.getElem?_take]; simp
  · rw [List.getElem?_append_right (by omega), e, Nat.sub_self]; rfl
  · rw [List.length_append, e]; rfl
structure TTurn (Pg : Program) (w : World) (K : PySem.W.Frag) (mg : Str → Option Value) (base : Heap) (BK S : Addr) (fbt : Addr) (fdbt : FuncData) : Prop where
  clB : Cls K BK
  mbt : Meth K BK "turn" fbt
  gbt : FnOk Pg w K mg base CX0 8 fbt fdbt ["self", "by"] (spBturn BK S)
  bbt : Binds K fdbt ["self", "by"] []
structure TBi (Pg : Program) (w : World) (K : PySem.W.Frag) (mg : Str → Option Value) (base : Heap) (S BL : Addr) (fCl fSh : Addr) (fdCl fdSh : FuncData) : Prop where
  gCl : FnOk Pg w K mg base (L2N.CX Pg w) 8 fCl fdCl ["length"] (spChklX BL)
  bCl : Binds K fdCl ["length"] []
  kCl : PySem.W.keepIn K (.ref fCl) = true
  mCl : mg "check_length" = some (.ref fCl)
  MSh : Mk K S fSh
  gSh : FnOk Pg w K mg base CX0 7 fSh fdSh nSinit (spSinit S)
  bSh : Binds K fdSh nSinit []
  mSh : mg "Sheet" = some (.ref S)
section
variable {Pg : Program} {w : World} {K : PySem.W.Frag} {mg : Str → Option Value} {base : Heap} {BK S : Addr} {cz : Nat → Addr} {fbs fbc fbo fbt fbu fbr f1 f2 f3 f4 f5 f6 f8 f9 : Addr} {fdbs fdbc fdbo fdbt fdbu fdbr fd1 fd2 fd3 fd4 fd5 fd6 fd8 fd9 : FuncData}
theorem ok_bgoon {f fbt : Addr} {fd fdbt : FuncData} (F : Fun K "go_on" "Book.go_on" sBookGo_on f fd) (X : TxB K mg BK S) (T : TTurn Pg w K mg base BK S fbt fdbt) : FnOk Pg w K mg base CX0 9 f fd ["self", "sheet"] (spBgoon BK S) := by
  refine F.ok scBgoon (fun vs H Q E h => ?_) (fun cdv A outer s H vs Q E hr h => ?_)
  · obtain ⟨b, p, N, sts, here, sv, nv, s', rfl, _⟩ := h; rfl
  obtain ⟨b, p, N, sts, here, sv, nv, s', rfl, bk, sh, na, lt, q⟩ := h
  have r8 : Room 8 _ := hr
  refine ⟨_, (pss_cons (ps_fld (pv 0) (pe_op op_cat (pe_slice sl_list (pe_fld (pv 0) rfl) po_none (po_some (pe_op op_add (pe_fld (pv 0) rfl) pe_int))) (pe_lst (pa_cons (pv 1) pa_nil))) rfl)
    (pss_one (ps_expr (pe_meth (pv 0) T.clB T.mbt T.gbt r8 T.bbt .nil pass0 (pa_cons pe_int pa_nil))))), ?_⟩
  obtain ⟨dx, l, vs, h1, h2, h3, h4, h5⟩ := bk.ex
  have vl := h3.len
  obtain ⟨t1, t2, t3⟩ := take_at (a := s') h5
  refine ⟨.ref b, rfl, b, BK, dx, _, .ref l, rfl, h1, X.clB, X.nsh, fldB_sheets _ _ _ _, .ref b, rfl, b, BK, dx, _, .int (here : Int), rfl, h1, X.clB, X.nhe, fldB_here _ _ _ _, _, _, rfl, rfl, _, rfl, l, vs, rfl, .inl (.inl h2), ?_⟩
  intro l1 n_l1
  generalize e_l1 : upd H l1 _ = H1
  have s1 := new_same e_l1 n_l1
  have z1 := new_at e_l1
  clear e_l1
  have ec : cutV vs none (some ((here : Int) + 1)) = vs.take (here + 1) := cutTo vs (here + 1)
  rw [ec] at z1
  refine ⟨.ref p, rfl, ?_⟩
  refine ⟨szN 1 rfl, fun l2 n_l2 => ?_⟩
  generalize e_l2 : upd H1 l2 _ = H2
  have s2 := new_same e_l2 n_l2
  have z2 := new_at e_l2
  clear e_l2
  refine ⟨l1, l2, _, _, rfl, rfl, s2 _ _ z1, z2, Nat.le_trans (show _ ≤ 2000 by rw [List.length_take]; show _ + 1 ≤ 2000; omega) (by decide), ?_⟩
  intro l3 n_l3
  generalize e_l3 : upd H2 l3 _ = H3
  have s3 := new_same e_l3 n_l3
  have z3 := new_at e_l3
  clear e_l3
  have s13 := s1.trans (s2.trans s3)
  refine ⟨.ref b, rfl, b, BK, dx, _, rfl, s13 _ _ h1, X.clB, X.nsh, fldB_len _ _ _ _, ?_⟩
  rw [putB_sheets]
  have s0 : Sam b H3 H3 := fun b o e _ => e
  have sm4 : Sam b H3 (upd H3 b (.ins BK dx (fldB l3 (here : Int) sv nv))) := s0.upd
  have hb4 : upd H3 b (.ins BK dx (fldB l3 (here : Int) sv nv)) b = some (.ins BK dx (fldB l3 (here : Int) sv nv)) := upd_same
  generalize upd H3 b (.ins BK dx (fldB l3 (here : Int) sv nv)) = H4 at sm4 hb4 ⊢
  have kp : Kp S N H3 H4 := .sam sm4 (s13 _ _ h1) X.ne
  have n3b : l3 ≠ b := fun z => by rw [z, s13 _ _ h1] at z3; cases z3
  have bk4 : BkAt BK S N H4 b (sts.take (here + 1) ++ [s']) here sv nv := ⟨dx, l3, _, hb4, sm4 _ _ z3 n3b, (((h3.imp fun _ _ z => (z.same s13).kp kp).take (here + 1)).snoc ((sh.same s13).kp kp)), (na.same (s1.trans s2)).not n_l3, by omega⟩
  refine ⟨.ref b, rfl, b, dx, _, rfl, hb4, fldB_no _ _ _ _ (by decide +kernel), b, N, _, here, here + 1, 1, sv, nv, rfl, bk4, rfl, by omega, fun sa sb H5 sv5 ha hb sm5 bk5 hk => ?_⟩
  rw [t1] at ha
  rw [t2] at hb
  cases hb
  exact q sa H5 sv5 ha (Sam.pre s13 (sm4.trans sm5)) bk5 hk
theorem ok_bundo {f : Addr} {fd : FuncData} (F : Fun K "undo" "Book.undo" sBookUndo f fd) (T : TB2 Pg w K mg base BK S cz fbs fbc fbo fbt fbu fbr f1 f2 f3 f4 f5 f6 f8 f9 fdbs fdbc fdbo fdbt fdbu fdbr fd1 fd2 fd3 fd4 fd5 fd6 fd8 fd9) : FnOk Pg w K mg base (L2N.CX Pg w) 11 f fd ["self"] (spBundo BK S cz) := by
  refine okN F scBundo (fun vs H Q E h => ?_) (fun cdv A outer s H vs Q E hr h => ?_)
  · obtain ⟨b, N, sts, here, sv, nv, rfl, _⟩ := h; rfl
  obtain ⟨b, N, sts, here, sv, nv, rfl, bk, q, qe⟩ := h
  have r8 : Room 8 _ := hr.mono (by decide)
  have r7 : Room 7 _ := hr.mono (by decide)
  refine ⟨_, (pss_cons (ps_if (pt_cmpR op_eq (pe_meth0 (pv 0) T.clB T.mbu T.gbu r7 T.bbu .nil pass0) pe_int (nomark _)) (pss_one (L2N.ps_raise rfl (L2N.takes_of rfl rfl rfl rfl) (L2N.pmk_own PySem.F.excBase_ValueError T.xNL.x T.xNL.g T.xNL.k (raises_own T.xNL.b T.xNL.t) rfl))) pss_nil)
    (pss_one (ps_expr (pe_meth (pv 0) T.clB T.mbt T.gbt r8 T.bbt .nil pass0 (pa_cons (pe_un un_neg pe_int) pa_nil))))), ?_⟩
  obtain ⟨dx, fs, hi, hn⟩ := bk.ins (m := "undoable") (by decide +kernel)
  refine ⟨.ref b, rfl, b, dx, _, rfl, hi, hn, b, N, sts, here, sv, nv, rfl, bk, rfl, _, rfl, ite2 (fun c => ?_) (fun c => ?_)⟩
  · have c : (here : Int) = 0 := V.int.inj (of_decide_eq_true c)
    exact qe (by omega) _ (Same.refl _)
  · have c : ¬ (here : Int) = 0 := fun z => c (decide_eq_true (by rw [z]))
    obtain ⟨h', rfl⟩ : ∃ h', here = h' + 1 := ⟨here - 1, by omega⟩
    obtain ⟨dx2, fs2, hi2, hn2⟩ := bk.ins (m := "turn") (by decide +kernel)
    obtain ⟨_, _, _, _, _, _, _, h5⟩ := bk.ex
    exact ⟨.ref b, rfl, b, dx2, _, rfl, hi2, hn2, 1, rfl, b, N, sts, h' + 1, h', -1, sv, nv, rfl, bk, by omega, by omega, fun sa sb H5 sv5 ha hb sm5 bk5 hk => q h' rfl sa sb H5 sv5 ha hb sm5 bk5 hk⟩
theorem ok_bredo {f : Addr} {fd : FuncData} (F : Fun K "redo" "Book.redo" sBookRedo f fd) (T : TB2 Pg w K mg base BK S cz fbs fbc fbo fbt fbu fbr f1 f2 f3 f4 f5 f6 f8 f9 fdbs fdbc fdbo fdbt fdbu fdbr fd1 fd2 fd3 fd4 fd5 fd6 fd8 fd9) : FnOk Pg w K mg base (L2N.CX Pg w) 11 f fd ["self"] (spBredo BK S cz) := by
  refine okN F scBredo (fun vs H Q E h => ?_) (fun cdv A outer s H vs Q E hr h => ?_)
  · obtain ⟨b, N, sts, here, sv, nv, rfl, _⟩ := h; rfl
  obtain ⟨b, N, sts, here, sv, nv, rfl, bk, q, qe⟩ := h
  have r8 : Room 8 _ := hr.mono (by decide)
  have r7 : Room 7 _ := hr.mono (by decide)
  refine ⟨_, (pss_cons (ps_if (pt_cmpR op_eq (pe_meth0 (pv 0) T.clB T.mbr T.gbr r7 T.bbr .nil pass0) pe_int (nomark _)) (pss_one (L2N.ps_raise rfl (L2N.takes_of rfl rfl rfl rfl) (L2N.pmk_own PySem.F.excBase_ValueError T.xNL.x T.xNL.g T.xNL.k (raises_own T.xNL.b T.xNL.t) rfl))) pss_nil)
    (pss_one (ps_expr (pe_meth (pv 0) T.clB T.mbt T.gbt r8 T.bbt .nil pass0 (pa_cons pe_int pa_nil))))), ?_⟩
  obtain ⟨dx, fs, hi, hn⟩ := bk.ins (m := "redoable") (by decide +kernel)
  obtain ⟨_, _, _, _, _, _, _, h5⟩ := bk.ex
  refine ⟨.ref b, rfl, b, dx, _, rfl, hi, hn, b, N, sts, here, sv, nv, rfl, bk, rfl, _, rfl, ite2 (fun c => ?_) (fun c => ?_)⟩
  · have c : (sts.length : Int) - 1 - (here : Int) = 0 := V.int.inj (of_decide_eq_true c)
    exact qe (by omega) _ (Same.refl _)
  · have c : ¬ (sts.length : Int) - 1 - (here : Int) = 0 := fun z => c (decide_eq_true (by rw [z]))
    obtain ⟨dx2, fs2, hi2, hn2⟩ := bk.ins (m := "turn") (by decide +kernel)
    exact ⟨.ref b, rfl, b, dx2, _, rfl, hi2, hn2, b, N, sts, here, here + 1, 1, sv, nv, rfl, bk, rfl, by omega, fun sa sb H5 sv5 ha hb sm5 bk5 hk => q (by omega) sa sb H5 sv5 ha hb sm5 bk5 hk⟩
theorem ok_binit {f fCl fSh : Addr} {fd fdCl fdSh : FuncData} {BL : Addr} (F : Fun K "__init__" "Book.__init__" sBookInit f fd) (X : TxB K mg BK S) (T : TBi Pg w K mg base S BL fCl fSh fdCl fdSh) : FnOk Pg w K mg base (L2N.CX Pg w) 9 f fd ["self", "length"] (spBinit BK S BL) := by
  refine okN F scBinit (fun vs H Q E h => ?_) (fun cdv A outer s H vs Q E hr h => ?_)
  · obtain ⟨b, dx, N, e, rfl, _⟩ := h; rfl
  obtain ⟨b, dx, N, e, rfl, hb, na, q, qe⟩ := h
  have r8 : Room 8 _ := hr
  refine ⟨_, (pss_cons (ps_expr (pe_call T.gCl r8 (by rfl) T.mCl T.kCl T.bCl .nil (L2N.passes_call (L2N.takes_of rfl rfl rfl rfl) (fun _ _ _ _ h => h)) (pa_cons (pv 1) pa_nil)))
    (pss_cons (ps_fld (pv 0) (pe_lst (pa_cons (pe_make T.MSh T.gSh r8 (by rfl) T.mSh T.bSh .nil pass0 (pa_cons (pv 1) (pa_cons pe_int (pa_cons (pe_lst pa_nil) (pa_cons (pe_lst pa_nil) pa_nil))))) pa_nil)) rfl)
    (pss_cons (ps_fld (pv 0) pe_int rfl)
    (pss_cons (ps_fld (pv 0) pe_non rfl)
    (pss_one (ps_fld (pv 0) pe_non rfl)))))), ?_⟩
  refine ⟨.int e, rfl, e, rfl, fun he => ?_, fun he => qe he⟩
  refine ⟨.int e, rfl, ?_⟩
  refine ⟨szN 0 rfl, fun l1 n_l1 => ?_⟩
  generalize e_l1 : upd H l1 _ = H1
  have s1 := new_same e_l1 n_l1
  have z1 := new_at e_l1
  clear e_l1
  refine ⟨szN 0 rfl, fun l2 n_l2 => ?_⟩
  generalize e_l2 : upd H1 l2 _ = H2
  have s2 := new_same e_l2 n_l2
  have z2 := new_at e_l2
  clear e_l2
  intro p dxp np ndx ne
  refine make_sh (N := N) (rs := []) (ms := []) (s2 _ _ z1) LL.nil z2 LL.nil (na.not n_l1) ((na.same s1).not n_l2) np ndx ne (fun H3 s3 sh3 => ?_)
  refine ⟨szN 1 rfl, fun l3 n_l3 => ?_⟩
  generalize e_l3 : upd H3 l3 _ = H4
  have s4 := new_same e_l3 n_l3
  have z4 := new_at e_l3
  clear e_l3
  have s14 := s1.trans (s2.trans (s3.trans s4))
  have hb4 := s14 _ _ hb
  refine ⟨.ref b, rfl, b, BK, dx, _, rfl, hb4, X.clB, X.nsh, (by show 0 < 1000; decide), ?_⟩
  refine ⟨.ref b, rfl, b, BK, dx, _, rfl, upd_same, X.clB, X.nhe, (by have := length_putF "sheets" (V.ref l3) []; exact Nat.lt_of_le_of_lt this (by decide)), ?_⟩
  refine ⟨.ref b, rfl, b, BK, dx, _, rfl, upd_same, X.clB, X.nso, ?_, ?_⟩
  · have h1 := length_putF "here" (V.int 0) (putF "sheets" (V.ref l3) [])
    have h2 := length_putF "sheets" (V.ref l3) []
    have h3 : ([] : List (Str × V)).length = 0 := rfl
    omega
  refine ⟨.ref b, rfl, b, BK, dx, _, rfl, upd_same, X.clB, X.nno, ?_, ?_⟩
  · have h0 := length_putF "song" V.non (putF "here" (V.int 0) (putF "sheets" (V.ref l3) []))
    have h1 := length_putF "here" (V.int 0) (putF "sheets" (V.ref l3) [])
    have h2 := length_putF "sheets" (V.ref l3) []
    have h3 : ([] : List (Str × V)).length = 0 := rfl
    omega
  rw [fldB_mk]
  have s0 : Sam b H4 H4 := fun b o e _ => e
  have sm := s0.upd (o := .ins BK dx (putF "sheets" (V.ref l3) [])) |>.upd (o := .ins BK dx (putF "here" (V.int 0) (putF "sheets" (V.ref l3) []))) |>.upd (o := .ins BK dx (putF "song" V.non (putF "here" (V.int 0) (putF "sheets" (V.ref l3) [])))) |>.upd (o := .ins BK dx (fldB l3 0 .non .non))
  have kp := Kp.sam (S := S) (N := N) sm hb4 X.ne
  have n3 : l3 ≠ b := fun z => by rw [z, hb4] at z4; cases z4
  exact q he _ (Sam.pre s14 sm) ⟨dx, l3, _, upd_same, sm _ _ z4 n3, LL.one ((sh3.same s4).kp kp), (na.same (s1.trans (s2.trans s3))).not n_l3, Nat.zero_lt_one⟩
theorem ok_bsayd {f : Addr} {fd : FuncData} (F : Fun K "say" "Book.say" sBookSay f fd) (T : TB2 Pg w K mg base BK S cz fbs fbc fbo fbt fbu fbr f1 f2 f3 f4 f5 f6 f8 f9 fdbs fdbc fdbo fdbt fdbu fdbr fd1 fd2 fd3 fd4 fd5 fd6 fd8 fd9) : FnOk Pg w K mg base (L2N.CX Pg w) 11 f fd ["self", "one", "other", "many", "turned"] (spDd BK S cz mSay) := by
  refine okN F scBsayd (fun vs H Q E h => ?_) (fun cdv A outer s H vs Q E hr h => ?_)
  · obtain ⟨b, N, sts, here, sv, nv, s_, d, ⟨y, rfl, rfl⟩, _⟩ := h; rfl
  obtain ⟨b, N, sts, here, sv, nv, s_, d, ⟨y, rfl, rfl⟩, ⟨bk, now, na, ln, lt⟩, q⟩ := h
  have r10 : Room 10 _ := hr
  have r9 : Room 9 _ := hr.mono (by decide)
  have r8 : Room 8 _ := hr.mono (by decide)
  have r7 : Room 7 _ := hr.mono (by decide)
  refine ⟨_, (pss_cons (ps_set (i := 5) scBsayd.nd rfl (.inl rfl) (pe_meth0 (pv 0) T.clB T.mbc T.gbc r8 T.bbc .nil pass0))
    (pss_cons (ps_expr (pe_meth (pv 0) T.clB T.mbo T.gbo r9 T.bbo .nil pass0 (pa_cons (pe_meth0 (pe_meth (pe_meth0 (pv 0) T.clB T.mbs T.gbs r7 T.bbs .nil pass0) T.clS T.m1 T.g1 r9 T.b1 .nil (L2N.passes_call (L2N.takes_of rfl rfl rfl rfl) (fun _ _ _ _ h => h)) (pa_cons (pe_tup (pa_cons (pv 5) (pa_cons (pv 1) (pa_cons (pv 2) (pa_cons (pv 3) (pa_cons (pv 4) pa_nil)))))) pa_nil)) T.clS T.m3 T.g3 r9 T.b3 .nil pass0) pa_nil)))
    (pss_one (ps_ret (pv 5))))), ?_⟩
  obtain ⟨dx0, fs0, hi0, hn0⟩ := bk.ins (m := "coming") (by decide +kernel)
  refine ⟨.ref b, rfl, b, dx0, _, rfl, hi0, hn0, b, N, sts, here, sv, nv, rfl, bk, fun s0 hs0 => ?_⟩
  obtain rfl : s_ = s0 := Option.some.inj (now.symm.trans hs0)
  obtain ⟨dx1, fs1, hi1, hn1⟩ := bk.ins (m := "go_on") (by decide +kernel)
  obtain ⟨dx2, fs2, hi2, hn2⟩ := bk.ins (m := "sheet") (by decide +kernel)
  refine ⟨.ref b, rfl, b, dx1, _, rfl, hi1, hn1, .ref b, rfl, b, dx2, _, rfl, hi2, hn2, b, N, sts, here, sv, nv, rfl, bk, fun p s1 sh hs1 => ?_⟩
  obtain rfl : s_ = s1 := Option.some.inj (now.symm.trans hs1)
  obtain ⟨dx3, fs3, hi3, hn3⟩ := sh.ins (m := "with_saying") (by decide +kernel)
  refine ⟨p, dx3, _, rfl, hi3, hn3, .int s_.coming, rfl, .int y.lo, rfl, .int y.hi, rfl, .int y.n, rfl, .bl y.t, rfl, ?_⟩
  refine ⟨szN 5 rfl, fun t1 n_t1 => ?_⟩
  generalize e_t1 : upd H t1 _ = H1
  have s1 := new_same e_t1 n_t1
  have z1 := new_at e_t1
  clear e_t1
  refine ⟨p, t1, N, s_, ⟨s_.coming, y⟩, rfl, sh.same s1, ⟨t1, rfl, z1⟩, na.same s1, ln, fun g r => ?_, fun g r H2 s2 => q _ (.inr (.inl ⟨g, r, rfl⟩)) H2 (s1.trans s2), fun g H2 s2 => q _ (.inr (.inr ⟨g, rfl⟩)) H2 (s1.trans s2)⟩
  intro H3 p3 s3 sh3
  have s13 := s1.trans s3
  obtain ⟨dx4, fs4, hi4, hn4⟩ := sh3.ins (m := "counted_on") (by decide +kernel)
  refine ⟨p3, dx4, _, rfl, hi4, hn4, p3, N, _, rfl, sh3, na.same s13, fun H4 p4 s4 sh4 => ?_⟩
  have s14 := s13.trans s4
  refine ⟨b, p4, N, sts, here, sv, nv, _, rfl, bk.same s14, sh4, na.same s14, lt, fun sx H5 sv5 hx sm bk5 hk => ?_⟩
  obtain rfl : s_ = sx := Option.some.inj (now.symm.trans hx)
  exact ⟨.int s_.coming, rfl, q _ (.inl ⟨g, r, rfl⟩) H5 sv5 (Sam.pre s14 sm) bk5 hk⟩
theorem ok_brem {f : Addr} {fd : FuncData} (F : Fun K "remember" "Book.remember" sBookRemember f fd) (T : TB2 Pg w K mg base BK S cz fbs fbc fbo fbt fbu fbr f1 f2 f3 f4 f5 f6 f8 f9 fdbs fdbc fdbo fdbt fdbu fdbr fd1 fd2 fd3 fd4 fd5 fd6 fd8 fd9) : FnOk Pg w K mg base (L2N.CX Pg w) 11 f fd ["self", "letter", "at", "many"] (spDd BK S cz mRem) := by
  refine okN F scBrem (fun vs H Q E h => ?_) (fun cdv A outer s H vs Q E hr h => ?_)
  · obtain ⟨b, N, sts, here, sv, nv, s_, d, ⟨z, x, m, rfl, hz, rfl⟩, _⟩ := h; rfl
  obtain ⟨b, N, sts, here, sv, nv, s_, d, ⟨z, x, m, rfl, hz, rfl⟩, ⟨bk, now, na, ln, lt⟩, q⟩ := h
  have r10 : Room 10 _ := hr
  have r9 : Room 9 _ := hr.mono (by decide)
  have r8 : Room 8 _ := hr.mono (by decide)
  have r7 : Room 7 _ := hr.mono (by decide)
  refine ⟨_, (pss_cons (ps_set (i := 4) scBrem.nd rfl (.inl rfl) (pe_meth0 (pv 0) T.clB T.mbc T.gbc r8 T.bbc .nil pass0))
    (pss_cons (ps_expr (pe_meth (pv 0) T.clB T.mbo T.gbo r9 T.bbo .nil pass0 (pa_cons (pe_meth0 (pe_meth (pe_meth0 (pv 0) T.clB T.mbs T.gbs r7 T.bbs .nil pass0) T.clS T.m2 T.g2 r9 T.b2 .nil (L2N.passes_call (L2N.takes_of rfl rfl rfl rfl) (fun _ _ _ _ h => h)) (pa_cons (pe_tup (pa_cons (pv 4) (pa_cons (pv 1) (pa_cons (pv 2) (pa_cons (pv 3) pa_nil))))) pa_nil)) T.clS T.m3 T.g3 r9 T.b3 .nil pass0) pa_nil)))
    (pss_one (ps_ret (pv 4))))), ?_⟩
  obtain ⟨dx0, fs0, hi0, hn0⟩ := bk.ins (m := "coming") (by decide +kernel)
  refine ⟨.ref b, rfl, b, dx0, _, rfl, hi0, hn0, b, N, sts, here, sv, nv, rfl, bk, fun s0 hs0 => ?_⟩
  obtain rfl : s_ = s0 := Option.some.inj (now.symm.trans hs0)
  obtain ⟨dx1, fs1, hi1, hn1⟩ := bk.ins (m := "go_on") (by decide +kernel)
  obtain ⟨dx2, fs2, hi2, hn2⟩ := bk.ins (m := "sheet") (by decide +kernel)
  refine ⟨.ref b, rfl, b, dx1, _, rfl, hi1, hn1, .ref b, rfl, b, dx2, _, rfl, hi2, hn2, b, N, sts, here, sv, nv, rfl, bk, fun p s1 sh hs1 => ?_⟩
  obtain rfl : s_ = s1 := Option.some.inj (now.symm.trans hs1)
  obtain ⟨dx3, fs3, hi3, hn3⟩ := sh.ins (m := "with_memory") (by decide +kernel)
  refine ⟨p, dx3, _, rfl, hi3, hn3, .int s_.coming, rfl, .str z, rfl, .int x, rfl, .int m, rfl, ?_⟩
  refine ⟨szN 4 rfl, fun t1 n_t1 => ?_⟩
  generalize e_t1 : upd H t1 _ = H1
  have s1 := new_same e_t1 n_t1
  have z1 := new_at e_t1
  clear e_t1
  refine ⟨p, t1, N, s_, ⟨s_.coming, z, x, m⟩, rfl, sh.same s1, ⟨t1, rfl, z1⟩, hz, na.same s1, ln, fun g g' r => ?_, fun g g' r H2 s2 => q _ (.inr (.inl ⟨g, g', r, rfl⟩)) H2 (s1.trans s2), fun g g' H2 s2 => q _ (.inr (.inr (.inl ⟨g, g', rfl⟩))) H2 (s1.trans s2), fun g H2 s2 => q _ (.inr (.inr (.inr ⟨g, rfl⟩))) H2 (s1.trans s2)⟩
  intro H3 p3 s3 sh3
  have s13 := s1.trans s3
  obtain ⟨dx4, fs4, hi4, hn4⟩ := sh3.ins (m := "counted_on") (by decide +kernel)
  refine ⟨p3, dx4, _, rfl, hi4, hn4, p3, N, _, rfl, sh3, na.same s13, fun H4 p4 s4 sh4 => ?_⟩
  have s14 := s13.trans s4
  refine ⟨b, p4, N, sts, here, sv, nv, _, rfl, bk.same s14, sh4, na.same s14, lt, fun sx H5 sv5 hx sm bk5 hk => ?_⟩
  obtain rfl : s_ = sx := Option.some.inj (now.symm.trans hx)
  exact ⟨.int s_.coming, rfl, q _ (.inl ⟨g, g', r, rfl⟩) H5 sv5 (Sam.pre s14 sm) bk5 hk⟩
theorem ok_bunsay {f : Addr} {fd : FuncData} (F : Fun K "unsay" "Book.unsay" sBookUnsay f fd) (T : TB2 Pg w K mg base BK S cz fbs fbc fbo fbt fbu fbr f1 f2 f3 f4 f5 f6 f8 f9 fdbs fdbc fdbo fdbt fdbu fdbr fd1 fd2 fd3 fd4 fd5 fd6 fd8 fd9) : FnOk Pg w K mg base (L2N.CX Pg w) 11 f fd ["self", "number"] (spDd BK S cz mUnsay) := by
  refine okN F scBunsay (fun vs H Q E h => ?_) (fun cdv A outer s H vs Q E hr h => ?_)
  · obtain ⟨b, N, sts, here, sv, nv, s_, d, ⟨n, rfl, rfl⟩, _⟩ := h; rfl
  obtain ⟨b, N, sts, here, sv, nv, s_, d, ⟨n, rfl, rfl⟩, ⟨bk, now, na, ln, lt⟩, q⟩ := h
  have r10 : Room 10 _ := hr
  have r9 : Room 9 _ := hr.mono (by decide)
  have r8 : Room 8 _ := hr.mono (by decide)
  have r7 : Room 7 _ := hr.mono (by decide)
  refine ⟨_, (pss_one (ps_expr (pe_meth (pv 0) T.clB T.mbo T.gbo r9 T.bbo .nil pass0 (pa_cons (pe_meth (pe_meth0 (pv 0) T.clB T.mbs T.gbs r7 T.bbs .nil pass0) T.clS T.m4 T.g4 r9 T.b4 .nil (L2N.passes_call (L2N.takes_of rfl rfl rfl rfl) (fun _ _ _ _ h => h)) (pa_cons (pv 1) pa_nil)) pa_nil)))), ?_⟩
  obtain ⟨dx1, fs1, hi1, hn1⟩ := bk.ins (m := "go_on") (by decide +kernel)
  obtain ⟨dx2, fs2, hi2, hn2⟩ := bk.ins (m := "sheet") (by decide +kernel)
  refine ⟨.ref b, rfl, b, dx1, _, rfl, hi1, hn1, .ref b, rfl, b, dx2, _, rfl, hi2, hn2, b, N, sts, here, sv, nv, rfl, bk, fun p s1 sh hs1 => ?_⟩
  obtain rfl : s_ = s1 := Option.some.inj (now.symm.trans hs1)
  obtain ⟨dx3, fs3, hi3, hn3⟩ := sh.ins (m := "without_saying") (by decide +kernel)
  refine ⟨p, dx3, _, rfl, hi3, hn3, .int n, rfl, p, n, N, s_, rfl, sh, na, ln, fun k hk0 => ?_, fun g => q _ (.inr ⟨g, rfl⟩)⟩
  intro H3 p3 s3 sh3
  refine ⟨b, p3, N, sts, here, sv, nv, _, rfl, bk.same s3, sh3, na.same s3, lt, fun sx H5 sv5 hx sm bk5 hk => ?_⟩
  obtain rfl : s_ = sx := Option.some.inj (now.symm.trans hx)
  exact q _ (.inl ⟨k, hk0, rfl⟩) H5 sv5 (Sam.pre s3 sm) bk5 hk
theorem ok_bforg {f : Addr} {fd : FuncData} (F : Fun K "forget" "Book.forget" sBookForget f fd) (T : TB2 Pg w K mg base BK S cz fbs fbc fbo fbt fbu fbr f1 f2 f3 f4 f5 f6 f8 f9 fdbs fdbc fdbo fdbt fdbu fdbr fd1 fd2 fd3 fd4 fd5 fd6 fd8 fd9) : FnOk Pg w K mg base (L2N.CX Pg w) 11 f fd ["self", "number"] (spDd BK S cz mForget) := by
  refine okN F scBforg (fun vs H Q E h => ?_) (fun cdv A outer s H vs Q E hr h => ?_)
  · obtain ⟨b, N, sts, here, sv, nv, s_, d, ⟨n, rfl, rfl⟩, _⟩ := h; rfl
  obtain ⟨b, N, sts, here, sv, nv, s_, d, ⟨n, rfl, rfl⟩, ⟨bk, now, na, ln, lt⟩, q⟩ := h
  have r10 : Room 10 _ := hr
  have r9 : Room 9 _ := hr.mono (by decide)
  have r8 : Room 8 _ := hr.mono (by decide)
  have r7 : Room 7 _ := hr.mono (by decide)
  refine ⟨_, (pss_one (ps_expr (pe_meth (pv 0) T.clB T.mbo T.gbo r9 T.bbo .nil pass0 (pa_cons (pe_meth (pe_meth0 (pv 0) T.clB T.mbs T.gbs r7 T.bbs .nil pass0) T.clS T.m5 T.g5 r9 T.b5 .nil (L2N.passes_call (L2N.takes_of rfl rfl rfl rfl) (fun _ _ _ _ h => h)) (pa_cons (pv 1) pa_nil)) pa_nil)))), ?_⟩
  obtain ⟨dx1, fs1, hi1, hn1⟩ := bk.ins (m := "go_on") (by decide +kernel)
  obtain ⟨dx2, fs2, hi2, hn2⟩ := bk.ins (m := "sheet") (by decide +kernel)
  refine ⟨.ref b, rfl, b, dx1, _, rfl, hi1, hn1, .ref b, rfl, b, dx2, _, rfl, hi2, hn2, b, N, sts, here, sv, nv, rfl, bk, fun p s1 sh hs1 => ?_⟩
  obtain rfl : s_ = s1 := Option.some.inj (now.symm.trans hs1)
  obtain ⟨dx3, fs3, hi3, hn3⟩ := sh.ins (m := "without_memory") (by decide +kernel)
  refine ⟨p, dx3, _, rfl, hi3, hn3, .int n, rfl, p, n, N, s_, rfl, sh, na, ln, fun k hk0 => ?_, fun g => q _ (.inr ⟨g, rfl⟩)⟩
  intro H3 p3 s3 sh3
  refine ⟨b, p3, N, sts, here, sv, nv, _, rfl, bk.same s3, sh3, na.same s3, lt, fun sx H5 sv5 hx sm bk5 hk => ?_⟩
  obtain rfl : s_ = sx := Option.some.inj (now.symm.trans hx)
  exact q _ (.inl ⟨k, hk0, rfl⟩) H5 sv5 (Sam.pre s3 sm) bk5 hk
theorem ok_bamend {f : Addr} {fd : FuncData} (F : Fun K "amend" "Book.amend" sBookAmend f fd) (T : TB2 Pg w K mg base BK S cz fbs fbc fbo fbt fbu fbr f1 f2 f3 f4 f5 f6 f8 f9 fdbs fdbc fdbo fdbt fdbu fdbr fd1 fd2 fd3 fd4 fd5 fd6 fd8 fd9) : FnOk Pg w K mg base (L2N.CX Pg w) 11 f fd ["self", "number", "one", "other", "many", "turned"] (spDd BK S cz mAmend) := by
  refine okN F scBamend (fun vs H Q E h => ?_) (fun cdv A outer s H vs Q E hr h => ?_)
  · obtain ⟨b, N, sts, here, sv, nv, s_, d, ⟨n, y, rfl, rfl⟩, _⟩ := h; rfl
  obtain ⟨b, N, sts, here, sv, nv, s_, d, ⟨n, y, rfl, rfl⟩, ⟨bk, now, na, ln, lt⟩, q⟩ := h
  have r10 : Room 10 _ := hr
  have r9 : Room 9 _ := hr.mono (by decide)
  have r8 : Room 8 _ := hr.mono (by decide)
  have r7 : Room 7 _ := hr.mono (by decide)
  refine ⟨_, (pss_one (ps_expr (pe_meth (pv 0) T.clB T.mbo T.gbo r9 T.bbo .nil pass0 (pa_cons (pe_meth (pe_meth0 (pv 0) T.clB T.mbs T.gbs r7 T.bbs .nil pass0) T.clS T.m6 T.g6 r9 T.b6 .nil (L2N.passes_call (L2N.takes_of rfl rfl rfl rfl) (fun _ _ _ _ h => h)) (pa_cons (pe_tup (pa_cons (pv 1) (pa_cons (pv 2) (pa_cons (pv 3) (pa_cons (pv 4) (pa_cons (pv 5) pa_nil)))))) pa_nil)) pa_nil)))), ?_⟩
  obtain ⟨dx1, fs1, hi1, hn1⟩ := bk.ins (m := "go_on") (by decide +kernel)
  obtain ⟨dx2, fs2, hi2, hn2⟩ := bk.ins (m := "sheet") (by decide +kernel)
  refine ⟨.ref b, rfl, b, dx1, _, rfl, hi1, hn1, .ref b, rfl, b, dx2, _, rfl, hi2, hn2, b, N, sts, here, sv, nv, rfl, bk, fun p s1 sh hs1 => ?_⟩
  obtain rfl : s_ = s1 := Option.some.inj (now.symm.trans hs1)
  obtain ⟨dx3, fs3, hi3, hn3⟩ := sh.ins (m := "amended") (by decide +kernel)
  refine ⟨p, dx3, _, rfl, hi3, hn3, .int n, rfl, .int y.lo, rfl, .int y.hi, rfl, .int y.n, rfl, .bl y.t, rfl, ?_⟩
  refine ⟨szN 5 rfl, fun t1 n_t1 => ?_⟩
  generalize e_t1 : upd H t1 _ = H1
  have s1 := new_same e_t1 n_t1
  have z1 := new_at e_t1
  clear e_t1
  refine ⟨p, t1, N, s_, ⟨n, y⟩, rfl, sh.same s1, ⟨t1, rfl, z1⟩, na.same s1, ln, fun k hk0 g => ?_, fun k hk0 g H2 s2 => q _ (.inr (.inl ⟨k, hk0, g, rfl⟩)) H2 (s1.trans s2), fun g H2 s2 => q _ (.inr (.inr ⟨g, rfl⟩)) H2 (s1.trans s2)⟩
  intro H3 p3 s3 sh3
  have s13 := s1.trans s3
  refine ⟨b, p3, N, sts, here, sv, nv, _, rfl, bk.same s13, sh3, na.same s13, lt, fun sx H5 sv5 hx sm bk5 hk => ?_⟩
  obtain rfl : s_ = sx := Option.some.inj (now.symm.trans hx)
  exact q _ (.inl ⟨k, hk0, g, rfl⟩) H5 sv5 (Sam.pre s13 sm) bk5 hk
theorem ok_blon {f : Addr} {fd : FuncData} (F : Fun K "lengthen" "Book.lengthen" sBookLengthen f fd) (T : TB2 Pg w K mg base BK S cz fbs fbc fbo fbt fbu fbr f1 f2 f3 f4 f5 f6 f8 f9 fdbs fdbc fdbo fdbt fdbu fdbr fd1 fd2 fd3 fd4 fd5 fd6 fd8 fd9) : FnOk Pg w K mg base (L2N.CX Pg w) 11 f fd ["self", "many"] (spDd BK S cz mLonger) := by
  refine okN F scBlon (fun vs H Q E h => ?_) (fun cdv A outer s H vs Q E hr h => ?_)
  · obtain ⟨b, N, sts, here, sv, nv, s_, d, ⟨n, rfl, rfl⟩, _⟩ := h; rfl
  obtain ⟨b, N, sts, here, sv, nv, s_, d, ⟨n, rfl, rfl⟩, ⟨bk, now, na, ln, lt⟩, q⟩ := h
  have r10 : Room 10 _ := hr
  have r9 : Room 9 _ := hr.mono (by decide)
  have r8 : Room 8 _ := hr.mono (by decide)
  have r7 : Room 7 _ := hr.mono (by decide)
  refine ⟨_, (pss_one (ps_expr (pe_meth (pv 0) T.clB T.mbo T.gbo r9 T.bbo .nil pass0 (pa_cons (pe_meth (pe_meth0 (pv 0) T.clB T.mbs T.gbs r7 T.bbs .nil pass0) T.clS T.m8 T.g8 r10 T.b8 .nil (L2N.passes_call (L2N.takes_of rfl rfl rfl rfl) (fun _ _ _ _ h => h)) (pa_cons (pv 1) pa_nil)) pa_nil)))), ?_⟩
  obtain ⟨dx1, fs1, hi1, hn1⟩ := bk.ins (m := "go_on") (by decide +kernel)
  obtain ⟨dx2, fs2, hi2, hn2⟩ := bk.ins (m := "sheet") (by decide +kernel)
  refine ⟨.ref b, rfl, b, dx1, _, rfl, hi1, hn1, .ref b, rfl, b, dx2, _, rfl, hi2, hn2, b, N, sts, here, sv, nv, rfl, bk, fun p s1 sh hs1 => ?_⟩
  obtain rfl : s_ = s1 := Option.some.inj (now.symm.trans hs1)
  obtain ⟨dx3, fs3, hi3, hn3⟩ := sh.ins (m := "lengthened") (by decide +kernel)
  refine ⟨p, dx3, _, rfl, hi3, hn3, .int n, rfl, p, n, N, s_, rfl, sh, fun g => ?_, fun g => q _ (.inr ⟨g, rfl⟩)⟩
  intro H3 p3 s3 sh3
  refine ⟨b, p3, N, sts, here, sv, nv, _, rfl, bk.same s3, sh3, na.same s3, lt, fun sx H5 sv5 hx sm bk5 hk => ?_⟩
  obtain rfl : s_ = sx := Option.some.inj (now.symm.trans hx)
  exact q _ (.inl ⟨g.1, g.2, rfl⟩) H5 sv5 (Sam.pre s3 sm) bk5 hk
theorem ok_bsho {f : Addr} {fd : FuncData} (F : Fun K "shorten" "Book.shorten" sBookShorten f fd) (T : TB2 Pg w K mg base BK S cz fbs fbc fbo fbt fbu fbr f1 f2 f3 f4 f5 f6 f8 f9 fdbs fdbc fdbo fdbt fdbu fdbr fd1 fd2 fd3 fd4 fd5 fd6 fd8 fd9) : FnOk Pg w K mg base (L2N.CX Pg w) 11 f fd ["self", "many"] (spDd BK S cz mShorter) := by
  refine okN F scBsho (fun vs H Q E h => ?_) (fun cdv A outer s H vs Q E hr h => ?_)
  · obtain ⟨b, N, sts, here, sv, nv, s_, d, ⟨n, rfl, rfl⟩, _⟩ := h; rfl
  obtain ⟨b, N, sts, here, sv, nv, s_, d, ⟨n, rfl, rfl⟩, ⟨bk, now, na, ln, lt⟩, q⟩ := h
  have r10 : Room 10 _ := hr
  have r9 : Room 9 _ := hr.mono (by decide)
  have r8 : Room 8 _ := hr.mono (by decide)
  have r7 : Room 7 _ := hr.mono (by decide)
  refine ⟨_, (pss_one (ps_expr (pe_meth (pv 0) T.clB T.mbo T.gbo r9 T.bbo .nil pass0 (pa_cons (pe_meth (pe_meth0 (pv 0) T.clB T.mbs T.gbs r7 T.bbs .nil pass0) T.clS T.m9 T.g9 r10 T.b9 .nil (L2N.passes_call (L2N.takes_of rfl rfl rfl rfl) (fun _ _ _ _ h => h)) (pa_cons (pv 1) pa_nil)) pa_nil)))), ?_⟩
  obtain ⟨dx1, fs1, hi1, hn1⟩ := bk.ins (m := "go_on") (by decide +kernel)
  obtain ⟨dx2, fs2, hi2, hn2⟩ := bk.ins (m := "sheet") (by decide +kernel)
  refine ⟨.ref b, rfl, b, dx1, _, rfl, hi1, hn1, .ref b, rfl, b, dx2, _, rfl, hi2, hn2, b, N, sts, here, sv, nv, rfl, bk, fun p s1 sh hs1 => ?_⟩
  obtain rfl : s_ = s1 := Option.some.inj (now.symm.trans hs1)
  obtain ⟨dx3, fs3, hi3, hn3⟩ := sh.ins (m := "shortened") (by decide +kernel)
  refine ⟨p, dx3, _, rfl, hi3, hn3, .int n, rfl, p, n, N, s_, rfl, sh, ln, fun g g' => ?_, fun g g' => q _ (.inr (.inl ⟨g.1, g.2, g', rfl⟩)), fun g => q _ (.inr (.inr ⟨g, rfl⟩))⟩
  intro H3 p3 s3 sh3
  refine ⟨b, p3, N, sts, here, sv, nv, _, rfl, bk.same s3, sh3, na.same s3, lt, fun sx H5 sv5 hx sm bk5 hk => ?_⟩
  obtain rfl : s_ = sx := Option.some.inj (now.symm.trans hx)
  exact q _ (.inl ⟨g.1, g.2, g', rfl⟩) H5 sv5 (Sam.pre s3 sm) bk5 hk
end
end Rep
namespace Rep
open PySem L2 L2H RepHot
/-! the law's own book: a state is a tuple, a deed is a tuple -/
structure StAt (N : Addr → Prop) (H : Hp) (v : V) (s : Sht) : Prop where
  ex : ∃ (t la lb : Addr) (xs ys : List V), v = .ref t ∧ H t = some (.tup [.int s.size, .int s.coming, .ref la, .ref lb]) ∧ H la = some (.lst xs) ∧ RL H xs s.said ∧ H lb = some (.lst ys) ∧ ML H ys s.noted ∧ ¬ N la ∧ ¬ N lb
theorem StAt.kp {S : Addr} {N : Addr → Prop} {H H' : Hp} {v : V} {s : Sht} (h : StAt N H v s) (k : Kp S N H H') : StAt N H' v s := by
  obtain ⟨t, la, lb, xs, ys, h1, h2, h3, h4, h5, h6, h7, h8⟩ := h.ex
  exact ⟨t, la, lb, xs, ys, h1, k _ _ h2 trivial, k _ _ h3 h7, RL.ts k.ts h4, k _ _ h5 h8, ML.ts k.ts h6, h7, h8⟩
theorem StAt.same {N : Addr → Prop} {H H' : Hp} {v : V} {s : Sht} (h : StAt N H v s) (k : Same H H') : StAt N H' v s := h.kp (S := 0) (.of k)
theorem StAt.more {N M : Addr → Prop} {H : Hp} {v : V} {s : Sht} (h : StAt N H v s) (k : ∀ a xs, M a → H a = some (.lst xs) → N a) : StAt M H v s := by
  obtain ⟨t, la, lb, xs, ys, h1, h2, h3, h4, h5, h6, h7, h8⟩ := h.ex
  exact ⟨t, la, lb, xs, ys, h1, h2, h3, h4, h5, h6, fun z => h7 (k _ _ z h3), fun z => h8 (k _ _ z h5)⟩
inductive De where
  | dd (d : Dd) | undo | redo
def ddV : Dd → List V
  | .say y => [.str "say", .int y.lo, .int y.hi, .int y.n, .bl y.t]
  | .unsay n => [.str "unsay", .int n]
  | .amend n y => [.str "amend", .int n, .int y.lo, .int y.hi, .int y.n, .bl y.t]
  | .rem z x m => [.str "remember", .str z, .int x, .int m]
  | .forget n => [.str "forget", .int n]
  | .longer m => [.str "lengthen", .int m]
  | .shorter m => [.str "shorten", .int m]
def deV : De → List V
  | .dd d => ddV d
  | .undo => [.str "undo"]
  | .redo => [.str "redo"]
def DeAt (H : Hp) (v : V) (d : De) : Prop := ∃ t, v = .ref t ∧ H t = some (.tup (deV d))
theorem DeAt.ts {H H' : Hp} (h : TS H H') {v : V} {d : De} (k : DeAt H v d) : DeAt H' v d := by obtain ⟨t, e, ht⟩ := k; exact ⟨t, e, h _ _ ht⟩
def ddOk : Dd → Prop
  | .rem z _ _ => z.length ≤ 1000
  | _ => True
/-- what a sheet is -/
structure Wf (s : Sht) : Prop where
  r1 : (s.said.map Rw.num).Pairwise (· < ·)
  r2 : (s.noted.map Me.num).Pairwise (· < ·)
  c1 : ∀ r ∈ s.said, r.num < s.coming
  c2 : ∀ m ∈ s.noted, m.num < s.coming
  l1 : s.said.length ≤ 24
  l2 : s.noted.length ≤ 24
  lt : ∀ m ∈ s.noted, Ltr m.lt
  e : In40 s.size
theorem Wf.lens {s : Sht} (h : Wf s) : Lens s := ⟨by have := h.l1; omega, by have := h.l2; omega⟩
theorem filter_erase {α : Type} (f : α → Int) {n : Int} : ∀ {l : List α} {k : Nat}, (l.map f).Pairwise (· < ·) → Fst (l.map f) n k → l.filter (fun r => !decide (f r = n)) = l.eraseIdx k
  | [], k, _, h => by have := h.1; simp at this
  | a :: r, 0, p, h => by
    have e : f a = n := by have := h.1; simpa using this
    rw [List.filter_cons_of_neg (by simp [e]), List.filter_eq_self.mpr fun b hb => ?_]
    · rfl
    · have := (List.pairwise_cons.mp p).1 (f b) (List.mem_map_of_mem hb)
      simp; omega
  | a :: r, k + 1, p, h => by
    have e : ¬ f a = n := fun z => h.2 0 (by omega) (by simp [z])
    rw [List.filter_cons_of_pos (by simp [e]), List.eraseIdx_cons_succ, filter_erase f (List.pairwise_cons.mp p).2 ⟨h.1, fun j hj => h.2 (j + 1) (by omega)⟩]
theorem map_set {α : Type} (f : α → Int) {n : Int} {b : α} : ∀ {l : List α} {k : Nat}, (l.map f).Pairwise (· < ·) → Fst (l.map f) n k → l.map (fun r => if f r = n then b else r) = l.set k b
  | [], k, _, h => by have := h.1; simp at this
  | a :: r, 0, p, h => by
    have e : f a = n := by have := h.1; simpa using this
    rw [List.map_cons, if_pos e, List.set_cons_zero]
    congr 1
    rw [show r = r.map id by rw [List.map_id]]
    rw [List.map_map]
    refine List.map_congr_left fun c hc => ?_
    have := (List.pairwise_cons.mp p).1 (f c) (List.mem_map_of_mem hc)
    show (if f c = n then b else c) = c
    rw [if_neg (by omega)]
  | a :: r, k + 1, p, h => by
    have e : ¬ f a = n := fun z => h.2 0 (by omega) (by simp [z])
    rw [List.map_cons, if_neg e, List.set_cons_succ, map_set f (List.pairwise_cons.mp p).2 ⟨h.1, fun j hj => h.2 (j + 1) (by omega)⟩]
theorem fst_of {ns : List Int} {n : Int} (h : n ∈ ns) : ∃ k, Fst ns n k := by
  induction ns with
  | nil => cases h
  | cons a r ih =>
    by_cases e : a = n
    · exact ⟨0, by rw [e]; rfl, fun j hj => absurd hj (Nat.not_lt_zero _)⟩
    · obtain ⟨k, h1, h2⟩ := ih ((List.mem_cons.mp h).resolve_left fun z => e z.symm)
      refine ⟨k + 1, h1, fun j hj => ?_⟩
      cases j with
      | zero => exact fun z => e (by simpa using z)
      | succ j => exact h2 j (by omega)
theorem Fst.mem {ns : List Int} {n : Int} {k : Nat} (h : Fst ns n k) : n ∈ ns := List.mem_of_getElem? h.1
theorem inV_int {n : Int} : ∀ {ns : List Int}, inV (.int n) (ns.map V.int) = decide (n ∈ ns)
  | [] => by simp [inV]
  | a :: r => by
    have ih := inV_int (n := n) (ns := r)
    unfold inV at *
    rw [List.map_cons, List.any_cons, ih]
    show ((a == n) || decide (n ∈ r)) = _
    by_cases e : a = n
    · simp [e]
    · have e' : ¬ n = a := fun z => e z.symm
      simp [e, e']
theorem flat_int : ∀ {ns : List Int}, (ns.map V.int).all flatV = true
  | [] => rfl
  | a :: r => by rw [List.map_cons, List.all_cons, flat_int (ns := r)]; rfl
theorem sT (a : Str) : V.bl (decide (V.str a = V.str a)) = V.bl true := by rw [decide_eq_true rfl]
theorem sF {a b : Str} (h : a ≠ b) : V.bl (decide (V.str a = V.str b)) = V.bl false := by rw [decide_eq_false (fun z => h (V.str.inj z))]
def w0 : Nat ⊕ (Option Int × Sht) → Str
  | .inl j => kinWord j
  | .inr _ => ""
def t0 : Nat ⊕ (Option Int × Sht) → V
  | .inl _ => .non
  | .inr (o, _) => oV' o
def s0 (s : Sht) : Nat ⊕ (Option Int × Sht) → Sht
  | .inl _ => s
  | .inr (_, s') => s'
def RnOk (N : Addr → Prop) (H : Hp) (s : Sht) (Q : VK) (r0 : Nat ⊕ (Option Int × Sht)) : Prop := ∀ H' t v', Same H H' → H' t = some (.tup [.str (w0 r0), t0 r0, v']) → StAt N H' v' (s0 s r0) → Q (.ref t) H'
def lenK : Dd → Bool
  | .longer _ => true
  | .shorter _ => true
  | _ => false
def spNx (lk : Bool) : Sp := fun vs H Q _ => ∃ (stv dv : V) (N : Addr → Prop) (s : Sht) (d : Dd), vs = [stv, dv] ∧ StAt N H stv s ∧ DeAt H dv (.dd d) ∧ ddOk d ∧ NA N H ∧ Wf s ∧ lenK d = lk ∧ ∀ r0, Stp s d r0 → RnOk N H s Q r0
def spGs : Sp := fun vs H Q _ => ∃ e x n : Int, vs = [.int e, .int x, .int n] ∧ Q (.bl (decide (St_ x n e))) H
def spNum : Sp := fun vs H Q _ => ∃ (a : Addr) (xs : List V) (ns : List Int), vs = [.ref a] ∧ H a = some (.lst xs) ∧ LL HdAt H xs ns ∧ ns.length ≤ 1000 ∧ ∀ H' l, Same H H' → H' l = some (.lst (ns.map V.int)) → Q (.ref l) H'
theorem scGs : FnScope ["_law_length", "_law_at", "_law_many"] ["_law_length", "_law_at", "_law_many"] (defScope s_law_good_stretch) := ⟨rfl, rfl, rfl, by decide +kernel, rfl, by decide +kernel, by decide +kernel⟩
abbrev nNum : List Str := ["_law_rows", "_law_row"]
theorem scNum : FnScope nNum ["_law_rows"] (defScope s_law_numbers) := ⟨rfl, rfl, rfl, by decide +kernel, rfl, by decide +kernel, by decide +kernel⟩
section
variable {Pg : Program} {w : World} {K : PySem.W.Frag} {mg : Str → Option Value} {base : Heap}
theorem ok_gs {f : Addr} {fd : FuncData} {k : Nat} (F : Fun K "_law_good_stretch" "_law_good_stretch" s_law_good_stretch f fd) : FnOk Pg w K mg base CX0 (k + 1) f fd ["_law_length", "_law_at", "_law_many"] spGs := by
  refine F.ok scGs (fun vs H Q E h => ?_) (fun cdv A outer s H vs Q E hr h => ?_)
  · obtain ⟨e, x, n, rfl, _⟩ := h; rfl
  obtain ⟨e, x, n, rfl, q⟩ := h
  refine ⟨_, (pss_one (ps_ret (pe_and (pe_cmpR op_gt (pv 2) pe_int (nomark _)) (pe_and (pe_cmpR op_le pe_int (pv 1) (nomark _)) (pe_one (pe_cmpR op_le (pe_op op_add (pv 1) (pv 2)) (pv 0) (nomark _))))))), ?_⟩
  by_cases h1 : 0 < n
  · refine ⟨.int n, rfl, _, _, rfl, rfl, true, (by show V.bl (decide (0 < n)) = _; rw [decide_eq_true h1]), ?_⟩
    refine iteT ?_
    by_cases h2 : 0 ≤ x
    · refine ⟨.int x, rfl, _, _, rfl, rfl, true, (by show V.bl (decide (0 ≤ x)) = _; rw [decide_eq_true h2]), ?_⟩
      refine iteT ?_
      refine ⟨.int x, rfl, .int n, rfl, _, _, rfl, rfl, .int e, rfl, _, _, rfl, rfl, ?_⟩
      have e1 : decide (x + n ≤ e) = decide (St_ x n e) := decide_eq_decide.mpr ⟨fun z => ⟨by omega, h2, z⟩, fun z => z.2.2⟩
      show Q (.bl (decide (x + n ≤ e))) H
      rw [e1]; exact q
    · refine ⟨.int x, rfl, _, _, rfl, rfl, false, (by show V.bl (decide (0 ≤ x)) = _; rw [decide_eq_false h2]), ?_⟩
      refine iteF ?_
      rw [decide_eq_false fun z => h2 z.2.1] at q; exact q
  · refine ⟨.int n, rfl, _, _, rfl, rfl, false, (by show V.bl (decide (0 < n)) = _; rw [decide_eq_false h1]), ?_⟩
    refine iteF ?_
    rw [decide_eq_false fun z => h1 (by have := z.1; omega)] at q; exact q
theorem ok_num {f : Addr} {fd : FuncData} {k : Nat} (F : Fun K "_law_numbers" "_law_numbers" s_law_numbers f fd) : FnOk Pg w K mg base CX0 (k + 1) f fd ["_law_rows"] spNum := by
  refine F.ok scNum (fun vs H Q E h => ?_) (fun cdv A outer s H vs Q E hr h => ?_)
  · obtain ⟨a, xs, ns, rfl, _⟩ := h; rfl
  obtain ⟨a, xs, ns, rfl, hX, ll, hl, q⟩ := h
  refine ⟨_, (pss_one (ps_ret (pe_lc (own := [("_law_row", 1)]) (g := (gName 1)) (tt := tYes) (te := (tOp (rIxT K) (tVar 1) (tC (.int 0)))) rfl scNum.nd (pi_list (pv 0)) (blkOk_by (N := nNum) (sc := defScope s_law_numbers) (by decide +kernel)) (fun _ _ _ _ _ => (pg_name (i := 1) scNum.nd rfl (.inl rfl))) (fun _ _ _ _ _ => pts_nil) (fun _ _ _ _ _ => (pe_ix ix_tup (pv 1) pe_int (fun _ _ => rfl)))))), ?_⟩
  refine ⟨.ref a, rfl, a, rfl, ⟨_, .inl (.inl hX)⟩, fun D nD => ?_⟩
  refine lc_list (xs := xs) (fun i H3 => Same H H3 ∧ H3 D = some (.lst ((ns.take i).map V.int))) ⟨same_upd nD, upd_same⟩ (fun i H3 _ hP => .inl (.inl (hP.1 _ _ hX))) (fun i v H3 hv hP => ?_) (fun H3 hP => ?_)
  · obtain ⟨sm, eD⟩ := hP
    obtain ⟨n, hn, t, r, rfl, ht⟩ := ll.get hv
    have hi : i < ns.length := (List.getElem?_eq_some_iff.mp hn).1
    refine ⟨rfl, ?_⟩
    refine tYes_ok ?_
    refine iteT ?_
    refine ⟨.ref t, rfl, t, _, _, .int n, rfl, rfl, .inl (.inl (sm _ _ ht)), atI_0 _ _, _, eD, ?_, same_over sm nD, ?_⟩
    · rw [List.length_map, List.length_take]
      exact Nat.lt_of_le_of_lt (show _ ≤ 100000 by omega) (by decide)
    · rw [upd_same, List.take_add_one, hn, List.map_append]
      rfl
  · obtain ⟨sm, eD⟩ := hP
    rw [ll.len, List.take_length] at eD
    exact q H3 D sm eD
end
end Rep
namespace Rep
open PySem L2 L2H RepHot
instance {e : Int} {y : Sy} : Decidable (Gd2 e y) := inferInstanceAs (Decidable (_ ∧ _))
abbrev nLln : List Str := ["_law_state", "_law_deed_here", "_law_length", "_law_coming", "_law_sayings", "_law_memories", "_law_far", "_law_ends", "_law_row", "_law_end"]
theorem scLln : FnScope nLln ["_law_state", "_law_deed_here"] (defScope s_law_length_next) := ⟨rfl, rfl, rfl, by decide +kernel, rfl, by decide +kernel, by decide +kernel⟩
abbrev nLrn : List Str := ["_law_state", "_law_deed_here", "_law_length", "_law_coming", "_law_sayings", "_law_memories", "_law_one", "_law_other", "_law_many", "_law_turned", "_law_good", "_law_rows", "_law_row"]
theorem scLrn : FnScope nLrn ["_law_state", "_law_deed_here"] (defScope s_law_row_next) := ⟨rfl, rfl, rfl, by decide +kernel, rfl, by decide +kernel, by decide +kernel⟩
structure TNx (Pg : Program) (w : World) (K : PySem.W.Frag) (mg : Str → Option Value) (base : Heap) (fGs fNu : Addr) (fdGs fdNu : FuncData) : Prop where
  gGs : FnOk Pg w K mg base CX0 8 fGs fdGs ["_law_length", "_law_at", "_law_many"] spGs
  bGs : Binds K fdGs ["_law_length", "_law_at", "_law_many"] []
  kGs : PySem.W.keepIn K (.ref fGs) = true
  mGs : mg "_law_good_stretch" = some (.ref fGs)
  gNu : FnOk Pg w K mg base CX0 8 fNu fdNu ["_law_rows"] spNum
  bNu : Binds K fdNu ["_law_rows"] []
  kNu : PySem.W.keepIn K (.ref fNu) = true
  mNu : mg "_law_numbers" = some (.ref fNu)
  mM : mg "max" = none
  ml : mg "len" = none
theorem dpAll_int {K : PySem.W.Frag} {H : Hp} : ∀ {l : List Int}, DpAll K H (l.map V.int) (l.map PyData.int)
  | [] => .nil
  | _ :: _ => .cons (.int _) dpAll_int
theorem canInt : ∀ l : List Int, PyData.canLayAll0 (l.map PyData.int) = true
  | [] => rfl
  | _ :: r => by
    show (true && PyData.canLayAll0 (r.map PyData.int)) = true
    rw [canInt r]; rfl
theorem shapedInt (l : List Int) : SeqAt.shaped (.list (l.map PyData.int)) = true := by
  unfold SeqAt.shaped
  have e : PyData.canLay0 (.list (l.map PyData.int)) = true := canInt l
  rw [e]
  refine decide_eq_true ?_
  show PyData.depthAll (l.map PyData.int) + 1 ≤ 64
  have := depth_ints l
  omega
theorem eqv_nilL {l : List PyData} : PyData.eqv (.list l) (.list []) = l.isEmpty := by
  cases l <;> rfl
theorem abc_mem {c : Nat} : c ∈ ("abcdefghijklmnopqrstuvwxyz" : Str).cps.toList ↔ 97 ≤ c ∧ c ≤ 122 := by
  rw [show ("abcdefghijklmnopqrstuvwxyz" : Str).cps.toList = List.range' 97 26 by decide +kernel, List.mem_range'_1]
  omega
section
variable {Pg : Program} {w : World} {K : PySem.W.Frag} {mg : Str → Option Value} {base : Heap} {fGs fNu : Addr} {fdGs fdNu : FuncData}
theorem ok_lln {f : Addr} {fd : FuncData} (F : Fun K "_law_length_next" "_law_length_next" s_law_length_next f fd) (T : TNx Pg w K mg base fGs fNu fdGs fdNu) : FnOk Pg w K mg base CX0 9 f fd ["_law_state", "_law_deed_here"] (spNx true) := by
  refine F.ok scLln (fun vs H Q E h => ?_) (fun cdv A outer s H vs Q E hr h => ?_)
  · obtain ⟨stv, dv, N, s_, d, rfl, _⟩ := h; rfl
  obtain ⟨stv, dv, N, s_, d, rfl, st, ⟨td, rfl, hd⟩, dok, na, wf, lk, q⟩ := h
  have r8 : Room 8 _ := hr
  refine ⟨_, (C8.pss_cut (ps_asg (pv 0) (pg_tup rfl (pgs_cons (pg_name (i := 2) scLln.nd rfl (.inl rfl)) (pgs_cons (pg_name (i := 3) scLln.nd rfl (.inl rfl)) (pgs_cons (pg_name (i := 4) scLln.nd rfl (.inl rfl)) (pgs_cons (pg_name (i := 5) scLln.nd rfl (.inl rfl)) pgs_nil))))))
    (C8.pss_cut (ps_set (i := 6) scLln.nd rfl (.inr rfl) (pe_op op_add (pv 2) (pe_ix ix_tup (pv 1) pe_int (fun _ _ => rfl))))
    (C8.pss_cut (ps_if (pt_cmpR op_eq (pe_ix ix_tup (pv 1) pe_int (fun _ _ => rfl)) pe_str (nomark _)) (pss_one (ps_set (i := 6) scLln.nd rfl (.inr rfl) (pe_op op_sub (pv 2) (pe_ix ix_tup (pv 1) pe_int (fun _ _ => rfl))))) pss_nil)
    (pss_cons (ps_if (PW.pt (pw_or (pt_cmpR op_lt (pe_ix ix_tup (pv 1) pe_int (fun _ _ => rfl)) pe_int (nomark _)) (pw_or (pt_cmpR op_lt (pv 6) pe_int (nomark _)) (pw_or1 (pt_cmpR op_ge (pv 6) (pe_op op_pow pe_int pe_int) (nomark _)))))) (pss_one (ps_ret (pe_tup (pa_cons pe_str (pa_cons pe_non (pa_cons (pv 0) pa_nil)))))) pss_nil)
    (C8.pss_cut (ps_set (i := 7) scLln.nd rfl (.inl rfl) (pe_op op_cat (pe_lc (own := [("_law_row", 8)]) (g := (gName 8)) (tt := tYes) (te := (tOp (rI0 fun i j => .int (i + j)) (tCB (fun xs H Q => ∃ i j, xs = [.int i, .int j] ∧ Q (.int (if j > i then j else i)) H) (tCons (tOp (rIxT K) (tVar 8) (tC (.int 1))) (tCons (tOp (rIxT K) (tVar 8) (tC (.int 2))) tNil))) (tOp (rIxT K) (tVar 8) (tC (.int 3))))) rfl scLln.nd (pi_list (pv 4)) (blkOk_by (N := nLln) (sc := defScope s_law_length_next) (by decide +kernel)) (fun _ _ _ _ _ => (pg_name (i := 8) scLln.nd rfl (.inl rfl))) (fun _ _ _ _ _ => pts_nil) (fun _ _ _ _ _ => (pe_op op_add (pe_callB (call_max2 rfl) (by rfl) T.mM (by decide +kernel) (pa_cons (pe_ix ix_tup (pv 8) pe_int (fun _ _ => rfl)) (pa_cons (pe_ix ix_tup (pv 8) pe_int (fun _ _ => rfl)) pa_nil))) (pe_ix ix_tup (pv 8) pe_int (fun _ _ => rfl))))) (pe_lc (own := [("_law_row", 8)]) (g := (gName 8)) (tt := tYes) (te := (tOp (rI0 fun i j => .int (i + j)) (tOp (rIxT K) (tVar 8) (tC (.int 2))) (tOp (rIxT K) (tVar 8) (tC (.int 3))))) rfl scLln.nd (pi_list (pv 5)) (blkOk_by (N := nLln) (sc := defScope s_law_length_next) (by decide +kernel)) (fun _ _ _ _ _ => (pg_name (i := 8) scLln.nd rfl (.inl rfl))) (fun _ _ _ _ _ => pts_nil) (fun _ _ _ _ _ => (pe_op op_add (pe_ix ix_tup (pv 8) pe_int (fun _ _ => rfl)) (pe_ix ix_tup (pv 8) pe_int (fun _ _ => rfl)))))))
    (pss_cons (ps_if (PW.pt (pw_and (pt_cmpR op_eq (pe_ix ix_tup (pv 1) pe_int (fun _ _ => rfl)) pe_str (nomark _)) (pw_and1 (pt_cmpR (op_neD hr.units) (pe_lc (own := [("_law_end", 9)]) (g := (gName 9)) (tt := (tTest (tOp (rI0 fun i j => .bl (decide (j < i))) (tVar 9) (tVar 6)))) (te := (tVar 9)) rfl scLln.nd (pi_list (pv 7)) (blkOk_by (N := nLln) (sc := defScope s_law_length_next) (by decide +kernel)) (fun _ _ _ _ _ => (pg_name (i := 9) scLln.nd rfl (.inl rfl))) (fun _ _ _ _ _ => (pts_one (pt_cmpR op_gt (pv 9) (pv 6) (nomark _)))) (fun _ _ _ _ _ => (pv 9))) (pe_lst pa_nil) (nomark _))))) (pss_one (ps_ret (pe_tup (pa_cons pe_str (pa_cons pe_non (pa_cons (pv 0) pa_nil)))))) pss_nil)
    (pss_one (ps_ret (pe_tup (pa_cons pe_str (pa_cons pe_non (pa_cons (pe_tup (pa_cons (pv 6) (pa_cons (pv 3) (pa_cons (pv 4) (pa_cons (pv 5) pa_nil))))) pa_nil)))))))))))), ?_⟩
  obtain ⟨t, la, lb, xs, ys, rfl, h2, h3, h4, h5, h6, h7, h8⟩ := st.ex
  have l1 := wf.l1
  have l2 := wf.l2
  have x1 := h4.len
  have y1 := h6.len
  obtain ⟨m, W, ed, ek⟩ : ∃ (m : Int) (W : Str), ddV d = [.str W, .int m] ∧ ((d = .longer m ∧ W = "lengthen") ∨ (d = .shorter m ∧ W = "shorten")) := by
    cases d with
    | longer m => exact ⟨m, _, rfl, .inl ⟨rfl, rfl⟩⟩
    | shorter m => exact ⟨m, _, rfl, .inr ⟨rfl, rfl⟩⟩
    | _ => cases lk
  have hd : H td = some (.tup [.str W, .int m]) := by rw [hd]; show some (HO.tup (ddV d)) = _; rw [ed]
  refine ⟨fun σ' H' => σ' = [some (.ref t), some (.ref td), some (.int s_.size), some (.int s_.coming), some (.ref la), some (.ref lb), none, none, none, none] ∧ H' = H, ?_, ?_⟩
  · exact ⟨.ref t, rfl, t, _, rfl, .inl (.inl h2), rfl, _, _, rfl, _, _, rfl, _, _, rfl, _, _, rfl, rfl, rfl, rfl⟩
  rintro σ' H' ⟨rfl, eH⟩
  subst eH
  refine ⟨fun σ' H0 => σ' = [some (.ref t), some (.ref td), some (.int s_.size), some (.int s_.coming), some (.ref la), some (.ref lb), some (.int (s_.size + m)), none, none, none] ∧ H0 = H', ?_, ?_⟩
  · exact ⟨.int s_.size, rfl, .ref td, rfl, td, _, _, .int m, rfl, rfl, .inl (.inl hd), rfl, _, _, rfl, rfl, rfl, rfl⟩
  rintro σ' H0 ⟨rfl, eH⟩
  subst eH
  refine ⟨fun σ' H1 => ∃ far, σ' = [some (.ref t), some (.ref td), some (.int s_.size), some (.int s_.coming), some (.ref la), some (.ref lb), some (.int far), none, none, none] ∧ H1 = H0 ∧ ((d = .longer m ∧ W = "lengthen" ∧ far = s_.size + m) ∨ (d = .shorter m ∧ W = "shorten" ∧ far = s_.size - m)), ?_, ?_⟩
  · rcases ek with ⟨e1, rfl⟩ | ⟨e1, rfl⟩
    · exact ⟨.ref td, rfl, td, _, _, .str "lengthen", rfl, rfl, .inl (.inl hd), rfl, rfl, false, sF (by decide +kernel), iteF ⟨_, rfl, rfl, .inl ⟨e1, rfl, rfl⟩⟩⟩
    · exact ⟨.ref td, rfl, td, _, _, .str "shorten", rfl, rfl, .inl (.inl hd), rfl, rfl, true, sT _, iteT ⟨.int s_.size, rfl, .ref td, rfl, td, _, _, .int m, rfl, rfl, .inl (.inl hd), rfl, _, _, rfl, rfl, _, rfl, rfl, .inr ⟨e1, rfl, rfl⟩⟩⟩
  rintro σ' H1 ⟨far, rfl, eH, kd⟩
  subst eH
  have bad : ¬ (1 ≤ m ∧ In40 far) → Stp s_ d (.inl 0) := fun z => by
    rcases kd with ⟨e1, _, rfl⟩ | ⟨e1, _, rfl⟩
    · rw [e1]; exact .inr ⟨z, rfl⟩
    · rw [e1]; exact .inr (.inr ⟨z, rfl⟩)
  have ret0 : ¬ (1 ≤ m ∧ In40 far) → ∀ t1 H2, Same H1 H2 → H2 t1 = some (.tup [.str "BadLength", .non, .ref t]) → Q (.ref t1) H2 := fun z t1 H2 s2 z2 => q _ (bad z) H2 t1 (.ref t) s2 z2 (st.same s2)
  have p40' : (10 : Int) ^ (40 : Int).toNat = 10 ^ 40 := by decide +kernel
  refine ⟨.ref td, rfl, td, _, _, .int m, rfl, rfl, .inl (.inl hd), rfl, _, _, rfl, rfl, _, rfl, ite2 (fun c => ?_) (fun c => ?_)⟩
  · have c : m < 1 := of_decide_eq_true c
    refine iteT ?_
    refine ⟨.ref t, rfl, ?_⟩
    refine ⟨szN 3 rfl, fun t1 n_t1 => ?_⟩
    generalize e_t1 : upd H1 t1 _ = H2
    have s2 := new_same e_t1 n_t1
    have z2 := new_at e_t1
    clear e_t1
    exact ret0 (fun z => by have := z.1; omega) _ _ s2 z2
  have c : ¬ m < 1 := fun z => c (decide_eq_true z)
  refine ⟨.int far, rfl, _, _, rfl, rfl, _, rfl, ite2 (fun c2 => ?_) (fun c2 => ?_)⟩
  · have c2 : far < 0 := of_decide_eq_true c2
    refine iteT ?_
    refine ⟨.ref t, rfl, ?_⟩
    refine ⟨szN 3 rfl, fun t1 n_t1 => ?_⟩
    generalize e_t1 : upd H1 t1 _ = H2
    have s2 := new_same e_t1 n_t1
    have z2 := new_at e_t1
    clear e_t1
    exact ret0 (fun z => by have := z.2.1; omega) _ _ s2 z2
  have c2 : ¬ far < 0 := fun z => c2 (decide_eq_true z)
  refine ⟨.int far, rfl, 10, 40, rfl, rfl, p40, _, _, rfl, rfl, _, rfl, ite2 (fun c3 => ?_) (fun c3 => ?_)⟩
  · have c3 : (10 : Int) ^ (40 : Int).toNat ≤ far := of_decide_eq_true c3
    refine ⟨.ref t, rfl, ?_⟩
    refine ⟨szN 3 rfl, fun t1 n_t1 => ?_⟩
    generalize e_t1 : upd H1 t1 _ = H2
    have s2 := new_same e_t1 n_t1
    have z2 := new_at e_t1
    clear e_t1
    exact ret0 (fun z => by have := z.2.2; rw [p40'] at c3; omega) _ _ s2 z2
  have c3 : ¬ (10 : Int) ^ (40 : Int).toNat ≤ far := fun z => c3 (decide_eq_true z)
  rw [p40'] at c3
  have good : 1 ≤ m ∧ In40 far := ⟨by omega, by omega, by omega⟩
  clear ret0 bad
  -- the ends
  refine ⟨fun σ' H2 => ∃ D, σ' = [some (.ref t), some (.ref td), some (.int s_.size), some (.int s_.coming), some (.ref la), some (.ref lb), some (.int far), some (.ref D), none, none] ∧ Same H1 H2 ∧ H2 D = some (.lst ((endsF s_).map V.int)), ?_, ?_⟩
  · refine ⟨.ref la, rfl, la, rfl, ⟨_, .inl (.inl h3)⟩, fun D nD => ?_⟩
    refine lc_list (xs := xs) (fun i H5 => Same H1 H5 ∧ H5 D = some (.lst (((s_.said.take i).map fun r => (if r.sy.lo < r.sy.hi then r.sy.hi else r.sy.lo) + r.sy.n).map V.int))) ⟨same_upd nD, upd_same⟩ (fun i H5 _ hP => .inl (.inl (hP.1 _ _ h3))) (fun i v H5 hv hP => ?_) (fun H5 hP => ?_)
    · obtain ⟨sm, eD⟩ := hP
      obtain ⟨r, hr_, tr, rfl, ht⟩ := h4.get hv
      have hi : i < s_.said.length := (List.getElem?_eq_some_iff.mp hr_).1
      refine ⟨rfl, ?_⟩
      refine tYes_ok ?_
      refine iteT ?_
      have htr := sm _ _ ht
      refine ⟨.ref tr, rfl, tr, _, _, .int r.sy.lo, rfl, rfl, .inl (.inl htr), rfl, .ref tr, rfl, tr, _, _, .int r.sy.hi, rfl, rfl, .inl (.inl htr), rfl, r.sy.lo, r.sy.hi, rfl, .ref tr, rfl, tr, _, _, .int r.sy.n, rfl, rfl, .inl (.inl htr), rfl, _, _, rfl, rfl, _, eD, ?_, same_over sm nD, ?_⟩
      · rw [List.length_map, List.length_map, List.length_take]
        exact Nat.lt_of_le_of_lt (show _ ≤ 100000 by omega) (by decide)
      · rw [upd_same, List.take_add_one, hr_, List.map_append, List.map_append]
        rfl
    · obtain ⟨sm, eD⟩ := hP
      rw [h4.len, List.take_length] at eD
      refine ⟨.ref lb, rfl, lb, rfl, ⟨_, .inl (.inl (sm _ _ h5))⟩, fun D2 nD2 => ?_⟩
      refine lc_list (xs := ys) (fun i H6 => Same H5 H6 ∧ H6 D2 = some (.lst (((s_.noted.take i).map fun m => m.at_ + m.n).map V.int))) ⟨same_upd nD2, upd_same⟩ (fun i H6 _ hP => .inl (.inl (hP.1 _ _ (sm _ _ h5)))) (fun i v H6 hv hP => ?_) (fun H6 hP => ?_)
      · obtain ⟨sm2, eD2⟩ := hP
        obtain ⟨me, hm, tr, rfl, ht⟩ := h6.get hv
        have hi : i < s_.noted.length := (List.getElem?_eq_some_iff.mp hm).1
        refine ⟨rfl, ?_⟩
        refine tYes_ok ?_
        refine iteT ?_
        have htr := sm2 _ _ (sm _ _ ht)
        refine ⟨.ref tr, rfl, tr, _, _, .int me.at_, rfl, rfl, .inl (.inl htr), rfl, .ref tr, rfl, tr, _, _, .int me.n, rfl, rfl, .inl (.inl htr), rfl, _, _, rfl, rfl, _, eD2, ?_, same_over sm2 nD2, ?_⟩
        · rw [List.length_map, List.length_map, List.length_take]
          exact Nat.lt_of_le_of_lt (show _ ≤ 100000 by omega) (by decide)
        · rw [upd_same, List.take_add_one, hm, List.map_append, List.map_append]
          rfl
      · obtain ⟨sm2, eD2⟩ := hP
        rw [h6.len, List.take_length] at eD2
        refine ⟨D, D2, _, _, rfl, rfl, sm2 _ _ eD, eD2, ?_, ?_⟩
        · rw [List.length_map, List.length_map, List.length_map, List.length_map]
          exact Nat.le_trans (show _ ≤ 1000 by omega) (by decide)
        intro l1_ n_l1_
        generalize e_l1_ : upd H6 l1_ _ = H7
        have s7 := new_same e_l1_ n_l1_
        have z7 := new_at e_l1_
        clear e_l1_
        rw [← List.map_append] at z7
        exact ⟨l1_, rfl, sm.trans (sm2.trans s7), z7⟩
  rintro σ' H2 ⟨D, rfl, s2, eD⟩
  have le : (endsF s_).length ≤ 100 := by unfold endsF; rw [List.length_append, List.length_map, List.length_map]; omega
  have hd2 := s2 _ _ hd
  have h22 := s2 _ _ h2
  have fin : (s0 s_ (.inr (none, { s_ with size := far })) = { s_ with size := far }) := rfl
  have done : Stp s_ d (.inr (none, { s_ with size := far })) → ∀ H3, Same H2 H3 → ∀ t1 H4, Same H3 H4 → H4 t1 = some (.tup [.int far, .int s_.coming, .ref la, .ref lb]) → ∀ t2 H5, Same H4 H5 → H5 t2 = some (.tup [.str "", .non, .ref t1]) → Q (.ref t2) H5 := fun z H3 s3 t1 H4 s4 z4 t2 H5 s5 z5 => by
    have s15 := s2.trans (s3.trans (s4.trans s5))
    exact q _ z H5 t2 (.ref t1) s15 z5 ⟨t1, la, lb, xs, ys, rfl, s5 _ _ z4, s15 _ _ h3, RL.ts (TS.of s15) h4, s15 _ _ h5, ML.ts (TS.of s15) h6, h7, h8⟩
  rcases kd with ⟨e1, rfl, rfl⟩ | ⟨e1, rfl, rfl⟩
  · refine ⟨.ref td, rfl, td, _, _, .str "lengthen", rfl, rfl, .inl (.inl hd2), rfl, rfl, false, sF (by decide +kernel), iteF (iteF ?_)⟩
    refine ⟨.int (s_.size + m), rfl, .int s_.coming, rfl, .ref la, rfl, .ref lb, rfl, ?_⟩
    refine ⟨szN 4 rfl, fun t1 n_t1 => ?_⟩
    generalize e_t1 : upd H2 t1 _ = H3
    have s3 := new_same e_t1 n_t1
    have z3 := new_at e_t1
    clear e_t1
    refine ⟨szN 3 rfl, fun t2 n_t2 => ?_⟩
    generalize e_t2 : upd H3 t2 _ = H4
    have s4 := new_same e_t2 n_t2
    have z4 := new_at e_t2
    clear e_t2
    exact done (by rw [e1]; exact .inl ⟨good.1, good.2, rfl⟩) H2 (Same.refl _) t1 H3 s3 z3 t2 H4 s4 z4
  · refine ⟨.ref td, rfl, td, _, _, .str "shorten", rfl, rfl, .inl (.inl hd2), rfl, rfl, true, sT _, iteT ?_⟩
    refine ⟨.ref D, rfl, D, rfl, ⟨_, .inl (.inl eD)⟩, fun D2 nD2 => ?_⟩
    refine lc_list (xs := (endsF s_).map V.int) (fun i H6 => Same H2 H6 ∧ H6 D2 = some (.lst ((((endsF s_).take i).filter fun z => decide (s_.size - m < z)).map V.int))) ⟨same_upd nD2, upd_same⟩ (fun i H6 _ hP => .inl (.inl (hP.1 _ _ eD))) (fun i v H6 hv hP => ?_) (fun H6 hP => ?_)
    · obtain ⟨sm2, eD2⟩ := hP
      rw [List.getElem?_map] at hv
      obtain ⟨z, hz, rfl⟩ := Option.map_eq_some_iff.mp hv
      have et : (endsF s_).take (i + 1) = (endsF s_).take i ++ [z] := by rw [List.take_add_one, hz]; rfl
      refine ⟨rfl, ?_⟩
      refine ⟨.int z, rfl, .int (s_.size - m), rfl, _, _, rfl, rfl, _, rfl, ?_⟩
      refine ite2 (fun c => ?_) (fun c => ?_)
      · have c : s_.size - m < z := of_decide_eq_true c
        refine ⟨.int z, rfl, _, eD2, ?_, same_over sm2 nD2, ?_⟩
        · rw [List.length_map]
          have h1 := List.length_filter_le (fun z => decide (s_.size - m < z)) ((endsF s_).take i)
          rw [List.length_take] at h1
          exact Nat.lt_of_le_of_lt (show _ ≤ 100000 by omega) (by decide)
        · rw [upd_same, et, List.filter_append, List.filter_cons_of_pos (by simp [c]), List.map_append]
          rfl
      · have c : ¬ s_.size - m < z := fun z => c (decide_eq_true z)
        refine ⟨sm2, ?_⟩
        rw [eD2, et, List.filter_append, List.filter_cons_of_neg (by simp [c]), List.filter_nil, List.append_nil]
    · obtain ⟨sm2, eD2⟩ := hP
      rw [List.length_map, List.take_length] at eD2
      refine ⟨szN 0 rfl, fun l0 n_l0 => ?_⟩
      generalize e_l0 : upd H6 l0 _ = H7
      have s7 := new_same e_l0 n_l0
      have z7 := new_at e_l0
      clear e_l0
      refine ⟨_, .list [], .lst (.inl (.inl (s7 _ _ eD2))) dpAll_int, .lst (.inl (.inl z7)) .nil, shapedInt _, by decide +kernel, _, rfl, ?_⟩
      rw [eqv_nilL, List.isEmpty_map]
      by_cases c : ∀ z ∈ endsF s_, z ≤ s_.size - m
      · rw [show ((endsF s_).filter fun z => decide (s_.size - m < z)).isEmpty = true from by
          rw [List.isEmpty_iff, List.filter_eq_nil_iff]
          intro z hz
          have := c z hz
          simp; omega]
        refine iteF ?_
        refine ⟨.int (s_.size - m), rfl, .int s_.coming, rfl, .ref la, rfl, .ref lb, rfl, ?_⟩
        refine ⟨szN 4 rfl, fun t1 n_t1 => ?_⟩
        generalize e_t1 : upd H7 t1 _ = H8
        have s8 := new_same e_t1 n_t1
        have z8 := new_at e_t1
        clear e_t1
        refine ⟨szN 3 rfl, fun t2 n_t2 => ?_⟩
        generalize e_t2 : upd H8 t2 _ = H9
        have s9 := new_same e_t2 n_t2
        have z9 := new_at e_t2
        clear e_t2
        exact done (by rw [e1]; exact .inl ⟨good.1, good.2, c, rfl⟩) H7 (sm2.trans s7) t1 H8 s8 z8 t2 H9 s9 z9
      · rw [show ((endsF s_).filter fun z => decide (s_.size - m < z)).isEmpty = false from by
          rw [Bool.eq_false_iff]
          intro z
          rw [List.isEmpty_iff, List.filter_eq_nil_iff] at z
          exact c fun a ha => by have := z a ha; simp at this; omega]
        refine iteT ?_
        refine ⟨.ref t, rfl, ?_⟩
        refine ⟨szN 3 rfl, fun t2 n_t2 => ?_⟩
        generalize e_t2 : upd H7 t2 _ = H8
        have s8 := new_same e_t2 n_t2
        have z8 := new_at e_t2
        clear e_t2
        have s18 := s2.trans (sm2.trans (s7.trans s8))
        exact q (.inl 6) (by rw [e1]; exact .inr (.inl ⟨good.1, good.2, c, rfl⟩)) H8 t2 (.ref t) s18 z8 (st.same s18)
end
end Rep
namespace Rep
open PySem L2 L2H RepHot
section
variable {Pg : Program} {w : World} {K : PySem.W.Frag} {mg : Str → Option Value} {base : Heap} {fGs fNu : Addr} {fdGs fdNu : FuncData}
theorem ok_lrn {f : Addr} {fd : FuncData} (F : Fun K "_law_row_next" "_law_row_next" s_law_row_next f fd) (T : TNx Pg w K mg base fGs fNu fdGs fdNu) : FnOk Pg w K mg base CX0 9 f fd ["_law_state", "_law_deed_here"] (spNx false) := by
  refine F.ok scLrn (fun vs H Q E h => ?_) (fun cdv A outer s H vs Q E hr h => ?_)
  · obtain ⟨stv, dv, N, s_, d, rfl, _⟩ := h; rfl
  obtain ⟨stv, dv, N, s_, d, rfl, st, ⟨td, rfl, hd⟩, dok, na, wf, lk, q⟩ := h
  have r8 : Room 8 _ := hr
  refine ⟨_, (C8.pss_cut (ps_asg (pv 0) (pg_tup rfl (pgs_cons (pg_name (i := 2) scLrn.nd rfl (.inl rfl)) (pgs_cons (pg_name (i := 3) scLrn.nd rfl (.inl rfl)) (pgs_cons (pg_name (i := 4) scLrn.nd rfl (.inl rfl)) (pgs_cons (pg_name (i := 5) scLrn.nd rfl (.inl rfl)) pgs_nil))))))
    (pss_cons (ps_if (pt_cmpR op_in_seq (pe_ix ix_tup (pv 1) pe_int (fun _ _ => rfl)) (pe_tup (pa_cons pe_str (pa_cons pe_str pa_nil))) (by rfl)) (C8.pss_cut (ps_asg (pe_slice sl_tup (pv 1) (po_some (pe_un un_neg pe_int)) po_none) (pg_tup rfl (pgs_cons (pg_name (i := 6) scLrn.nd rfl (.inl rfl)) (pgs_cons (pg_name (i := 7) scLrn.nd rfl (.inl rfl)) (pgs_cons (pg_name (i := 8) scLrn.nd rfl (.inl rfl)) (pgs_cons (pg_name (i := 9) scLrn.nd rfl (.inl rfl)) pgs_nil))))))
    (C8.pss_cut (ps_set (i := 10) scLrn.nd rfl (.inl rfl) (pe_and (pe_call T.gGs r8 (by rfl) T.mGs T.kGs T.bGs .nil pass0 (pa_cons (pv 2) (pa_cons (pv 6) (pa_cons (pv 8) pa_nil)))) (pe_one (pe_call T.gGs r8 (by rfl) T.mGs T.kGs T.bGs .nil pass0 (pa_cons (pv 2) (pa_cons (pv 7) (pa_cons (pv 8) pa_nil)))))))
    (pss_cons (ps_if (PW.pt (pw_and (pt_cmpR op_eq (pe_ix ix_tup (pv 1) pe_int (fun _ _ => rfl)) pe_str (nomark _)) (pw_and1 (pt_cmpR op_notIn_seq (pe_ix ix_tup (pv 1) pe_int (fun _ _ => rfl)) (pe_call T.gNu r8 (by rfl) T.mNu T.kNu T.bNu .nil pass0 (pa_cons (pv 4) pa_nil)) (by rfl))))) (pss_one (ps_ret (pe_tup (pa_cons pe_str (pa_cons pe_non (pa_cons (pv 0) pa_nil)))))) pss_nil)
    (pss_cons (ps_if (pt_not (pt_val (pv 10))) (pss_one (ps_ret (pe_tup (pa_cons pe_str (pa_cons pe_non (pa_cons (pv 0) pa_nil)))))) pss_nil)
    (pss_cons (ps_if (PW.pt (pw_and (pt_cmpR op_eq (pe_ix ix_tup (pv 1) pe_int (fun _ _ => rfl)) pe_str (nomark _)) (pw_and1 (pt_cmpR op_ge (pe_callB call_len_seq (by rfl) T.ml PySem.boot_len (pa_cons (pv 4) pa_nil)) pe_int (nomark _))))) (pss_one (ps_ret (pe_tup (pa_cons pe_str (pa_cons pe_non (pa_cons (pv 0) pa_nil)))))) pss_nil)
    (pss_cons (ps_if (pt_cmpR op_eq (pe_ix ix_tup (pv 1) pe_int (fun _ _ => rfl)) pe_str (nomark _)) (pss_one (ps_ret (pe_tup (pa_cons pe_str (pa_cons (pv 3) (pa_cons (pe_tup (pa_cons (pv 2) (pa_cons (pe_op op_add (pv 3) pe_int) (pa_cons (pe_op op_cat (pv 4) (pe_lst (pa_cons (pe_op op_catT (pe_tup (pa_cons (pv 3) pa_nil)) (pe_slice sl_tup (pv 1) (po_some pe_int) po_none)) pa_nil))) (pa_cons (pv 5) pa_nil))))) pa_nil)))))) pss_nil)
    (pss_cons (ps_setLc (i := 11) (own := [("_law_row", 12)]) (g := (gName 12)) (tt := tYes) (te := (tIf (tTest (tOp rEq (tOp (rIxT K) (tVar 12) (tC (.int 0))) (tOp (rIxT K) (tVar 1) (tC (.int 1))))) (tSl (rSlT K) (tVar 1) (tPart (tC (.int 1))) tNoPart) (tVar 12))) rfl scLrn.nd rfl rfl (sw_true rfl rfl rfl (by decide +kernel)) (pi_list (pv 4)) (blkOk_by (N := nLrn) (sc := defScope s_law_row_next) (by decide +kernel)) (fun _ _ _ _ _ => (pg_name (i := 12) scLrn.nd rfl (.inl rfl))) (fun _ _ _ _ _ => pts_nil) (fun _ _ _ _ _ => (pe_ifExp (pt_cmpR op_eq (pe_ix ix_tup (pv 12) pe_int (fun _ _ => rfl)) (pe_ix ix_tup (pv 1) pe_int (fun _ _ => rfl)) (nomark _)) (pe_slice sl_tup (pv 1) (po_some pe_int) po_none) (pv 12))))
    (pss_one (ps_ret (pe_tup (pa_cons pe_str (pa_cons pe_non (pa_cons (pe_tup (pa_cons (pv 2) (pa_cons (pv 3) (pa_cons (pv 11) (pa_cons (pv 5) pa_nil))))) pa_nil))))))))))))) pss_nil)
    (pss_cons (ps_if (pt_cmpR op_eq (pe_ix ix_tup (pv 1) pe_int (fun _ _ => rfl)) pe_str (nomark _)) (pss_cons (ps_if (PW.pt (pw_or (pt_cmpR op_ne (pe_callB call_len_str (by rfl) T.ml PySem.boot_len (pa_cons (pe_ix ix_tup (pv 1) pe_int (fun _ _ => rfl)) pa_nil)) pe_int (nomark _)) (pw_or1 (pt_cmpR op_notIn_sign (pe_ix ix_tup (pv 1) pe_int (fun _ _ => rfl)) pe_str (by rfl))))) (pss_one (ps_ret (pe_tup (pa_cons pe_str (pa_cons pe_non (pa_cons (pv 0) pa_nil)))))) pss_nil)
    (pss_cons (ps_if (pt_not (pt_val (pe_call T.gGs r8 (by rfl) T.mGs T.kGs T.bGs .nil pass0 (pa_cons (pv 2) (pa_cons (pe_ix ix_tup (pv 1) pe_int (fun _ _ => rfl)) (pa_cons (pe_ix ix_tup (pv 1) pe_int (fun _ _ => rfl)) pa_nil)))))) (pss_one (ps_ret (pe_tup (pa_cons pe_str (pa_cons pe_non (pa_cons (pv 0) pa_nil)))))) pss_nil)
    (pss_cons (ps_if (pt_cmpR op_ge (pe_callB call_len_seq (by rfl) T.ml PySem.boot_len (pa_cons (pv 5) pa_nil)) pe_int (nomark _)) (pss_one (ps_ret (pe_tup (pa_cons pe_str (pa_cons pe_non (pa_cons (pv 0) pa_nil)))))) pss_nil)
    (pss_one (ps_ret (pe_tup (pa_cons pe_str (pa_cons (pv 3) (pa_cons (pe_tup (pa_cons (pv 2) (pa_cons (pe_op op_add (pv 3) pe_int) (pa_cons (pv 4) (pa_cons (pe_op op_cat (pv 5) (pe_lst (pa_cons (pe_op op_catT (pe_tup (pa_cons (pv 3) pa_nil)) (pe_slice sl_tup (pv 1) (po_some pe_int) po_none)) pa_nil))) pa_nil))))) pa_nil))))))))) pss_nil)
    (pss_cons (ps_if (PW.pt (pw_and (pt_cmpR op_eq (pe_ix ix_tup (pv 1) pe_int (fun _ _ => rfl)) pe_str (nomark _)) (pw_and1 (pt_cmpR op_in_seq (pe_ix ix_tup (pv 1) pe_int (fun _ _ => rfl)) (pe_call T.gNu r8 (by rfl) T.mNu T.kNu T.bNu .nil pass0 (pa_cons (pv 4) pa_nil)) (by rfl))))) (pss_one (ps_ret (pe_tup (pa_cons pe_str (pa_cons pe_non (pa_cons (pe_tup (pa_cons (pv 2) (pa_cons (pv 3) (pa_cons (pe_lc (own := [("_law_row", 12)]) (g := (gName 12)) (tt := (tTest (tOp rNe (tOp (rIxT K) (tVar 12) (tC (.int 0))) (tOp (rIxT K) (tVar 1) (tC (.int 1)))))) (te := (tVar 12)) rfl scLrn.nd (pi_list (pv 4)) (blkOk_by (N := nLrn) (sc := defScope s_law_row_next) (by decide +kernel)) (fun _ _ _ _ _ => (pg_name (i := 12) scLrn.nd rfl (.inl rfl))) (fun _ _ _ _ _ => (pts_one (pt_cmpR op_ne (pe_ix ix_tup (pv 12) pe_int (fun _ _ => rfl)) (pe_ix ix_tup (pv 1) pe_int (fun _ _ => rfl)) (nomark _)))) (fun _ _ _ _ _ => (pv 12))) (pa_cons (pv 5) pa_nil))))) pa_nil)))))) pss_nil)
    (pss_cons (ps_if (PW.pt (pw_and (pt_cmpR op_eq (pe_ix ix_tup (pv 1) pe_int (fun _ _ => rfl)) pe_str (nomark _)) (pw_and1 (pt_cmpR op_in_seq (pe_ix ix_tup (pv 1) pe_int (fun _ _ => rfl)) (pe_call T.gNu r8 (by rfl) T.mNu T.kNu T.bNu .nil pass0 (pa_cons (pv 5) pa_nil)) (by rfl))))) (pss_one (ps_ret (pe_tup (pa_cons pe_str (pa_cons pe_non (pa_cons (pe_tup (pa_cons (pv 2) (pa_cons (pv 3) (pa_cons (pv 4) (pa_cons (pe_lc (own := [("_law_row", 12)]) (g := (gName 12)) (tt := (tTest (tOp rNe (tOp (rIxT K) (tVar 12) (tC (.int 0))) (tOp (rIxT K) (tVar 1) (tC (.int 1)))))) (te := (tVar 12)) rfl scLrn.nd (pi_list (pv 5)) (blkOk_by (N := nLrn) (sc := defScope s_law_row_next) (by decide +kernel)) (fun _ _ _ _ _ => (pg_name (i := 12) scLrn.nd rfl (.inl rfl))) (fun _ _ _ _ _ => (pts_one (pt_cmpR op_ne (pe_ix ix_tup (pv 12) pe_int (fun _ _ => rfl)) (pe_ix ix_tup (pv 1) pe_int (fun _ _ => rfl)) (nomark _)))) (fun _ _ _ _ _ => (pv 12))) pa_nil))))) pa_nil)))))) pss_nil)
    (pss_one (ps_ret (pe_tup (pa_cons pe_str (pa_cons pe_non (pa_cons (pv 0) pa_nil))))))))))), ?_⟩
  obtain ⟨t, la, lb, xs, ys, rfl, h2, h3, h4, h5, h6, h7, h8⟩ := st.ex
  have l1 := wf.l1
  have l2 := wf.l2
  have x1 := h4.len
  have y1 := h6.len
  refine ⟨fun σ' H' => σ' = [some (.ref t), some (.ref td), some (.int s_.size), some (.int s_.coming), some (.ref la), some (.ref lb), none, none, none, none, none, none, none] ∧ H' = H, ?_, ?_⟩
  · exact ⟨.ref t, rfl, t, _, rfl, .inl (.inl h2), rfl, _, _, rfl, _, _, rfl, _, _, rfl, _, _, rfl, rfl, rfl, rfl⟩
  rintro σ' H' ⟨rfl, eH⟩
  subst eH
  have no_ : ∀ (j : Nat) (H2 : Hp) (t1 : Addr), Stp s_ d (.inl j) → Same H' H2 → H2 t1 = some (.tup [.str (kinWord j), .non, .ref t]) → Q (.ref t1) H2 := fun j H2 t1 z s2 z2 => q (.inl j) z H2 t1 (.ref t) s2 z2 (st.same s2)
  have yes_ : ∀ (o : Option Int) (c : Int) (rs : List Rw) (ms : List Me) (H2 : Hp) (t1 t2 a b : Addr) (us vs : List V), Stp s_ d (.inr (o, ⟨s_.size, c, rs, ms⟩)) → Same H' H2 → H2 t1 = some (.tup [.int s_.size, .int c, .ref a, .ref b]) → H2 a = some (.lst us) → RL H2 us rs → H2 b = some (.lst vs) → ML H2 vs ms → ¬ N a → ¬ N b → H2 t2 = some (.tup [.str "", oV' o, .ref t1]) → Q (.ref t2) H2 :=
    fun o c rs ms H2 t1 t2 a b us vs z s2 z1 e1 e2 e3 e4 n1 n2 z2 => q _ z H2 t2 (.ref t1) s2 z2 ⟨t1, a, b, us, vs, rfl, z1, e1, e2, e3, e4, n1, n2⟩
  clear q
  cases d with
  | say y =>
    have hd : H' td = some (.tup [.str "say", .int y.lo, .int y.hi, .int y.n, .bl y.t]) := hd
    refine ⟨.ref td, rfl, td, _, _, .str "say", rfl, rfl, .inl (.inl hd), rfl, ?_⟩
    refine ⟨szN 2 rfl, fun tw n_tw => ?_⟩
    generalize e_tw : upd H' tw _ = H1
    have u1 := new_same e_tw n_tw
    have z1 := new_at e_tw
    clear e_tw
    refine ⟨tw, _, rfl, .inr (.inl (.inl z1)), rfl, by decide +kernel, true, by decide +kernel, iteT ?_⟩
    have hd1 := u1 _ _ hd
    refine ⟨fun σ' H2 => σ' = [some (.ref t), some (.ref td), some (.int s_.size), some (.int s_.coming), some (.ref la), some (.ref lb), some (.int y.lo), some (.int y.hi), some (.int y.n), some (.bl y.t), none, none, none] ∧ Same H1 H2, ?_, ?_⟩
    · refine ⟨.ref td, rfl, 4, rfl, _, rfl, td, _, rfl, .inl (.inl hd1), (show ¬ (HT.sIx 5 0 (some (-4)) = 0 ∧ HT.sIx 5 5 none = 5) from by decide), ?_⟩
      intro t2 n_t2
      generalize e_t2 : upd H1 t2 _ = H2
      have u2 := new_same e_t2 n_t2
      have z2 := new_at e_t2
      clear e_t2
      have z2 : H2 t2 = some (.tup [.int y.lo, .int y.hi, .int y.n, .bl y.t]) := z2
      exact ⟨t2, _, rfl, .inl (.inl z2), rfl, _, _, rfl, _, _, rfl, _, _, rfl, _, _, rfl, rfl, rfl, u2⟩
    rintro σ' H2 ⟨rfl, u2⟩
    refine ⟨fun σ' H3 => σ' = [some (.ref t), some (.ref td), some (.int s_.size), some (.int s_.coming), some (.ref la), some (.ref lb), some (.int y.lo), some (.int y.hi), some (.int y.n), some (.bl y.t), some (.bl (decide (Gd2 s_.size y))), none, none] ∧ H3 = H2, ?_, ?_⟩
    · refine ⟨.int s_.size, rfl, .int y.lo, rfl, .int y.n, rfl, s_.size, y.lo, y.n, rfl, ?_⟩
      by_cases g1 : St_ y.lo y.n s_.size
      · refine ⟨true, by rw [decide_eq_true g1], iteT ?_⟩
        refine ⟨.int s_.size, rfl, .int y.hi, rfl, .int y.n, rfl, s_.size, y.hi, y.n, rfl, ?_⟩
        have e1 : decide (St_ y.hi y.n s_.size) = decide (Gd2 s_.size y) := decide_eq_decide.mpr ⟨fun z => ⟨g1, z⟩, fun z => z.2⟩
        rw [e1]; exact ⟨rfl, rfl⟩
      · refine ⟨false, by rw [decide_eq_false g1], iteF ?_⟩
        have e1 : decide (Gd2 s_.size y) = false := decide_eq_false fun z => g1 z.1
        rw [e1]; exact ⟨rfl, rfl⟩
    rintro σ' H3 ⟨rfl, eH⟩
    subst eH
    have u3 := u1.trans u2
    have hd3 := u3 _ _ hd
    refine ⟨.ref td, rfl, td, _, _, .str "say", rfl, rfl, .inl (.inl hd3), rfl, rfl, false, sF (by decide +kernel), iteF (iteF ?_)⟩
    refine ⟨.bl (decide (Gd2 s_.size y)), rfl, _, rfl, ?_⟩
    by_cases g : Gd2 s_.size y
    case neg =>
      rw [decide_eq_false g]
      refine iteT ?_
      refine ⟨.ref t, rfl, ?_⟩
      refine ⟨szN 3 rfl, fun tr n_tr => ?_⟩
      generalize e_tr : upd H3 tr _ = HR
      have uR := new_same e_tr n_tr
      have zR := new_at e_tr
      clear e_tr
      exact no_ 1 HR tr (.inr (.inr ⟨g, rfl⟩)) (u3.trans uR) zR
    rw [decide_eq_true g]
    refine iteF ?_
    refine ⟨.ref td, rfl, td, _, _, .str "say", rfl, rfl, .inl (.inl hd3), rfl, rfl, true, sT _, iteT ?_⟩
    refine ⟨.ref la, rfl, la, xs, rfl, .inl (.inl (.inl (u3 _ _ h3))), _, _, rfl, rfl, _, rfl, ite2 (fun c => ?_) (fun c => ?_)⟩
    · have c : (24 : Int) ≤ xs.length := of_decide_eq_true c
      refine ⟨.ref t, rfl, ?_⟩
      refine ⟨szN 3 rfl, fun tr n_tr => ?_⟩
      generalize e_tr : upd H3 tr _ = HR
      have uR := new_same e_tr n_tr
      have zR := new_at e_tr
      clear e_tr
      exact no_ 5 HR tr (.inr (.inl ⟨g, by omega, rfl⟩)) (u3.trans uR) zR
    have c : ¬ (24 : Int) ≤ xs.length := fun z => c (decide_eq_true z)
    refine ⟨.ref td, rfl, td, _, _, .str "say", rfl, rfl, .inl (.inl hd3), rfl, rfl, true, sT _, iteT ?_⟩
    refine ⟨.int s_.coming, rfl, .int s_.size, rfl, .int s_.coming, rfl, _, _, rfl, rfl, .ref la, rfl, .int s_.coming, rfl, ?_⟩
    refine ⟨szN 1 rfl, fun ta n_ta => ?_⟩
    generalize e_ta : upd H3 ta _ = H4
    have u4 := new_same e_ta n_ta
    have z4 := new_at e_ta
    clear e_ta
    refine ⟨.ref td, rfl, _, rfl, td, _, rfl, .inl (.inl (u4 _ _ hd3)), (show ¬ (HT.sIx 5 0 (some 1) = 0 ∧ HT.sIx 5 5 none = 5) from by decide), ?_⟩
    intro tb n_tb
    generalize e_tb : upd H4 tb _ = H5
    have u5 := new_same e_tb n_tb
    have z5 := new_at e_tb
    clear e_tb
    have z5 : H5 tb = some (.tup [.int y.lo, .int y.hi, .int y.n, .bl y.t]) := z5
    refine ⟨ta, tb, _, _, rfl, rfl, .inl (.inl (u5 _ _ z4)), .inl (.inl z5), (fun z => nomatch z), by show 1 + 4 ≤ sizeLine; decide, (fun z => nomatch z), fun _ => ?_⟩
    intro tc n_tc
    generalize e_tc : upd H5 tc _ = H6
    have u6 := new_same e_tc n_tc
    have z6 := new_at e_tc
    clear e_tc
    have z6 : H6 tc = some (.tup [.int s_.coming, .int y.lo, .int y.hi, .int y.n, .bl y.t]) := z6
    refine ⟨szN 1 rfl, fun lc n_lc => ?_⟩
    generalize e_lc : upd H6 lc _ = H7
    have u7 := new_same e_lc n_lc
    have z7 := new_at e_lc
    clear e_lc
    have u37 := u3.trans (u4.trans (u5.trans (u6.trans u7)))
    refine ⟨la, lc, _, _, rfl, rfl, u37 _ _ h3, z7, Nat.le_trans (show xs.length + 1 ≤ 1000 by omega) (by decide), ?_⟩
    intro ld n_ld
    generalize e_ld : upd H7 ld _ = H8
    have u8 := new_same e_ld n_ld
    have z8 := new_at e_ld
    clear e_ld
    refine ⟨.ref lb, rfl, ?_⟩
    refine ⟨szN 4 rfl, fun te n_te => ?_⟩
    generalize e_te : upd H8 te _ = H9
    have u9 := new_same e_te n_te
    have z9 := new_at e_te
    clear e_te
    refine ⟨szN 3 rfl, fun tf n_tf => ?_⟩
    generalize e_tf : upd H9 tf _ = HA
    have uA := new_same e_tf n_tf
    have zA := new_at e_tf
    clear e_tf
    have u8A := u9.trans uA
    have uAll := u37.trans (u8.trans u8A)
    exact yes_ (some s_.coming) (s_.coming + 1) (s_.said ++ [⟨s_.coming, y⟩]) s_.noted HA te tf ld lb _ ys (.inl ⟨g, by omega, rfl⟩) uAll (uA _ _ z9) (u8A _ _ z8) ((RL.ts (TS.of uAll) h4).snoc ⟨tc, rfl, (u7.trans (u8.trans u8A)) _ _ z6⟩) (uAll _ _ h5) (ML.ts (TS.of uAll) h6) ((na.same u37).not n_ld) h8 zA
  | unsay n =>
    have hd : H' td = some (.tup [.str "unsay", .int n]) := hd
    refine ⟨.ref td, rfl, td, _, _, .str "unsay", rfl, rfl, .inl (.inl hd), rfl, ?_⟩
    refine ⟨szN 2 rfl, fun tw n_tw => ?_⟩
    generalize e_tw : upd H' tw _ = H1
    have u1 := new_same e_tw n_tw
    have z1 := new_at e_tw
    clear e_tw
    refine ⟨tw, _, rfl, .inr (.inl (.inl z1)), rfl, by decide +kernel, false, by decide +kernel, iteF ?_⟩
    have hd1 := u1 _ _ hd
    refine ⟨.ref td, rfl, td, _, _, .str "unsay", rfl, rfl, .inl (.inl hd1), rfl, rfl, false, sF (by decide +kernel), iteF ?_⟩
    refine ⟨.ref td, rfl, td, _, _, .str "unsay", rfl, rfl, .inl (.inl hd1), rfl, rfl, true, sT _, iteT ?_⟩
    have hdH := hd1
    refine ⟨.ref td, rfl, td, _, _, .int n, rfl, rfl, .inl (.inl hdH), rfl, .ref la, rfl, la, _, _, rfl, u1 _ _ h3, (RL.ts (TS.of u1) h4).hd, by rw [List.length_map]; omega, fun HN ln uN zN => ?_⟩
    refine ⟨ln, _, rfl, .inl (.inl (.inl zN)), rfl, flat_int, decide ((n ∈ s_.said.map Rw.num)), by rw [inV_int]; rfl, ?_⟩
    have u1N := u1.trans uN
    by_cases c : n ∈ s_.said.map Rw.num
    case neg =>
      rw [decide_eq_false c]
      refine iteF ?_
      refine ⟨.ref td, rfl, td, _, _, .str "unsay", rfl, rfl, .inl (.inl (uN _ _ hd1)), rfl, rfl, false, sF (by decide +kernel), iteF (iteF ?_)⟩
      refine ⟨.ref t, rfl, ?_⟩
      refine ⟨szN 3 rfl, fun tr n_tr => ?_⟩
      generalize e_tr : upd HN tr _ = HR
      have uR := new_same e_tr n_tr
      have zR := new_at e_tr
      clear e_tr
      exact no_ 3 HR tr (.inr ⟨c, rfl⟩) (u1N.trans uR) zR
    rw [decide_eq_true c]
    refine iteT ?_
    obtain ⟨k, hk⟩ := fst_of c
    refine ⟨.int s_.size, rfl, .int s_.coming, rfl, .ref la, rfl, la, rfl, ⟨_, .inl (.inl (u1N _ _ h3))⟩, fun D nD => ?_⟩
    refine lc_list (xs := xs) (fun i H5 => Same HN H5 ∧ ∃ zs, H5 D = some (.lst zs) ∧ RL H5 zs ((s_.said.take i).filter fun r => !decide (r.num = n)) ∧ zs.length ≤ i) ⟨same_upd nD, [], upd_same, LL.nil, Nat.le_refl _⟩ (fun i H5 _ hP => .inl (.inl (hP.1 _ _ (u1N _ _ h3)))) (fun i v H5 hv hP => ?_) (fun H5 hP => ?_)
    · obtain ⟨sm, zs, eD, rl, zl⟩ := hP
      obtain ⟨r, hr_, tr, rfl, ht⟩ := h4.get hv
      have hi : i < s_.said.length := (List.getElem?_eq_some_iff.mp hr_).1
      have et : s_.said.take (i + 1) = s_.said.take i ++ [r] := by rw [List.take_add_one, hr_]; rfl
      have htr := sm _ _ (u1N _ _ ht)
      refine ⟨rfl, ?_⟩
      refine ⟨.ref tr, rfl, tr, _, _, .int r.num, rfl, rfl, .inl (.inl htr), rfl, .ref td, rfl, td, _, _, .int n, rfl, rfl, .inl (.inl (sm _ _ (uN _ _ hd1))), rfl, rfl, _, rfl, ?_⟩
      refine ite2 (fun c => ?_) (fun c => ?_)
      · have c : ¬ r.num = n := fun z => by rw [z, decide_eq_true rfl] at c; cases c
        refine ⟨.ref tr, rfl, zs, eD, small1000 (by omega), same_over sm nD, _, upd_same, ?_, by rw [List.length_append, List.length_singleton]; omega⟩
        rw [et, List.filter_append, List.filter_cons_of_pos (by simp [c])]
        exact LL.snoc (RL.ts (fun t' xs' e => by rw [upd_ne (fun z => by rw [z, eD] at e; cases e)]; exact e) rl) ⟨tr, rfl, by rw [upd_ne (fun z => by rw [z, eD] at htr; cases htr)]; exact htr⟩
      · have c : r.num = n := by
          by_cases z : r.num = n
          · exact z
          · exact absurd (by rw [decide_eq_false fun y => z (V.int.inj y)]; rfl) c
        refine ⟨sm, zs, eD, ?_, by omega⟩
        rw [et, List.filter_append, List.filter_cons_of_neg (by simp [c]), List.filter_nil, List.append_nil]
        exact rl
    · obtain ⟨sm, zs, eD, rl, zl⟩ := hP
      rw [h4.len, List.take_length, filter_erase Rw.num wf.r1 hk] at rl
      refine ⟨.ref lb, rfl, ?_⟩
      refine ⟨szN 4 rfl, fun te n_te => ?_⟩
      generalize e_te : upd H5 te _ = H9
      have u9 := new_same e_te n_te
      have z9 := new_at e_te
      clear e_te
      refine ⟨szN 3 rfl, fun tf n_tf => ?_⟩
      generalize e_tf : upd H9 tf _ = HA
      have uA := new_same e_tf n_tf
      have zA := new_at e_tf
      clear e_tf
      have u9A := u9.trans uA
      have uAll := u1N.trans (sm.trans u9A)
      exact yes_ none s_.coming (s_.said.eraseIdx k) s_.noted HA te tf D lb zs ys (.inl ⟨k, hk, rfl⟩) uAll (uA _ _ z9) (u9A _ _ eD) (RL.ts (TS.of u9A) rl) (uAll _ _ h5) (ML.ts (TS.of uAll) h6) ((na.same u1N).not nD) h8 zA
  | forget n =>
    have hd : H' td = some (.tup [.str "forget", .int n]) := hd
    refine ⟨.ref td, rfl, td, _, _, .str "forget", rfl, rfl, .inl (.inl hd), rfl, ?_⟩
    refine ⟨szN 2 rfl, fun tw n_tw => ?_⟩
    generalize e_tw : upd H' tw _ = H1
    have u1 := new_same e_tw n_tw
    have z1 := new_at e_tw
    clear e_tw
    refine ⟨tw, _, rfl, .inr (.inl (.inl z1)), rfl, by decide +kernel, false, by decide +kernel, iteF ?_⟩
    have hd1 := u1 _ _ hd
    refine ⟨.ref td, rfl, td, _, _, .str "forget", rfl, rfl, .inl (.inl hd1), rfl, rfl, false, sF (by decide +kernel), iteF ?_⟩
    refine ⟨.ref td, rfl, td, _, _, .str "forget", rfl, rfl, .inl (.inl hd1), rfl, rfl, false, sF (by decide +kernel), iteF (iteF ?_)⟩
    refine ⟨.ref td, rfl, td, _, _, .str "forget", rfl, rfl, .inl (.inl hd1), rfl, rfl, true, sT _, iteT ?_⟩
    have hdH := hd1
    refine ⟨.ref td, rfl, td, _, _, .int n, rfl, rfl, .inl (.inl hdH), rfl, .ref lb, rfl, lb, _, _, rfl, u1 _ _ h5, (ML.ts (TS.of u1) h6).hd, by rw [List.length_map]; omega, fun HN ln uN zN => ?_⟩
    refine ⟨ln, _, rfl, .inl (.inl (.inl zN)), rfl, flat_int, decide ((n ∈ s_.noted.map Me.num)), by rw [inV_int]; rfl, ?_⟩
    have u1N := u1.trans uN
    by_cases c : n ∈ s_.noted.map Me.num
    case neg =>
      rw [decide_eq_false c]
      refine iteF ?_
      refine ⟨.ref t, rfl, ?_⟩
      refine ⟨szN 3 rfl, fun tr n_tr => ?_⟩
      generalize e_tr : upd HN tr _ = HR
      have uR := new_same e_tr n_tr
      have zR := new_at e_tr
      clear e_tr
      exact no_ 3 HR tr (.inr ⟨c, rfl⟩) (u1N.trans uR) zR
    rw [decide_eq_true c]
    refine iteT ?_
    obtain ⟨k, hk⟩ := fst_of c
    refine ⟨.int s_.size, rfl, .int s_.coming, rfl, .ref la, rfl, .ref lb, rfl, lb, rfl, ⟨_, .inl (.inl (u1N _ _ h5))⟩, fun D nD => ?_⟩
    refine lc_list (xs := ys) (fun i H5 => Same HN H5 ∧ ∃ zs, H5 D = some (.lst zs) ∧ ML H5 zs ((s_.noted.take i).filter fun r => !decide (r.num = n)) ∧ zs.length ≤ i) ⟨same_upd nD, [], upd_same, LL.nil, Nat.le_refl _⟩ (fun i H5 _ hP => .inl (.inl (hP.1 _ _ (u1N _ _ h5)))) (fun i v H5 hv hP => ?_) (fun H5 hP => ?_)
    · obtain ⟨sm, zs, eD, rl, zl⟩ := hP
      obtain ⟨r, hr_, tr, rfl, ht⟩ := h6.get hv
      have hi : i < s_.noted.length := (List.getElem?_eq_some_iff.mp hr_).1
      have et : s_.noted.take (i + 1) = s_.noted.take i ++ [r] := by rw [List.take_add_one, hr_]; rfl
      have htr := sm _ _ (u1N _ _ ht)
      refine ⟨rfl, ?_⟩
      refine ⟨.ref tr, rfl, tr, _, _, .int r.num, rfl, rfl, .inl (.inl htr), rfl, .ref td, rfl, td, _, _, .int n, rfl, rfl, .inl (.inl (sm _ _ (uN _ _ hd1))), rfl, rfl, _, rfl, ?_⟩
      refine ite2 (fun c => ?_) (fun c => ?_)
      · have c : ¬ r.num = n := fun z => by rw [z, decide_eq_true rfl] at c; cases c
        refine ⟨.ref tr, rfl, zs, eD, small1000 (by omega), same_over sm nD, _, upd_same, ?_, by rw [List.length_append, List.length_singleton]; omega⟩
        rw [et, List.filter_append, List.filter_cons_of_pos (by simp [c])]
        exact LL.snoc (ML.ts (fun t' xs' e => by rw [upd_ne (fun z => by rw [z, eD] at e; cases e)]; exact e) rl) ⟨tr, rfl, by rw [upd_ne (fun z => by rw [z, eD] at htr; cases htr)]; exact htr⟩
      · have c : r.num = n := by
          by_cases z : r.num = n
          · exact z
          · exact absurd (by rw [decide_eq_false fun y => z (V.int.inj y)]; rfl) c
        refine ⟨sm, zs, eD, ?_, by omega⟩
        rw [et, List.filter_append, List.filter_cons_of_neg (by simp [c]), List.filter_nil, List.append_nil]
        exact rl
    · obtain ⟨sm, zs, eD, rl, zl⟩ := hP
      rw [h6.len, List.take_length, filter_erase Me.num wf.r2 hk] at rl
      refine ⟨szN 4 rfl, fun te n_te => ?_⟩
      generalize e_te : upd H5 te _ = H9
      have u9 := new_same e_te n_te
      have z9 := new_at e_te
      clear e_te
      refine ⟨szN 3 rfl, fun tf n_tf => ?_⟩
      generalize e_tf : upd H9 tf _ = HA
      have uA := new_same e_tf n_tf
      have zA := new_at e_tf
      clear e_tf
      have u9A := u9.trans uA
      have uAll := u1N.trans (sm.trans u9A)
      exact yes_ none s_.coming s_.said (s_.noted.eraseIdx k) HA te tf la D xs zs (.inl ⟨k, hk, rfl⟩) uAll (uA _ _ z9) (uAll _ _ h3) (RL.ts (TS.of uAll) h4) (u9A _ _ eD) (ML.ts (TS.of u9A) rl) h7 ((na.same u1N).not nD) zA
  | amend n y =>
    have hd : H' td = some (.tup [.str "amend", .int n, .int y.lo, .int y.hi, .int y.n, .bl y.t]) := hd
    refine ⟨.ref td, rfl, td, _, _, .str "amend", rfl, rfl, .inl (.inl hd), rfl, ?_⟩
    refine ⟨szN 2 rfl, fun tw n_tw => ?_⟩
    generalize e_tw : upd H' tw _ = H1
    have u1 := new_same e_tw n_tw
    have z1 := new_at e_tw
    clear e_tw
    refine ⟨tw, _, rfl, .inr (.inl (.inl z1)), rfl, by decide +kernel, true, by decide +kernel, iteT ?_⟩
    have hd1 := u1 _ _ hd
    refine ⟨fun σ' H2 => σ' = [some (.ref t), some (.ref td), some (.int s_.size), some (.int s_.coming), some (.ref la), some (.ref lb), some (.int y.lo), some (.int y.hi), some (.int y.n), some (.bl y.t), none, none, none] ∧ Same H1 H2, ?_, ?_⟩
    · refine ⟨.ref td, rfl, 4, rfl, _, rfl, td, _, rfl, .inl (.inl hd1), (show ¬ (HT.sIx 6 0 (some (-4)) = 0 ∧ HT.sIx 6 6 none = 6) from by decide), ?_⟩
      intro t2 n_t2
      generalize e_t2 : upd H1 t2 _ = H2
      have u2 := new_same e_t2 n_t2
      have z2 := new_at e_t2
      clear e_t2
      have z2 : H2 t2 = some (.tup [.int y.lo, .int y.hi, .int y.n, .bl y.t]) := z2
      exact ⟨t2, _, rfl, .inl (.inl z2), rfl, _, _, rfl, _, _, rfl, _, _, rfl, _, _, rfl, rfl, rfl, u2⟩
    rintro σ' H2 ⟨rfl, u2⟩
    refine ⟨fun σ' H3 => σ' = [some (.ref t), some (.ref td), some (.int s_.size), some (.int s_.coming), some (.ref la), some (.ref lb), some (.int y.lo), some (.int y.hi), some (.int y.n), some (.bl y.t), some (.bl (decide (Gd2 s_.size y))), none, none] ∧ H3 = H2, ?_, ?_⟩
    · refine ⟨.int s_.size, rfl, .int y.lo, rfl, .int y.n, rfl, s_.size, y.lo, y.n, rfl, ?_⟩
      by_cases g1 : St_ y.lo y.n s_.size
      · refine ⟨true, by rw [decide_eq_true g1], iteT ?_⟩
        refine ⟨.int s_.size, rfl, .int y.hi, rfl, .int y.n, rfl, s_.size, y.hi, y.n, rfl, ?_⟩
        have e1 : decide (St_ y.hi y.n s_.size) = decide (Gd2 s_.size y) := decide_eq_decide.mpr ⟨fun z => ⟨g1, z⟩, fun z => z.2⟩
        rw [e1]; exact ⟨rfl, rfl⟩
      · refine ⟨false, by rw [decide_eq_false g1], iteF ?_⟩
        have e1 : decide (Gd2 s_.size y) = false := decide_eq_false fun z => g1 z.1
        rw [e1]; exact ⟨rfl, rfl⟩
    rintro σ' H3 ⟨rfl, eH⟩
    subst eH
    have u3 := u1.trans u2
    have hd3 := u3 _ _ hd
    refine ⟨.ref td, rfl, td, _, _, .str "amend", rfl, rfl, .inl (.inl hd3), rfl, rfl, true, sT _, iteT ?_⟩
    have hdH := hd3
    refine ⟨.ref td, rfl, td, _, _, .int n, rfl, rfl, .inl (.inl hdH), rfl, .ref la, rfl, la, _, _, rfl, u3 _ _ h3, (RL.ts (TS.of u3) h4).hd, by rw [List.length_map]; omega, fun HN ln uN zN => ?_⟩
    refine ⟨ln, _, rfl, .inl (.inl (.inl zN)), rfl, flat_int, decide (¬ (n ∈ s_.said.map Rw.num)), by rw [inV_int, decide_not]; rfl, ?_⟩
    have u3N := u3.trans uN
    have hdN := uN _ _ hd3
    by_cases c : n ∈ s_.said.map Rw.num
    case neg =>
      rw [decide_eq_true c]
      refine iteT ?_
      refine ⟨.ref t, rfl, ?_⟩
      refine ⟨szN 3 rfl, fun tr n_tr => ?_⟩
      generalize e_tr : upd HN tr _ = HR
      have uR := new_same e_tr n_tr
      have zR := new_at e_tr
      clear e_tr
      exact no_ 3 HR tr (.inr (.inr ⟨c, rfl⟩)) (u3N.trans uR) zR
    rw [show decide (¬ (n ∈ s_.said.map Rw.num)) = false from decide_eq_false fun z => z c]
    refine iteF ?_
    obtain ⟨k, hk⟩ := fst_of c
    refine ⟨.bl (decide (Gd2 s_.size y)), rfl, _, rfl, ?_⟩
    by_cases g : Gd2 s_.size y
    case neg =>
      rw [decide_eq_false g]
      refine iteT ?_
      refine ⟨.ref t, rfl, ?_⟩
      refine ⟨szN 3 rfl, fun tr n_tr => ?_⟩
      generalize e_tr : upd HN tr _ = HR
      have uR := new_same e_tr n_tr
      have zR := new_at e_tr
      clear e_tr
      exact no_ 1 HR tr (.inr (.inl ⟨k, hk, g, rfl⟩)) (u3N.trans uR) zR
    rw [decide_eq_true g]
    refine iteF ?_
    refine ⟨.ref td, rfl, td, _, _, .str "amend", rfl, rfl, .inl (.inl hdN), rfl, rfl, false, sF (by decide +kernel), iteF (iteF ?_)⟩
    refine ⟨.ref td, rfl, td, _, _, .str "amend", rfl, rfl, .inl (.inl hdN), rfl, rfl, false, sF (by decide +kernel), iteF ?_⟩
    refine ⟨.ref la, rfl, la, rfl, ⟨_, .inl (.inl (u3N _ _ h3))⟩, fun D nD => ?_⟩
    refine lc_list (xs := xs) (fun i H5 => Same HN H5 ∧ ∃ zs, H5 D = some (.lst zs) ∧ RL H5 zs ((s_.said.take i).map fun r => if r.num = n then ⟨n, y⟩ else r) ∧ zs.length = i) ⟨same_upd nD, [], upd_same, LL.nil, rfl⟩ (fun i H5 _ hP => .inl (.inl (hP.1 _ _ (u3N _ _ h3)))) (fun i v H5 hv hP => ?_) (fun H5 hP => ?_)
    · obtain ⟨sm, zs, eD, rl, zl⟩ := hP
      obtain ⟨r, hr_, tr, rfl, ht⟩ := h4.get hv
      have hi : i < s_.said.length := (List.getElem?_eq_some_iff.mp hr_).1
      have et : s_.said.take (i + 1) = s_.said.take i ++ [r] := by rw [List.take_add_one, hr_]; rfl
      have htr := sm _ _ (u3N _ _ ht)
      have htd := sm _ _ hdN
      refine ⟨rfl, ?_⟩
      refine tYes_ok ?_
      refine iteT ?_
      refine ⟨.ref tr, rfl, tr, _, _, .int r.num, rfl, rfl, .inl (.inl htr), rfl, .ref td, rfl, td, _, _, .int n, rfl, rfl, .inl (.inl htd), rfl, rfl, _, rfl, ?_⟩
      refine ite2 (fun c => ?_) (fun c => ?_)
      · have c : r.num = n := V.int.inj (of_decide_eq_true c)
        refine ⟨.ref td, rfl, _, rfl, td, _, rfl, .inl (.inl htd), (show ¬ (HT.sIx 6 0 (some 1) = 0 ∧ HT.sIx 6 6 none = 6) from by decide), ?_⟩
        intro tb n_tb
        generalize e_tb : upd H5 tb _ = H6
        have u6 := new_same e_tb n_tb
        have z6 := new_at e_tb
        clear e_tb
        have z6 : H6 tb = some (.tup [.int n, .int y.lo, .int y.hi, .int y.n, .bl y.t]) := z6
        have eD6 := u6 _ _ eD
        refine ⟨zs, eD6, small1000 (by omega), same_over (sm.trans u6) nD, _, upd_same, ?_, by rw [List.length_append, List.length_singleton]; omega⟩
        rw [et, List.map_append, List.map_cons, if_pos c]
        exact LL.snoc (RL.ts (fun t' xs' e => by rw [upd_ne (fun z => by rw [z, eD6] at e; cases e)]; exact e) (RL.ts (TS.of u6) rl)) ⟨tb, rfl, by rw [upd_ne (fun z => by rw [z, eD6] at z6; cases z6)]; exact z6⟩
      · have c : ¬ r.num = n := fun z => c (decide_eq_true (by rw [z]))
        refine ⟨.ref tr, rfl, zs, eD, small1000 (by omega), same_over sm nD, _, upd_same, ?_, by rw [List.length_append, List.length_singleton]; omega⟩
        rw [et, List.map_append, List.map_cons, if_neg c]
        exact LL.snoc (RL.ts (fun t' xs' e => by rw [upd_ne (fun z => by rw [z, eD] at e; cases e)]; exact e) rl) ⟨tr, rfl, by rw [upd_ne (fun z => by rw [z, eD] at htr; cases htr)]; exact htr⟩
    · obtain ⟨sm, zs, eD, rl, zl⟩ := hP
      rw [h4.len, List.take_length, map_set Rw.num wf.r1 hk] at rl
      refine ⟨.int s_.size, rfl, .int s_.coming, rfl, .ref D, rfl, .ref lb, rfl, ?_⟩
      refine ⟨szN 4 rfl, fun te n_te => ?_⟩
      generalize e_te : upd H5 te _ = H9
      have u9 := new_same e_te n_te
      have z9 := new_at e_te
      clear e_te
      refine ⟨szN 3 rfl, fun tf n_tf => ?_⟩
      generalize e_tf : upd H9 tf _ = HA
      have uA := new_same e_tf n_tf
      have zA := new_at e_tf
      clear e_tf
      have u9A := u9.trans uA
      have uAll := u3N.trans (sm.trans u9A)
      exact yes_ none s_.coming (s_.said.set k ⟨n, y⟩) s_.noted HA te tf D lb zs ys (.inl ⟨k, hk, g, rfl⟩) uAll (uA _ _ z9) (u9A _ _ eD) (RL.ts (TS.of u9A) rl) (uAll _ _ h5) (ML.ts (TS.of uAll) h6) ((na.same u3N).not nD) h8 zA
  | rem z x m =>
    have hd : H' td = some (.tup [.str "remember", .str z, .int x, .int m]) := hd
    have dok : z.length ≤ 1000 := dok
    refine ⟨.ref td, rfl, td, _, _, .str "remember", rfl, rfl, .inl (.inl hd), rfl, ?_⟩
    refine ⟨szN 2 rfl, fun tw n_tw => ?_⟩
    generalize e_tw : upd H' tw _ = H1
    have u1 := new_same e_tw n_tw
    have z1 := new_at e_tw
    clear e_tw
    refine ⟨tw, _, rfl, .inr (.inl (.inl z1)), rfl, by decide +kernel, false, by decide +kernel, iteF ?_⟩
    have hd1 := u1 _ _ hd
    refine ⟨.ref td, rfl, td, _, _, .str "remember", rfl, rfl, .inl (.inl hd1), rfl, rfl, true, sT _, iteT ?_⟩
    refine ⟨.ref td, rfl, td, _, _, .str z, rfl, rfl, .inl (.inl hd1), rfl, z, rfl, Nat.le_trans dok (by decide), rfl, _, rfl, ite2 (fun c => ?_) (fun c => ?_)⟩
    · have c : ¬ z.length = 1 := fun y => by rw [y] at c; exact absurd c (by decide)
      refine iteT ?_
      refine ⟨.ref t, rfl, ?_⟩
      refine ⟨szN 3 rfl, fun tr n_tr => ?_⟩
      generalize e_tr : upd H1 tr _ = HR
      have uR := new_same e_tr n_tr
      have zR := new_at e_tr
      clear e_tr
      exact no_ 4 HR tr (.inr (.inr (.inr ⟨fun y => c y.len, rfl⟩))) (u1.trans uR) zR
    have c : z.length = 1 := by
      by_cases y : z.length = 1
      · exact y
      · exact absurd (by rw [decide_eq_false fun w => y (by have := V.int.inj w; omega)]; rfl) c
    obtain ⟨ch, rfl⟩ := str_one c
    refine ⟨.ref td, rfl, td, _, _, .str ⟨#[ch]⟩, rfl, rfl, .inl (.inl hd1), rfl, ch, _, rfl, rfl, _, rfl, ?_⟩
    by_cases g : Ltr ⟨#[ch]⟩
    case neg =>
      rw [decide_eq_false (fun y => g (ltr_one.mpr (abc_mem.mp y)))]
      refine iteT ?_
      refine ⟨.ref t, rfl, ?_⟩
      refine ⟨szN 3 rfl, fun tr n_tr => ?_⟩
      generalize e_tr : upd H1 tr _ = HR
      have uR := new_same e_tr n_tr
      have zR := new_at e_tr
      clear e_tr
      exact no_ 4 HR tr (.inr (.inr (.inr ⟨g, rfl⟩))) (u1.trans uR) zR
    rw [decide_eq_true (abc_mem.mpr (ltr_one.mp g))]
    refine iteF ?_
    refine ⟨.int s_.size, rfl, .ref td, rfl, td, _, _, .int x, rfl, rfl, .inl (.inl hd1), rfl, .ref td, rfl, td, _, _, .int m, rfl, rfl, .inl (.inl hd1), rfl, s_.size, x, m, rfl, ?_⟩
    by_cases g2 : St_ x m s_.size
    case neg =>
      refine ⟨false, by rw [decide_eq_false g2], ?_⟩
      refine iteT ?_
      refine ⟨.ref t, rfl, ?_⟩
      refine ⟨szN 3 rfl, fun tr n_tr => ?_⟩
      generalize e_tr : upd H1 tr _ = HR
      have uR := new_same e_tr n_tr
      have zR := new_at e_tr
      clear e_tr
      exact no_ 1 HR tr (.inr (.inr (.inl ⟨g, g2, rfl⟩))) (u1.trans uR) zR
    refine ⟨true, by rw [decide_eq_true g2], ?_⟩
    refine iteF ?_
    refine ⟨.ref lb, rfl, lb, ys, rfl, .inl (.inl (.inl (u1 _ _ h5))), _, _, rfl, rfl, _, rfl, ite2 (fun c => ?_) (fun c => ?_)⟩
    · have c : (24 : Int) ≤ ys.length := of_decide_eq_true c
      refine ⟨.ref t, rfl, ?_⟩
      refine ⟨szN 3 rfl, fun tr n_tr => ?_⟩
      generalize e_tr : upd H1 tr _ = HR
      have uR := new_same e_tr n_tr
      have zR := new_at e_tr
      clear e_tr
      exact no_ 5 HR tr (.inr (.inl ⟨g, g2, by omega, rfl⟩)) (u1.trans uR) zR
    have c : ¬ (24 : Int) ≤ ys.length := fun z => c (decide_eq_true z)
    refine ⟨.int s_.coming, rfl, .int s_.size, rfl, .int s_.coming, rfl, _, _, rfl, rfl, .ref la, rfl, .ref lb, rfl, .int s_.coming, rfl, ?_⟩
    refine ⟨szN 1 rfl, fun ta n_ta => ?_⟩
    generalize e_ta : upd H1 ta _ = H4
    have u4 := new_same e_ta n_ta
    have z4 := new_at e_ta
    clear e_ta
    refine ⟨.ref td, rfl, _, rfl, td, _, rfl, .inl (.inl (u4 _ _ hd1)), (show ¬ (HT.sIx 4 0 (some 1) = 0 ∧ HT.sIx 4 4 none = 4) from by decide), ?_⟩
    intro tb n_tb
    generalize e_tb : upd H4 tb _ = H5
    have u5 := new_same e_tb n_tb
    have z5 := new_at e_tb
    clear e_tb
    have z5 : H5 tb = some (.tup [.str ⟨#[ch]⟩, .int x, .int m]) := z5
    refine ⟨ta, tb, _, _, rfl, rfl, .inl (.inl (u5 _ _ z4)), .inl (.inl z5), (fun z => nomatch z), by show 1 + 3 ≤ sizeLine; decide, (fun z => nomatch z), fun _ => ?_⟩
    intro tc n_tc
    generalize e_tc : upd H5 tc _ = H6
    have u6 := new_same e_tc n_tc
    have z6 := new_at e_tc
    clear e_tc
    have z6 : H6 tc = some (.tup [.int s_.coming, .str ⟨#[ch]⟩, .int x, .int m]) := z6
    refine ⟨szN 1 rfl, fun lc n_lc => ?_⟩
    generalize e_lc : upd H6 lc _ = H7
    have u7 := new_same e_lc n_lc
    have z7 := new_at e_lc
    clear e_lc
    have u37 := u1.trans (u4.trans (u5.trans (u6.trans u7)))
    refine ⟨lb, lc, _, _, rfl, rfl, u37 _ _ h5, z7, Nat.le_trans (show ys.length + 1 ≤ 1000 by omega) (by decide), ?_⟩
    intro ld n_ld
    generalize e_ld : upd H7 ld _ = H8
    have u8 := new_same e_ld n_ld
    have z8 := new_at e_ld
    clear e_ld
    refine ⟨szN 4 rfl, fun te n_te => ?_⟩
    generalize e_te : upd H8 te _ = H9
    have u9 := new_same e_te n_te
    have z9 := new_at e_te
    clear e_te
    refine ⟨szN 3 rfl, fun tf n_tf => ?_⟩
    generalize e_tf : upd H9 tf _ = HA
    have uA := new_same e_tf n_tf
    have zA := new_at e_tf
    clear e_tf
    have u8A := u9.trans uA
    have uAll := u37.trans (u8.trans u8A)
    exact yes_ (some s_.coming) (s_.coming + 1) s_.said (s_.noted ++ [⟨s_.coming, ⟨#[ch]⟩, x, m⟩]) HA te tf la ld xs _ (.inl ⟨g, g2, by omega, rfl⟩) uAll (uA _ _ z9) (uAll _ _ h3) (RL.ts (TS.of uAll) h4) (u8A _ _ z8) ((ML.ts (TS.of uAll) h6).snoc ⟨tc, rfl, (u7.trans (u8.trans u8A)) _ _ z6⟩) h7 ((na.same u37).not n_ld) zA
  | longer m => cases lk
  | shorter m => cases lk
end
end Rep
namespace Rep
open PySem L2 L2H RepHot
/-! the law's model -/
def mdK (tv : V) (pa aa : Addr) : List (Key × V) := [(.inr "now", tv), (.inr "past", .ref pa), (.inr "ahead", .ref aa)]
theorem kk : ¬ ((Sum.inr ("now" : Str) : Key) = (Sum.inr ("past" : Str) : Key)) ∧ ¬ ((Sum.inr ("now" : Str) : Key) = (Sum.inr ("ahead" : Str) : Key)) ∧ ¬ ((Sum.inr ("past" : Str) : Key) = (Sum.inr ("ahead" : Str) : Key)) := by decide +kernel
theorem md_now (tv : V) (pa aa : Addr) : valV (mdK tv pa aa) (Sum.inr "now") = some tv := valV_pos rfl
theorem md_past (tv : V) (pa aa : Addr) : valV (mdK tv pa aa) (Sum.inr "past") = some (.ref pa) := by unfold mdK; rw [valV_neg kk.1]; exact valV_pos rfl
theorem md_ahead (tv : V) (pa aa : Addr) : valV (mdK tv pa aa) (Sum.inr "ahead") = some (.ref aa) := by unfold mdK; rw [valV_neg kk.2.1, valV_neg kk.2.2]; exact valV_pos rfl
theorem put_now (tv tv' : V) (pa aa : Addr) : putK (mdK tv pa aa) (Sum.inr "now") tv' = mdK tv' pa aa := by
  unfold putK mdK
  rw [if_pos (by simp)]
  show (if _ then _ else _) :: (if _ then _ else _) :: (if _ then _ else _) :: [] = _
  rw [if_pos rfl, if_neg (fun z => kk.1 z.symm), if_neg (fun z => kk.2.1 z.symm)]
theorem put_ahead (tv : V) (pa aa aa' : Addr) : putK (mdK tv pa aa) (Sum.inr "ahead") (.ref aa') = mdK tv pa aa' := by
  unfold putK mdK
  rw [if_pos (by simp)]
  show (if _ then _ else _) :: (if _ then _ else _) :: (if _ then _ else _) :: [] = _
  rw [if_neg kk.2.1, if_neg kk.2.2, if_pos rfl]
theorem LL.tr {α : Type} {D D' : Hp → V → α → Prop} {H H' : Hp} {vs : List V} {as : List α} (h : LL D H vs as) (s : ∀ v a, D H v a → D' H' v a) : LL D' H' vs as := ⟨h.len, fun i v a h1 h2 => s v a (h.at_ i v a h1 h2)⟩
def Nn (X : Addr → Prop) (pa aa : Addr) : Addr → Prop := fun a => a = pa ∨ a = aa ∨ X a
/-- lists that are there -/
def NX (X : Addr → Prop) (H : Hp) : Prop := ∀ a, X a → ∃ us, H a = some (.lst us)
/-- lists stay lists -/
def Kin (H H' : Hp) : Prop := ∀ c us, H c = some (.lst us) → ∃ us', H' c = some (.lst us')
theorem Kin.of {H H' : Hp} (s : Same H H') : Kin H H' := fun c us e => ⟨us, s _ _ e⟩
theorem Kin.trans {H H1 H2 : Hp} (a : Kin H H1) (b : Kin H1 H2) : Kin H H2 := fun c us e => by obtain ⟨us1, e1⟩ := a c us e; exact b c us1 e1
theorem NX.kin {X : Addr → Prop} {H H' : Hp} (h : NX X H) (k : Kin H H') : NX X H' := fun a z => by obtain ⟨us, e⟩ := h a z; exact k a us e
theorem NX.same {X : Addr → Prop} {H H' : Hp} (h : NX X H) (s : Same H H') : NX X H' := h.kin (.of s)
theorem NX.na {X : Addr → Prop} {H : Hp} (h : NX X H) : NA X H := fun a z => by obtain ⟨us, e⟩ := h a z; exact ⟨_, e⟩
theorem nx0 {H : Hp} : NX (fun _ => False) H := fun a z => z.elim
structure MdAt (X : Addr → Prop) (pa aa : Addr) (H : Hp) (m : Addr) (past : List Sht) (now : Sht) (ahead : List Sht) : Prop where
  ex : ∃ (tv : V) (ps as : List V), H m = some (.dK (mdK tv pa aa)) ∧ StAt (Nn X pa aa) H tv now ∧ H pa = some (.lst ps) ∧ LL (StAt (Nn X pa aa)) H ps past ∧ H aa = some (.lst as) ∧ LL (StAt (Nn X pa aa)) H as ahead ∧ pa ≠ aa
theorem MdAt.same {X : Addr → Prop} {pa aa m : Addr} {H H' : Hp} {past ahead : List Sht} {now : Sht} (h : MdAt X pa aa H m past now ahead) (s : Same H H') : MdAt X pa aa H' m past now ahead := by
  obtain ⟨tv, ps, as, h1, h2, h3, h4, h5, h6, h7⟩ := h.ex
  exact ⟨tv, ps, as, s _ _ h1, h2.same s, s _ _ h3, h4.imp fun _ _ z => z.same s, s _ _ h5, h6.imp fun _ _ z => z.same s, h7⟩
theorem MdAt.sam {X : Addr → Prop} {BK : Addr} {pa aa m b dx : Addr} {fs : List (Str × V)} {H H' : Hp} {past ahead : List Sht} {now : Sht} (h : MdAt X pa aa H m past now ahead) (s : Sam b H H') (hb : H b = some (.ins BK dx fs)) : MdAt X pa aa H' m past now ahead := by
  obtain ⟨tv, ps, as, h1, h2, h3, h4, h5, h6, h7⟩ := h.ex
  have kp : Kp (BK + 1) (Nn X pa aa) H H' := .sam s hb (Nat.succ_ne_self BK).symm
  have ne : ∀ {c : Addr} {o : HO}, H c = some o → (∀ C dx fs, o ≠ .ins C dx fs) → H' c = some o := fun {c o} e z => s _ _ e fun y => by rw [y, hb] at e; exact z _ _ _ (Option.some.inj e).symm
  exact ⟨tv, ps, as, ne h1 (fun _ _ _ z => by cases z), h2.kp kp, ne h3 (fun _ _ _ z => by cases z), h4.imp fun _ _ z => z.kp kp, ne h5 (fun _ _ _ z => by cases z), h6.imp fun _ _ z => z.kp kp, h7⟩
theorem Kp.lst {S c : Addr} {N : Addr → Prop} {H : Hp} {xs : List V} {o : HO} (hn : N c) (e : H c = some (.lst xs)) : Kp S N H (upd H c o) := fun b x eb w => by
  by_cases z : b = c
  · subst z
    rw [e] at eb
    cases eb
    exact absurd hn w
  · rw [upd_ne z]; exact eb
theorem Kp.dk {S c : Addr} {N : Addr → Prop} {H : Hp} {kv : List (Key × V)} {o : HO} (e : H c = some (.dK kv)) : Kp S N H (upd H c o) := fun b x eb w => by
  by_cases z : b = c
  · subst z
    rw [e] at eb
    cases eb
    exact absurd w id
  · rw [upd_ne z]; exact eb
/-- only the model's own changes -/
def FrM (m pa aa : Addr) (H H' : Hp) : Prop := ∀ c o, H c = some o → c ≠ m → c ≠ pa → c ≠ aa → H' c = some o
theorem FrM.of {m pa aa : Addr} {H H' : Hp} (s : Same H H') : FrM m pa aa H H' := fun c o e _ _ _ => s _ _ e
theorem FrM.then {m pa aa : Addr} {H H1 H2 : Hp} (f : FrM m pa aa H H1) (s : Same H1 H2) : FrM m pa aa H H2 := fun c o e a b d => s _ _ (f c o e a b d)
theorem FrM.upd {m pa aa c : Addr} {H H1 : Hp} {o : HO} (f : FrM m pa aa H H1) (hc : c = m ∨ c = pa ∨ c = aa) : FrM m pa aa H (upd H1 c o) := fun x p e a b d => by
  rw [upd_ne (fun z => by subst z; rcases hc with z | z | z <;> contradiction)]; exact f x p e a b d
abbrev Res := Nat ⊕ (Option Int × List Sht × Sht × List Sht)
def wordR : Res → Str
  | .inl j => kinWord j
  | .inr _ => ""
def toldR : Res → V
  | .inl _ => .non
  | .inr (o, _) => oV' o
def resB (past : List Sht) (now : Sht) (ahead : List Sht) : Res → List Sht × Sht × List Sht
  | .inl _ => (past, now, ahead)
  | .inr (_, x) => x
def liftR (past : List Sht) (now : Sht) : Nat ⊕ (Option Int × Sht) → Res
  | .inl j => .inl j
  | .inr (o, s') => .inr (o, past ++ [now], s', [])
def RStp (past : List Sht) (now : Sht) (ahead : List Sht) : De → Res → Prop
  | .dd d, r => ∃ r0, Stp now d r0 ∧ r = liftR past now r0
  | .undo, r => (past = [] ∧ r = .inl 7) ∨ (∃ p x, past = p ++ [x] ∧ r = .inr (none, p, x, ahead ++ [now]))
  | .redo, r => (ahead = [] ∧ r = .inl 7) ∨ (∃ a x, ahead = a ++ [x] ∧ r = .inr (none, past ++ [now], x, a))
def deOk : De → Prop
  | .dd d => ddOk d
  | _ => True
def spDm : Sp := fun vs H Q _ => ∃ (X : Addr → Prop) (m pa aa : Addr) (dv : V) (past : List Sht) (now : Sht) (ahead : List Sht) (de : De), vs = [.ref m, dv] ∧ MdAt X pa aa H m past now ahead ∧ DeAt H dv de ∧ deOk de ∧ Wf now ∧ (∀ s ∈ past, Wf s) ∧ (∀ s ∈ ahead, Wf s) ∧ past.length + ahead.length ≤ 900 ∧ NX X H ∧
  ∀ r, RStp past now ahead de r → ∀ H' t aa', FrM m pa aa H H' → (∃ us, H' aa = some (.lst us)) → (aa' = aa ∨ H aa' = none) → MdAt X pa aa' H' m (resB past now ahead r).1 (resB past now ahead r).2.1 (resB past now ahead r).2.2 → H' t = some (.tup [.str (wordR r), toldR r]) → Q (.ref t) H'
theorem upd_none {H : Hp} {c x : Addr} {o : HO} (e : upd H c o x = none) : H x = none := by
  by_cases z : x = c
  · subst z; rw [upd_same] at e; cases e
  · rw [upd_ne z] at e; exact e
theorem stp_no {s : Sht} {d : Dd} {j : Nat} (h : Stp s d (.inl j)) : ¬ kinWord j = "" := by
  have hj : j = 0 ∨ j = 1 ∨ j = 3 ∨ j = 4 ∨ j = 5 ∨ j = 6 := by
    cases d with
    | say y => rcases h with ⟨_, _, h⟩ | ⟨_, _, h⟩ | ⟨_, h⟩ <;> cases h <;> simp
    | unsay n => rcases h with ⟨_, _, h⟩ | ⟨_, h⟩ <;> cases h <;> simp
    | amend n y => rcases h with ⟨_, _, _, h⟩ | ⟨_, _, _, h⟩ | ⟨_, h⟩ <;> cases h <;> simp
    | rem z x m => rcases h with ⟨_, _, _, h⟩ | ⟨_, _, _, h⟩ | ⟨_, _, h⟩ | ⟨_, h⟩ <;> cases h <;> simp
    | forget n => rcases h with ⟨_, _, h⟩ | ⟨_, h⟩ <;> cases h <;> simp
    | longer m => rcases h with ⟨_, _, h⟩ | ⟨_, h⟩ <;> cases h <;> simp
    | shorter m => rcases h with ⟨_, _, _, h⟩ | ⟨_, _, _, h⟩ | ⟨_, h⟩ <;> cases h <;> simp
  rcases hj with rfl | rfl | rfl | rfl | rfl | rfl <;> decide +kernel
/-! states as data -/
def meD' (m : Me) : PyData := .tuple [.int m.num, .str m.lt, .int m.at_, .int m.n]
theorem dpAll_me' {K : PySem.W.Frag} {H : Hp} : ∀ {vs : List V} {ms : List Me}, ML H vs ms → DpAll K H vs (ms.map meD')
  | [], [], _ => .nil
  | [], _ :: _, h => by have := h.len; simp at this
  | _ :: _, [], h => by have := h.len; simp at this
  | v :: vs, m :: ms, h => .cons (by obtain ⟨t, rfl, ht⟩ := h.at_ 0 v m rfl rfl
                                     exact .tup (.inl (.inl ht)) (.cons (.int _) (.cons (.str _) (.cons (.int _) (.cons (.int _) .nil))))) (dpAll_me' ⟨by have := h.len; simpa using this, fun i w u h1 h2 => h.at_ (i + 1) w u h1 h2⟩)
theorem canMe' : ∀ ms : List Me, (∀ m ∈ ms, Ltr m.lt) → PyData.canLayAll0 (ms.map meD') = true
  | [], _ => rfl
  | m :: r, h => by
    have hs : PyData.canLay0 (.str m.lt) = true := by
      obtain ⟨c, ec, _, hc⟩ := h m List.mem_cons_self
      rw [ec]
      show (#[c].all fun x => decide (x < 0x110000)) = true
      simp
      omega
    show ((true && (PyData.canLay0 (.str m.lt) && (true && (true && true)))) && PyData.canLayAll0 (r.map meD')) = true
    rw [canMe' r fun x hx => h x (List.mem_cons_of_mem _ hx), hs]; rfl
theorem depMe' : ∀ ms : List Me, PyData.depthAll (ms.map meD') ≤ 1
  | [] => Nat.zero_le _
  | _ :: r => by
    show max 1 (PyData.depthAll (r.map meD')) ≤ 1
    have := depMe' r
    omega
def stD (s : Sht) : PyData := .tuple [.int s.size, .int s.coming, .list (s.said.map rwD), .list (s.noted.map meD')]
theorem dpAll_st {K : PySem.W.Frag} {N : Addr → Prop} {H : Hp} : ∀ {vs : List V} {ss : List Sht}, LL (StAt N) H vs ss → DpAll K H vs (ss.map stD)
  | [], [], _ => .nil
  | [], _ :: _, h => by have := h.len; simp at this
  | _ :: _, [], h => by have := h.len; simp at this
  | v :: vs, m :: ms, h => .cons (by obtain ⟨t, la, lb, xs, ys, rfl, h2, h3, h4, h5, h6, h7, h8⟩ := (h.at_ 0 v m rfl rfl).ex
                                     exact .tup (.inl (.inl h2)) (.cons (.int _) (.cons (.int _) (.cons (.lst (.inl (.inl h3)) (dpAll_rw h4)) (.cons (.lst (.inl (.inl h5)) (dpAll_me' h6)) .nil))))) (dpAll_st ⟨by have := h.len; simpa using this, fun i w u h1 h2 => h.at_ (i + 1) w u h1 h2⟩)
theorem canSt : ∀ ss : List Sht, (∀ s ∈ ss, Wf s) → PyData.canLayAll0 (ss.map stD) = true
  | [], _ => rfl
  | s :: r, h => by
    show ((true && (true && (PyData.canLayAll0 (s.said.map rwD) && (PyData.canLayAll0 (s.noted.map meD') && true)))) && PyData.canLayAll0 (r.map stD)) = true
    rw [canSt r fun x hx => h x (List.mem_cons_of_mem _ hx), canRw, canMe' s.noted (h s List.mem_cons_self).lt]; rfl
theorem depSt : ∀ ss : List Sht, PyData.depthAll (ss.map stD) ≤ 3
  | [] => Nat.zero_le _
  | s :: r => by
    show max (max 0 (max 0 (max (PyData.depthAll (s.said.map rwD) + 1) (max (PyData.depthAll (s.noted.map meD') + 1) 0))) + 1) (PyData.depthAll (r.map stD)) ≤ 3
    have h1 := depSt r
    have h2 := depRw s.said
    have h3 := depMe' s.noted
    omega
theorem shapedSt (ss : List Sht) (h : ∀ s ∈ ss, Wf s) : SeqAt.shaped (.list (ss.map stD)) = true := by
  unfold SeqAt.shaped
  have e : PyData.canLay0 (.list (ss.map stD)) = true := canSt ss h
  rw [e]
  refine decide_eq_true ?_
  show PyData.depthAll (ss.map stD) + 1 ≤ 64
  have := depSt ss
  omega
theorem scLdm : FnScope ["_law_book_here", "_law_deed_here", "_law_take", "_law_give", "_law_word", "_law_told", "_law_state"] ["_law_book_here", "_law_deed_here"] (defScope s_law_do_model) := ⟨rfl, rfl, rfl, by decide +kernel, rfl, by decide +kernel, by decide +kernel⟩
structure TDm (Pg : Program) (w : World) (K : PySem.W.Frag) (mg : Str → Option Value) (base : Heap) (fLn fRn : Addr) (fdLn fdRn : FuncData) : Prop where
  gLn : FnOk Pg w K mg base CX0 9 fLn fdLn ["_law_state", "_law_deed_here"] (spNx true)
  bLn : Binds K fdLn ["_law_state", "_law_deed_here"] []
  kLn : PySem.W.keepIn K (.ref fLn) = true
  mLn : mg "_law_length_next" = some (.ref fLn)
  gRn : FnOk Pg w K mg base CX0 9 fRn fdRn ["_law_state", "_law_deed_here"] (spNx false)
  bRn : Binds K fdRn ["_law_state", "_law_deed_here"] []
  kRn : PySem.W.keepIn K (.ref fRn) = true
  mRn : mg "_law_row_next" = some (.ref fRn)
  mI : mg "int" = none
theorem snoc_of {α : Type} {l : List α} (h : l ≠ []) : ∃ p x, l = p ++ [x] := ⟨l.dropLast, l.getLast h, (List.dropLast_concat_getLast h).symm⟩
section
variable {Pg : Program} {w : World} {K : PySem.W.Frag} {mg : Str → Option Value} {base : Heap} {fLn fRn : Addr} {fdLn fdRn : FuncData}
theorem ok_ldm {f : Addr} {fd : FuncData} (F : Fun K "_law_do_model" "_law_do_model" s_law_do_model f fd) (T : TDm Pg w K mg base fLn fRn fdLn fdRn) : FnOk Pg w K mg base CX0 10 f fd ["_law_book_here", "_law_deed_here"] spDm := by
  refine F.ok scLdm (fun vs H Q E h => ?_) (fun cdv A outer s H vs Q E hr h => ?_)
  · obtain ⟨X, m, pa, aa, dv, past, now, ahead, de, rfl, _⟩ := h; rfl
  obtain ⟨X, m, pa, aa, dv, past, now, ahead, de, rfl, md, ⟨td, rfl, hd⟩, dok, wn, wp, wa, ln, nx, q⟩ := h
  have r9 : Room 9 _ := hr
  have hu := hu_of hr
  refine ⟨_, (pss_cons (ps_if (pt_cmpR op_in_seq (pe_ix ix_tup (pv 1) pe_int (fun _ _ => rfl)) (pe_tup (pa_cons pe_str (pa_cons pe_str pa_nil))) (by rfl)) (pss_cons (ps_asg (pe_ix ix_list (pe_lst (pa_cons (pe_tup (pa_cons pe_str (pa_cons pe_str pa_nil))) (pa_cons (pe_tup (pa_cons pe_str (pa_cons pe_str pa_nil))) pa_nil))) (pe_callTy call_int1 (by rfl) T.mI PyProof.Rows.boot_int (pa_cons (pe_cmpR op_eq (pe_ix ix_tup (pv 1) pe_int (fun _ _ => rfl)) pe_str (nomark _)) pa_nil)) (fun _ _ => rfl)) (pg_tup rfl (pgs_cons (pg_name (i := 2) scLdm.nd rfl (.inl rfl)) (pgs_cons (pg_name (i := 3) scLdm.nd rfl (.inl rfl)) pgs_nil))))
    (pss_cons (ps_if (pt_cmpR (op_eqD hr.units) (pe_dget hu (pv 0) (pv 2) (fun _ _ => rfl)) (pe_lst pa_nil) (nomark _)) (pss_one (ps_ret (pe_tup (pa_cons pe_str (pa_cons pe_non pa_nil))))) pss_nil)
    (pss_cons (ps_expr (pe_bm PySem.F.plainAttrs_list PySem.F.slot_list_append PySem.F.type_list_append mt_append (pe_dget hu (pv 0) (pv 3) (fun _ _ => rfl)) (pa_cons (pe_dget hu (pv 0) pe_str (fun _ _ => rfl)) pa_nil)))
    (pss_cons (ps_dput hu (pv 0) pe_str (pe_bm0 PySem.F.plainAttrs_list PySem.F.slot_list_pop PySem.F.type_list_pop mt_pop (pe_dget hu (pv 0) (pv 2) (fun _ _ => rfl))) rfl)
    (pss_one (ps_ret (pe_tup (pa_cons pe_str (pa_cons pe_non pa_nil))))))))) pss_nil)
    (C8.pss_cut (ps_if (pt_cmpR op_in_seq (pe_ix ix_tup (pv 1) pe_int (fun _ _ => rfl)) (pe_tup (pa_cons pe_str (pa_cons pe_str pa_nil))) (by rfl)) (pss_one (ps_asg (pe_call T.gLn r9 (by rfl) T.mLn T.kLn T.bLn .nil pass0 (pa_cons (pe_dget hu (pv 0) pe_str (fun _ _ => rfl)) (pa_cons (pv 1) pa_nil))) (pg_tup rfl (pgs_cons (pg_name (i := 4) scLdm.nd rfl (.inl rfl)) (pgs_cons (pg_name (i := 5) scLdm.nd rfl (.inl rfl)) (pgs_cons (pg_name (i := 6) scLdm.nd rfl (.inl rfl)) pgs_nil)))))) (pss_one (ps_asg (pe_call T.gRn r9 (by rfl) T.mRn T.kRn T.bRn .nil pass0 (pa_cons (pe_dget hu (pv 0) pe_str (fun _ _ => rfl)) (pa_cons (pv 1) pa_nil))) (pg_tup rfl (pgs_cons (pg_name (i := 4) scLdm.nd rfl (.inl rfl)) (pgs_cons (pg_name (i := 5) scLdm.nd rfl (.inl rfl)) (pgs_cons (pg_name (i := 6) scLdm.nd rfl (.inl rfl)) pgs_nil)))))))
    (C8.pss_cut (ps_if (pt_cmpR op_eq (pv 4) pe_str (nomark _)) (pss_cons (ps_expr (pe_bm PySem.F.plainAttrs_list PySem.F.slot_list_append PySem.F.type_list_append mt_append (pe_dget hu (pv 0) pe_str (fun _ _ => rfl)) (pa_cons (pe_dget hu (pv 0) pe_str (fun _ _ => rfl)) pa_nil)))
    (pss_cons (ps_dput hu (pv 0) pe_str (pe_lst pa_nil) rfl)
    (pss_one (ps_dput hu (pv 0) pe_str (pv 6) rfl)))) pss_nil)
    (pss_one (ps_ret (pe_tup (pa_cons (pv 4) (pa_cons (pv 5) pa_nil)))))))), ?_⟩
  obtain ⟨tv, ps, as, h1, h2, h3, h4, h5, h6, h7⟩ := md.ex
  have pl := h4.len
  have al := h6.len
  have nmp : m ≠ pa := fun z => by rw [z, h3] at h1; cases h1
  have nma : m ≠ aa := fun z => by rw [z, h5] at h1; cases h1
  have na : NA (Nn X pa aa) H := fun a z => by
    rcases z with rfl | rfl | z
    · exact ⟨_, h3⟩
    · exact ⟨_, h5⟩
    · exact nx.na _ z
  cases de with
  | dd d =>
    obtain ⟨W, rest, ed, e1, e2⟩ : ∃ (W : Str) (rest : List V), ddV d = .str W :: rest ∧ inV (.str W) [.str "undo", .str "redo"] = false ∧ inV (.str W) [.str "lengthen", .str "shorten"] = lenK d := by
      cases d <;> exact ⟨_, _, rfl, by decide +kernel, by first | exact (show inV _ _ = true from by decide +kernel) | exact (show inV _ _ = false from by decide +kernel)⟩
    have hd' : H td = some (.tup (.str W :: rest)) := by rw [hd]; show some (HO.tup (ddV d)) = _; rw [ed]
    refine ⟨.ref td, rfl, td, _, _, .str W, rfl, rfl, .inl (.inl hd'), atI_0 _ _, ?_⟩
    refine ⟨szN 2 rfl, fun tw n_tw => ?_⟩
    generalize e_tw : upd H tw _ = H1
    have u1 := new_same e_tw n_tw
    have z1 := new_at e_tw
    clear e_tw
    refine ⟨tw, _, rfl, .inr (.inl (.inl z1)), rfl, rfl, false, by show V.bl (inV _ _) = _; rw [e1], iteF ?_⟩
    refine ⟨fun σ' H' => ∃ r0 v1, Stp now d r0 ∧ σ' = [some (.ref m), some (.ref td), none, none, some (.str (w0 r0)), some (t0 r0), some v1] ∧ Same H H' ∧ StAt (Nn X pa aa) H' v1 (s0 now r0), ?_, ?_⟩
    · refine ⟨.ref td, rfl, td, _, _, .str W, rfl, rfl, .inl (.inl (u1 _ _ hd')), atI_0 _ _, ?_⟩
      refine ⟨szN 2 rfl, fun tx n_tx => ?_⟩
      generalize e_tx : upd H1 tx _ = H2
      have u2 := new_same e_tx n_tx
      have z2 := new_at e_tx
      clear e_tx
      have u12 := u1.trans u2
      refine ⟨tx, _, rfl, .inr (.inl (.inl z2)), rfl, rfl, lenK d, by show V.bl (inV _ _) = _; rw [e2], ?_⟩
      have dg : DGet H2 m (.str "now") (some tv) := .inl ⟨_, .inr "now", .inl (u12 _ _ h1), rfl, (md_now tv pa aa).symm⟩
      cases lk : lenK d with
      | true =>
        refine iteT ?_
        refine ⟨.ref m, rfl, m, tv, rfl, dg, .ref td, rfl, tv, .ref td, Nn X pa aa, now, d, rfl, h2.same u12, ⟨td, rfl, u12 _ _ hd⟩, dok, na.same u12, wn, lk, fun r0 hr0 => ?_⟩
        intro H3 t1 v1 u3 z3 st3
        exact ⟨t1, _, rfl, .inl (.inl z3), rfl, _, _, rfl, _, _, rfl, _, _, rfl, rfl, r0, v1, hr0, rfl, u12.trans u3, st3⟩
      | false =>
        refine iteF ?_
        refine ⟨.ref m, rfl, m, tv, rfl, dg, .ref td, rfl, tv, .ref td, Nn X pa aa, now, d, rfl, h2.same u12, ⟨td, rfl, u12 _ _ hd⟩, dok, na.same u12, wn, lk, fun r0 hr0 => ?_⟩
        intro H3 t1 v1 u3 z3 st3
        exact ⟨t1, _, rfl, .inl (.inl z3), rfl, _, _, rfl, _, _, rfl, _, _, rfl, rfl, r0, v1, hr0, rfl, u12.trans u3, st3⟩
    rintro σ' H3 ⟨r0, v1, hr0, rfl, u3, st3⟩
    refine ⟨fun σ' H' => σ' = [some (.ref m), some (.ref td), none, none, some (.str (w0 r0)), some (t0 r0), some v1] ∧ ∃ aa', FrM m pa aa H H' ∧ (∃ us, H' aa = some (.lst us)) ∧ (aa' = aa ∨ H aa' = none) ∧ MdAt X pa aa' H' m (resB past now ahead (liftR past now r0)).1 (resB past now ahead (liftR past now r0)).2.1 (resB past now ahead (liftR past now r0)).2.2, ?_, ?_⟩
    · cases r0 with
      | inl j =>
        refine ⟨.str (kinWord j), rfl, rfl, false, sF (stp_no hr0), iteF ?_⟩
        exact ⟨rfl, aa, .of u3, ⟨_, u3 _ _ h5⟩, .inl rfl, md.same u3⟩
      | inr x =>
        obtain ⟨o, s'⟩ := x
        refine ⟨.str "", rfl, rfl, true, sT _, iteT ?_⟩
        have k1 := u3 _ _ h1
        have dgp : DGet H3 m (.str "past") (some (.ref pa)) := .inl ⟨_, .inr "past", .inl k1, rfl, (md_past tv pa aa).symm⟩
        have dgn : DGet H3 m (.str "now") (some tv) := .inl ⟨_, .inr "now", .inl k1, rfl, (md_now tv pa aa).symm⟩
        refine ⟨.ref m, rfl, m, .ref pa, rfl, dgp, .inl ⟨rfl, _, .inl (.inl (u3 _ _ h3))⟩, .ref m, rfl, m, tv, rfl, dgn, pa, ps, tv, rfl, rfl, u3 _ _ h3, Nat.lt_of_le_of_lt (show ps.length ≤ 1000 by omega) (by decide), ?_⟩
        have kp4 : Kp 0 (Nn X pa aa) H3 (upd H3 pa (.lst (ps ++ [tv]))) := .lst (.inl rfl) (u3 _ _ h3)
        have f4 : FrM m pa aa H (upd H3 pa (.lst (ps ++ [tv]))) := (FrM.of u3).upd (.inr (.inl rfl))
        have z4 : upd H3 pa (.lst (ps ++ [tv])) pa = some (.lst (ps ++ [tv])) := upd_same
        have k4 : upd H3 pa (.lst (ps ++ [tv])) m = some (.dK (mdK tv pa aa)) := by rw [upd_ne nmp]; exact k1
        have fr4 : ∀ x, upd H3 pa (.lst (ps ++ [tv])) x = none → H3 x = none := fun x e => upd_none e
        have a4 : upd H3 pa (.lst (ps ++ [tv])) aa = some (.lst as) := by rw [upd_ne h7.symm]; exact u3 _ _ h5
        generalize upd H3 pa (.lst (ps ++ [tv])) = H4 at kp4 f4 z4 k4 fr4 a4 ⊢
        refine ⟨szN 0 rfl, fun l0 n_l0 => ?_⟩
        generalize e_l0 : upd H4 l0 _ = H5
        have u5 := new_same e_l0 n_l0
        have z5 := new_at e_l0
        clear e_l0
        refine ⟨.ref m, rfl, m, _, rfl, DPut.k (k := Sum.inr "ahead") (u5 _ _ k4) (by show 3 < sizeLine; decide), ?_⟩
        rw [put_ahead]
        have kp6 : Kp 0 (Nn X pa aa) H5 (upd H5 m (.dK (mdK tv pa l0))) := .dk (u5 _ _ k4)
        have f6 : FrM m pa aa H (upd H5 m (.dK (mdK tv pa l0))) := (f4.then u5).upd (.inl rfl)
        have k6 : upd H5 m (.dK (mdK tv pa l0)) m = some (.dK (mdK tv pa l0)) := upd_same
        have nm0 : m ≠ l0 := fun z => by rw [← z, k4] at n_l0; cases n_l0
        have z6 : upd H5 m (.dK (mdK tv pa l0)) pa = some (.lst (ps ++ [tv])) := by rw [upd_ne nmp.symm]; exact u5 _ _ z4
        have y6 : upd H5 m (.dK (mdK tv pa l0)) l0 = some (.lst []) := by rw [upd_ne nm0.symm]; exact z5
        have kq6 : Kp 0 (Nn X pa l0) H5 (upd H5 m (.dK (mdK tv pa l0))) := .dk (u5 _ _ k4)
        have a6 : upd H5 m (.dK (mdK tv pa l0)) aa = some (.lst as) := by rw [upd_ne nma.symm]; exact u5 _ _ a4
        generalize upd H5 m (.dK (mdK tv pa l0)) = H6 at kp6 kq6 f6 k6 z6 y6 a6 ⊢
        refine ⟨v1, rfl, .ref m, rfl, m, _, rfl, DPut.k (k := Sum.inr "now") k6 (by show 3 < sizeLine; decide), ?_⟩
        rw [put_now]
        have kp7 : Kp 0 (Nn X pa aa) H6 (upd H6 m (.dK (mdK v1 pa l0))) := .dk k6
        have f7 : FrM m pa aa H (upd H6 m (.dK (mdK v1 pa l0))) := f6.upd (.inl rfl)
        have n03 := fr4 _ n_l0
        have n0 : H l0 = none := Same.free u3 n03
        have na0 : aa ≠ l0 := fun z => by rw [z, n0] at h5; cases h5
        have a7 : upd H6 m (.dK (mdK v1 pa l0)) aa = some (.lst as) := by rw [upd_ne nma.symm]; exact a6
        have np0 : pa ≠ l0 := fun z => by rw [← z, z4] at n_l0; cases n_l0
        have mo : ∀ {v : V} {x : Sht}, StAt (Nn X pa aa) H4 v x → StAt (Nn X pa l0) H4 v x := fun h => h.more fun a us z e => by
          rcases z with z | z | z
          · exact .inl z
          · rw [z, n_l0] at e; cases e
          · exact .inr (.inr z)
        have kq5 : Kp 0 (Nn X pa l0) H4 H5 := .of u5
        have y7 : upd H6 m (.dK (mdK v1 pa l0)) l0 = some (.lst []) := by rw [upd_ne nm0.symm]; exact y6
        have z7 : upd H6 m (.dK (mdK v1 pa l0)) pa = some (.lst (ps ++ [tv])) := by rw [upd_ne nmp.symm]; exact z6
        have up : ∀ {v : V} {x : Sht}, StAt (Nn X pa aa) H3 v x → StAt (Nn X pa l0) (upd H6 m (.dK (mdK v1 pa l0))) v x := fun h => (((mo (h.kp kp4)).kp kq5).kp kq6).kp (Kp.dk (S := 0) k6)
        refine ⟨rfl, l0, f7, ⟨as, a7⟩, .inr n0, v1, ps ++ [tv], [], upd_same, up st3, z7, LL.snoc (h4.tr fun _ _ z => up (z.same u3)) (up (h2.same u3)), y7, LL.nil, np0⟩
    rintro σ' H4 ⟨rfl, aa', f4, ⟨us4, a4⟩, ha, md4⟩
    refine ⟨.str (w0 r0), rfl, t0 r0, rfl, ?_⟩
    refine ⟨szN 2 rfl, fun tr n_tr => ?_⟩
    generalize e_tr : upd H4 tr _ = H5
    have u5 := new_same e_tr n_tr
    have z5 := new_at e_tr
    clear e_tr
    refine q (liftR past now r0) ⟨r0, hr0, rfl⟩ H5 tr aa' (f4.then u5) ⟨us4, u5 _ _ a4⟩ ha (md4.same u5) ?_
    rw [z5]
    cases r0 <;> rfl
  | undo =>
    have hd : H td = some (.tup [.str "undo"]) := hd
    refine ⟨.ref td, rfl, td, _, _, .str "undo", rfl, rfl, .inl (.inl hd), rfl, ?_⟩
    refine ⟨szN 2 rfl, fun tw n_tw => ?_⟩
    generalize e_tw : upd H tw _ = H1
    have u1 := new_same e_tw n_tw
    have z1 := new_at e_tw
    clear e_tw
    refine ⟨tw, _, rfl, .inr (.inl (.inl z1)), rfl, by decide +kernel, true, by decide +kernel, iteT ?_⟩
    refine ⟨szN 2 rfl, fun ta n_ta => ?_⟩
    generalize e_ta : upd H1 ta _ = H2
    have u2 := new_same e_ta n_ta
    have z2 := new_at e_ta
    clear e_ta
    refine ⟨szN 2 rfl, fun tb n_tb => ?_⟩
    generalize e_tb : upd H2 tb _ = H3
    have u3 := new_same e_tb n_tb
    have z3 := new_at e_tb
    clear e_tb
    refine ⟨szN 2 rfl, fun tl n_tl => ?_⟩
    generalize e_tl : upd H3 tl _ = H4
    have u4 := new_same e_tl n_tl
    have z4 := new_at e_tl
    clear e_tl
    have u14 := u1.trans (u2.trans (u3.trans u4))
    refine ⟨.ref td, rfl, td, _, _, .str "undo", rfl, rfl, .inl (.inl (u14 _ _ hd)), rfl, rfl, .inr ⟨_, rfl, ?_⟩⟩
    rw [show decide (V.str "undo" = V.str "redo") = false by decide +kernel]
    refine ⟨tl, _, _, .ref ta, rfl, rfl, .inl (.inl z4), rfl, ta, _, rfl, .inl (.inl ((u3.trans u4) _ _ z2)), rfl, _, _, rfl, _, _, rfl, rfl, ?_⟩
    have k1 := u14 _ _ h1
    have dgt : DGet H4 m (.str "past") (some (.ref pa)) := .inl ⟨_, .inr "past", .inl k1, rfl, (md_past tv pa aa).symm⟩
    refine ⟨.ref m, rfl, .str "past", rfl, m, .ref pa, rfl, dgt, ?_⟩
    refine ⟨szN 0 rfl, fun l0 n_l0 => ?_⟩
    generalize e_l0 : upd H4 l0 _ = H5
    have u5 := new_same e_l0 n_l0
    have z5 := new_at e_l0
    clear e_l0
    have u := u14.trans u5
    refine ⟨_, .list [], .lst (.inl (.inl (u _ _ h3))) (dpAll_st (h4.imp fun _ _ z => z.same u)), .lst (.inl (.inl z5)) .nil, shapedSt _ wp, by decide +kernel, _, rfl, ?_⟩
    rw [eqv_nilL, List.isEmpty_map]
    by_cases c : past = []
    · rw [show past.isEmpty = true from by rw [c]; rfl]
      refine iteT ?_
      refine ⟨szN 2 rfl, fun tr n_tr => ?_⟩
      generalize e_tr : upd H5 tr _ = H6
      have u6 := new_same e_tr n_tr
      have z6 := new_at e_tr
      clear e_tr
      exact q (.inl 7) (.inl ⟨c, rfl⟩) H6 tr aa (.of (u.trans u6)) ⟨_, u6 _ _ (u _ _ h5)⟩ (.inl rfl) (md.same (u.trans u6)) z6
    rw [show past.isEmpty = false from by rw [Bool.eq_false_iff]; exact fun z => c (List.isEmpty_iff.mp z)]
    refine iteF ?_
    obtain ⟨p, x, rfl⟩ := snoc_of c
    have k5 := u _ _ h1
    have dgg : DGet H5 m (.str "ahead") (some (.ref aa)) := .inl ⟨_, .inr "ahead", .inl k5, rfl, (md_ahead tv pa aa).symm⟩
    have dgn : DGet H5 m (.str "now") (some tv) := .inl ⟨_, .inr "now", .inl k5, rfl, (md_now tv pa aa).symm⟩
    refine ⟨.ref m, rfl, .str "ahead", rfl, m, .ref aa, rfl, dgg, .inl ⟨rfl, _, .inl (.inl (u _ _ h5))⟩, .ref m, rfl, m, tv, rfl, dgn, aa, as, tv, rfl, rfl, u _ _ h5, Nat.lt_of_le_of_lt (show as.length ≤ 1000 by omega) (by decide), ?_⟩
    have kp6 : Kp 0 (Nn X pa aa) H5 (upd H5 aa (.lst (as ++ [tv]))) := .lst (.inr (.inl rfl)) (u _ _ h5)
    have f6 : FrM m pa aa H (upd H5 aa (.lst (as ++ [tv]))) := (FrM.of u).upd (.inr (.inr rfl))
    have zg6 : upd H5 aa (.lst (as ++ [tv])) aa = some (.lst (as ++ [tv])) := upd_same
    have k6 : upd H5 aa (.lst (as ++ [tv])) m = some (.dK (mdK tv pa aa)) := by rw [upd_ne nma]; exact k5
    have zt6 : upd H5 aa (.lst (as ++ [tv])) pa = some (.lst ps) := by rw [upd_ne h7]; exact u _ _ h3
    generalize upd H5 aa (.lst (as ++ [tv])) = H6 at kp6 f6 zg6 k6 zt6 ⊢
    have lnz : ps.length = p.length + 1 := by rw [h4.len, List.length_append]; rfl
    obtain ⟨ps0, y, rfl⟩ := snoc_of (show ps ≠ [] from fun z => by rw [z] at lnz; simp at lnz)
    have pl0 : ps0.length = p.length := by rw [List.length_append] at lnz; simpa using lnz
    have lli : LL (StAt (Nn X pa aa)) H5 ps0 p := by
      have := (h4.imp fun _ _ z => z.same u).init
      rw [List.dropLast_concat, List.dropLast_concat] at this
      exact this
    have llx : StAt (Nn X pa aa) H5 y x := (h4.at_ p.length y x (by rw [← pl0, List.getElem?_concat_length]) (by rw [List.getElem?_concat_length])).same u
    have dgt6 : DGet H6 m (.str "past") (some (.ref pa)) := .inl ⟨_, .inr "past", .inl k6, rfl, (md_past tv pa aa).symm⟩
    refine ⟨.ref m, rfl, .str "past", rfl, m, .ref pa, rfl, dgt6, .inl ⟨rfl, _, .inl (.inl zt6)⟩, pa, _, y, rfl, rfl, zt6, by rw [List.length_append, List.length_singleton, Nat.add_sub_cancel, List.getElem?_concat_length], ?_⟩
    rw [List.dropLast_concat]
    have kp7 : Kp 0 (Nn X pa aa) H6 (upd H6 pa (.lst ps0)) := .lst (.inl rfl) zt6
    have f7 : FrM m pa aa H (upd H6 pa (.lst ps0)) := f6.upd (.inr (.inl rfl))
    have zt7 : upd H6 pa (.lst ps0) pa = some (.lst ps0) := upd_same
    have zg7 : upd H6 pa (.lst ps0) aa = some (.lst (as ++ [tv])) := by rw [upd_ne (Ne.symm h7)]; exact zg6
    have k7 : upd H6 pa (.lst ps0) m = some (.dK (mdK tv pa aa)) := by rw [upd_ne nmp]; exact k6
    generalize upd H6 pa (.lst ps0) = H7 at kp7 f7 zt7 zg7 k7 ⊢
    refine ⟨.ref m, rfl, m, _, rfl, DPut.k (k := Sum.inr "now") k7 (by show 3 < sizeLine; decide), ?_⟩
    rw [put_now]
    have kp8 : Kp 0 (Nn X pa aa) H7 (upd H7 m (.dK (mdK y pa aa))) := .dk k7
    have f8 : FrM m pa aa H (upd H7 m (.dK (mdK y pa aa))) := f7.upd (.inl rfl)
    have up : ∀ {v : V} {x : Sht}, StAt (Nn X pa aa) H5 v x → StAt (Nn X pa aa) (upd H7 m (.dK (mdK y pa aa))) v x := fun h => ((h.kp kp6).kp kp7).kp kp8
    have zt : upd H7 m (.dK (mdK y pa aa)) pa = some (.lst ps0) := by rw [upd_ne (Ne.symm nmp)]; exact zt7
    have zg : upd H7 m (.dK (mdK y pa aa)) aa = some (.lst (as ++ [tv])) := by rw [upd_ne (Ne.symm nma)]; exact zg7
    have md8 : MdAt X pa aa (upd H7 m (.dK (mdK y pa aa))) m p x (ahead ++ [now]) := ⟨y, ps0, as ++ [tv], upd_same, up (llx), zt, (lli).imp fun _ _ z => up z, zg, LL.snoc (h6.imp fun _ _ z => up (z.same u)) (up (h2.same u)), h7⟩
    generalize upd H7 m (.dK (mdK y pa aa)) = H8 at f8 md8 ⊢
    refine ⟨szN 2 rfl, fun tr n_tr => ?_⟩
    generalize e_tr : upd H8 tr _ = H9
    have u9 := new_same e_tr n_tr
    have z9 := new_at e_tr
    clear e_tr
    have a9 : ∃ us, H9 aa = some (.lst us) := by
      obtain ⟨_, _, as9, _, _, _, _, e9, _⟩ := (md8.same u9).ex
      exact ⟨as9, e9⟩
    exact q _ (.inr ⟨p, x, rfl, rfl⟩) H9 tr aa (f8.then u9) a9 (.inl rfl) (md8.same u9) z9
  | redo =>
    have hd : H td = some (.tup [.str "redo"]) := hd
    refine ⟨.ref td, rfl, td, _, _, .str "redo", rfl, rfl, .inl (.inl hd), rfl, ?_⟩
    refine ⟨szN 2 rfl, fun tw n_tw => ?_⟩
    generalize e_tw : upd H tw _ = H1
    have u1 := new_same e_tw n_tw
    have z1 := new_at e_tw
    clear e_tw
    refine ⟨tw, _, rfl, .inr (.inl (.inl z1)), rfl, by decide +kernel, true, by decide +kernel, iteT ?_⟩
    refine ⟨szN 2 rfl, fun ta n_ta => ?_⟩
    generalize e_ta : upd H1 ta _ = H2
    have u2 := new_same e_ta n_ta
    have z2 := new_at e_ta
    clear e_ta
    refine ⟨szN 2 rfl, fun tb n_tb => ?_⟩
    generalize e_tb : upd H2 tb _ = H3
    have u3 := new_same e_tb n_tb
    have z3 := new_at e_tb
    clear e_tb
    refine ⟨szN 2 rfl, fun tl n_tl => ?_⟩
    generalize e_tl : upd H3 tl _ = H4
    have u4 := new_same e_tl n_tl
    have z4 := new_at e_tl
    clear e_tl
    have u14 := u1.trans (u2.trans (u3.trans u4))
    refine ⟨.ref td, rfl, td, _, _, .str "redo", rfl, rfl, .inl (.inl (u14 _ _ hd)), rfl, rfl, .inr ⟨_, rfl, ?_⟩⟩
    rw [show decide (V.str "redo" = V.str "redo") = true by decide +kernel]
    refine ⟨tl, _, _, .ref tb, rfl, rfl, .inl (.inl z4), rfl, tb, _, rfl, .inl (.inl (u4 _ _ z3)), rfl, _, _, rfl, _, _, rfl, rfl, ?_⟩
    have k1 := u14 _ _ h1
    have dgt : DGet H4 m (.str "ahead") (some (.ref aa)) := .inl ⟨_, .inr "ahead", .inl k1, rfl, (md_ahead tv pa aa).symm⟩
    refine ⟨.ref m, rfl, .str "ahead", rfl, m, .ref aa, rfl, dgt, ?_⟩
    refine ⟨szN 0 rfl, fun l0 n_l0 => ?_⟩
    generalize e_l0 : upd H4 l0 _ = H5
    have u5 := new_same e_l0 n_l0
    have z5 := new_at e_l0
    clear e_l0
    have u := u14.trans u5
    refine ⟨_, .list [], .lst (.inl (.inl (u _ _ h5))) (dpAll_st (h6.imp fun _ _ z => z.same u)), .lst (.inl (.inl z5)) .nil, shapedSt _ wa, by decide +kernel, _, rfl, ?_⟩
    rw [eqv_nilL, List.isEmpty_map]
    by_cases c : ahead = []
    · rw [show ahead.isEmpty = true from by rw [c]; rfl]
      refine iteT ?_
      refine ⟨szN 2 rfl, fun tr n_tr => ?_⟩
      generalize e_tr : upd H5 tr _ = H6
      have u6 := new_same e_tr n_tr
      have z6 := new_at e_tr
      clear e_tr
      exact q (.inl 7) (.inl ⟨c, rfl⟩) H6 tr aa (.of (u.trans u6)) ⟨_, u6 _ _ (u _ _ h5)⟩ (.inl rfl) (md.same (u.trans u6)) z6
    rw [show ahead.isEmpty = false from by rw [Bool.eq_false_iff]; exact fun z => c (List.isEmpty_iff.mp z)]
    refine iteF ?_
    obtain ⟨p, x, rfl⟩ := snoc_of c
    have k5 := u _ _ h1
    have dgg : DGet H5 m (.str "past") (some (.ref pa)) := .inl ⟨_, .inr "past", .inl k5, rfl, (md_past tv pa aa).symm⟩
    have dgn : DGet H5 m (.str "now") (some tv) := .inl ⟨_, .inr "now", .inl k5, rfl, (md_now tv pa aa).symm⟩
    refine ⟨.ref m, rfl, .str "past", rfl, m, .ref pa, rfl, dgg, .inl ⟨rfl, _, .inl (.inl (u _ _ h3))⟩, .ref m, rfl, m, tv, rfl, dgn, pa, ps, tv, rfl, rfl, u _ _ h3, Nat.lt_of_le_of_lt (show ps.length ≤ 1000 by omega) (by decide), ?_⟩
    have kp6 : Kp 0 (Nn X pa aa) H5 (upd H5 pa (.lst (ps ++ [tv]))) := .lst (.inl rfl) (u _ _ h3)
    have f6 : FrM m pa aa H (upd H5 pa (.lst (ps ++ [tv]))) := (FrM.of u).upd (.inr (.inl rfl))
    have zg6 : upd H5 pa (.lst (ps ++ [tv])) pa = some (.lst (ps ++ [tv])) := upd_same
    have k6 : upd H5 pa (.lst (ps ++ [tv])) m = some (.dK (mdK tv pa aa)) := by rw [upd_ne nmp]; exact k5
    have zt6 : upd H5 pa (.lst (ps ++ [tv])) aa = some (.lst as) := by rw [upd_ne h7.symm]; exact u _ _ h5
    generalize upd H5 pa (.lst (ps ++ [tv])) = H6 at kp6 f6 zg6 k6 zt6 ⊢
    have lnz : as.length = p.length + 1 := by rw [h6.len, List.length_append]; rfl
    obtain ⟨ps0, y, rfl⟩ := snoc_of (show as ≠ [] from fun z => by rw [z] at lnz; simp at lnz)
    have pl0 : ps0.length = p.length := by rw [List.length_append] at lnz; simpa using lnz
    have lli : LL (StAt (Nn X pa aa)) H5 ps0 p := by
      have := (h6.imp fun _ _ z => z.same u).init
      rw [List.dropLast_concat, List.dropLast_concat] at this
      exact this
    have llx : StAt (Nn X pa aa) H5 y x := (h6.at_ p.length y x (by rw [← pl0, List.getElem?_concat_length]) (by rw [List.getElem?_concat_length])).same u
    have dgt6 : DGet H6 m (.str "ahead") (some (.ref aa)) := .inl ⟨_, .inr "ahead", .inl k6, rfl, (md_ahead tv pa aa).symm⟩
    refine ⟨.ref m, rfl, .str "ahead", rfl, m, .ref aa, rfl, dgt6, .inl ⟨rfl, _, .inl (.inl zt6)⟩, aa, _, y, rfl, rfl, zt6, by rw [List.length_append, List.length_singleton, Nat.add_sub_cancel, List.getElem?_concat_length], ?_⟩
    rw [List.dropLast_concat]
    have kp7 : Kp 0 (Nn X pa aa) H6 (upd H6 aa (.lst ps0)) := .lst (.inr (.inl rfl)) zt6
    have f7 : FrM m pa aa H (upd H6 aa (.lst ps0)) := f6.upd (.inr (.inr rfl))
    have zt7 : upd H6 aa (.lst ps0) aa = some (.lst ps0) := upd_same
    have zg7 : upd H6 aa (.lst ps0) pa = some (.lst (ps ++ [tv])) := by rw [upd_ne (Ne.symm h7.symm)]; exact zg6
    have k7 : upd H6 aa (.lst ps0) m = some (.dK (mdK tv pa aa)) := by rw [upd_ne nma]; exact k6
    generalize upd H6 aa (.lst ps0) = H7 at kp7 f7 zt7 zg7 k7 ⊢
    refine ⟨.ref m, rfl, m, _, rfl, DPut.k (k := Sum.inr "now") k7 (by show 3 < sizeLine; decide), ?_⟩
    rw [put_now]
    have kp8 : Kp 0 (Nn X pa aa) H7 (upd H7 m (.dK (mdK y pa aa))) := .dk k7
    have f8 : FrM m pa aa H (upd H7 m (.dK (mdK y pa aa))) := f7.upd (.inl rfl)
    have up : ∀ {v : V} {x : Sht}, StAt (Nn X pa aa) H5 v x → StAt (Nn X pa aa) (upd H7 m (.dK (mdK y pa aa))) v x := fun h => ((h.kp kp6).kp kp7).kp kp8
    have zt : upd H7 m (.dK (mdK y pa aa)) aa = some (.lst ps0) := by rw [upd_ne (Ne.symm nma)]; exact zt7
    have zg : upd H7 m (.dK (mdK y pa aa)) pa = some (.lst (ps ++ [tv])) := by rw [upd_ne (Ne.symm nmp)]; exact zg7
    have md8 : MdAt X pa aa (upd H7 m (.dK (mdK y pa aa))) m (past ++ [now]) x p := ⟨y, ps ++ [tv], ps0, upd_same, up (llx), zg, LL.snoc (h4.imp fun _ _ z => up (z.same u)) (up (h2.same u)), zt, (lli).imp fun _ _ z => up z, h7⟩
    generalize upd H7 m (.dK (mdK y pa aa)) = H8 at f8 md8 ⊢
    refine ⟨szN 2 rfl, fun tr n_tr => ?_⟩
    generalize e_tr : upd H8 tr _ = H9
    have u9 := new_same e_tr n_tr
    have z9 := new_at e_tr
    clear e_tr
    have a9 : ∃ us, H9 aa = some (.lst us) := by
      obtain ⟨_, _, as9, _, _, _, _, e9, _⟩ := (md8.same u9).ex
      exact ⟨as9, e9⟩
    exact q _ (.inr ⟨p, x, rfl, rfl⟩) H9 tr aa (f8.then u9) a9 (.inl rfl) (md8.same u9) z9
end
end Rep
namespace Rep
open PySem L2 L2H RepHot
/-! deeds done in the book, and held against the model -/
theorem BkAt.more {BK S b : Addr} {N M : Addr → Prop} {H : Hp} {sts : List Sht} {here : Nat} {sv nv : V} (h : BkAt BK S N H b sts here sv nv) (k : ∀ a xs, M a → H a = some (.lst xs) → N a) : BkAt BK S M H b sts here sv nv := by
  obtain ⟨dx, l, vs, h1, h2, h3, h4, h5⟩ := h.ex
  exact ⟨dx, l, vs, h1, h2, h3.tr fun _ _ z => z.more k, fun z => h4 (k _ _ z h2), h5⟩
def KJ (j : Nat) : Prop := j = 0 ∨ j = 1 ∨ j = 3 ∨ j = 4 ∨ j = 5 ∨ j = 6 ∨ j = 7
theorem stp_j {s : Sht} {d : Dd} {j : Nat} (h : Stp s d (.inl j)) : KJ j := by
  cases d with
  | say y => rcases h with ⟨_, _, h⟩ | ⟨_, _, h⟩ | ⟨_, h⟩ <;> cases h <;> simp [KJ]
  | unsay n => rcases h with ⟨_, _, h⟩ | ⟨_, h⟩ <;> cases h <;> simp [KJ]
  | amend n y => rcases h with ⟨_, _, _, h⟩ | ⟨_, _, _, h⟩ | ⟨_, h⟩ <;> cases h <;> simp [KJ]
  | rem z x m => rcases h with ⟨_, _, _, h⟩ | ⟨_, _, _, h⟩ | ⟨_, _, h⟩ | ⟨_, h⟩ <;> cases h <;> simp [KJ]
  | forget n => rcases h with ⟨_, _, h⟩ | ⟨_, h⟩ <;> cases h <;> simp [KJ]
  | longer m => rcases h with ⟨_, _, h⟩ | ⟨_, h⟩ <;> cases h <;> simp [KJ]
  | shorter m => rcases h with ⟨_, _, _, h⟩ | ⟨_, _, _, h⟩ | ⟨_, h⟩ <;> cases h <;> simp [KJ]
theorem Fst.uniq {ns : List Int} {n : Int} {k j : Nat} (h : Fst ns n k) (g : Fst ns n j) : k = j := by
  rcases Nat.lt_trichotomy k j with l | l | l
  · exact absurd h.1 (g.2 k l)
  · exact l
  · exact absurd g.1 (h.2 j l)
theorem Stp.uniq {s : Sht} {d : Dd} {r r' : Nat ⊕ (Option Int × Sht)} (h : Stp s d r) (g : Stp s d r') : r = r' := by
  cases d with
  | say y =>
    rcases h with ⟨a1, a2, rfl⟩ | ⟨a1, a2, rfl⟩ | ⟨a1, rfl⟩ <;> rcases g with ⟨b1, b2, rfl⟩ | ⟨b1, b2, rfl⟩ | ⟨b1, rfl⟩ <;> first | rfl | contradiction
  | unsay n =>
    rcases h with ⟨k, a1, rfl⟩ | ⟨a1, rfl⟩ <;> rcases g with ⟨j, b1, rfl⟩ | ⟨b1, rfl⟩
    · rw [a1.uniq b1]
    · exact absurd a1.mem b1
    · exact absurd b1.mem a1
    · rfl
  | amend n y =>
    rcases h with ⟨k, a1, a2, rfl⟩ | ⟨k, a1, a2, rfl⟩ | ⟨a1, rfl⟩ <;> rcases g with ⟨j, b1, b2, rfl⟩ | ⟨j, b1, b2, rfl⟩ | ⟨b1, rfl⟩ <;> first | rfl | contradiction | (rw [a1.uniq b1]; done) | exact absurd a1.mem b1 | exact absurd b1.mem a1
  | rem z x m =>
    rcases h with ⟨a1, a2, a3, rfl⟩ | ⟨a1, a2, a3, rfl⟩ | ⟨a1, a2, rfl⟩ | ⟨a1, rfl⟩ <;> rcases g with ⟨b1, b2, b3, rfl⟩ | ⟨b1, b2, b3, rfl⟩ | ⟨b1, b2, rfl⟩ | ⟨b1, rfl⟩ <;> first | rfl | contradiction
  | forget n =>
    rcases h with ⟨k, a1, rfl⟩ | ⟨a1, rfl⟩ <;> rcases g with ⟨j, b1, rfl⟩ | ⟨b1, rfl⟩
    · rw [a1.uniq b1]
    · exact absurd a1.mem b1
    · exact absurd b1.mem a1
    · rfl
  | longer m =>
    rcases h with ⟨a1, a2, rfl⟩ | ⟨a1, rfl⟩ <;> rcases g with ⟨b1, b2, rfl⟩ | ⟨b1, rfl⟩ <;> first | rfl | (exact absurd ⟨a1, a2⟩ b1) | (exact absurd ⟨b1, b2⟩ a1)
  | shorter m =>
    rcases h with ⟨a1, a2, a3, rfl⟩ | ⟨a1, a2, a3, rfl⟩ | ⟨a1, rfl⟩ <;> rcases g with ⟨b1, b2, b3, rfl⟩ | ⟨b1, b2, b3, rfl⟩ | ⟨b1, rfl⟩ <;> first | rfl | contradiction | (exact absurd ⟨a1, a2⟩ b1) | (exact absurd ⟨b1, b2⟩ a1)
theorem RStp.uniq {past ahead : List Sht} {now : Sht} {de : De} {r r' : Res} (h : RStp past now ahead de r) (g : RStp past now ahead de r') : r = r' := by
  cases de with
  | dd d =>
    obtain ⟨r0, h1, rfl⟩ := h
    obtain ⟨r1, g1, rfl⟩ := g
    rw [h1.uniq g1]
  | undo =>
    rcases h with ⟨a, rfl⟩ | ⟨p, x, a, rfl⟩ <;> rcases g with ⟨b, rfl⟩ | ⟨p', x', b, rfl⟩
    · rfl
    · rw [a] at b; simp at b
    · rw [b] at a; simp at a
    · rw [a] at b
      obtain ⟨c1, c2⟩ := List.append_inj' b rfl
      have c2 : x = x' := by simpa using c2
      rw [c1, c2]
  | redo =>
    rcases h with ⟨a, rfl⟩ | ⟨p, x, a, rfl⟩ <;> rcases g with ⟨b, rfl⟩ | ⟨p', x', b, rfl⟩
    · rfl
    · rw [a] at b; simp at b
    · rw [b] at a; simp at a
    · rw [a] at b
      obtain ⟨c1, c2⟩ := List.append_inj' b rfl
      have c2 : x = x' := by simpa using c2
      rw [c1, c2]
def stsOf (x : List Sht × Sht × List Sht) : List Sht := x.1 ++ x.2.1 :: x.2.2.reverse
/-- the book behind a deed -/
def BkR (BK S : Addr) (N : Addr → Prop) (H H' : Hp) (b : Addr) (past : List Sht) (now : Sht) (ahead : List Sht) (sv nv : V) (r : Res) : Prop :=
  Sam b H H' ∧ ∃ sv' nv', BkAt BK S N H' b (stsOf (resB past now ahead r)) (resB past now ahead r).1.length sv' nv' ∧ (∀ j, r = .inl j → sv' = sv ∧ nv' = nv) ∧ (∀ o p n a, r = .inr (o, p, n, a) → nv' = .non ∧ SvK sv sv' now n)
theorem BkR.no {BK S b : Addr} {N : Addr → Prop} {H H' : Hp} {past ahead : List Sht} {now : Sht} {sv nv : V} {j : Nat} (h : BkAt BK S N H b (stsOf (past, now, ahead)) past.length sv nv) (s : Same H H') : BkR BK S N H H' b past now ahead sv nv (.inl j) :=
  ⟨fun c o e _ => s _ _ e, sv, nv, h.same s, fun _ _ => ⟨rfl, rfl⟩, fun _ _ _ _ z => nomatch z⟩
theorem BkR.yes {BK S b : Addr} {N : Addr → Prop} {H H' : Hp} {past ahead p a : List Sht} {now n : Sht} {sv nv sv' : V} {o : Option Int} (s : Sam b H H') (h : BkAt BK S N H' b (stsOf (p, n, a)) p.length sv' .non) (k : SvK sv sv' now n) : BkR BK S N H H' b past now ahead sv nv (.inr (o, p, n, a)) :=
  ⟨s, sv', .non, h, (fun _ z => nomatch z), (fun _ _ _ _ z => by cases z; exact ⟨rfl, k⟩)⟩
theorem BkR.then {BK S b : Addr} {N : Addr → Prop} {H H1 H2 : Hp} {past ahead : List Sht} {now : Sht} {sv nv : V} {r : Res} (h : BkR BK S N H H1 b past now ahead sv nv r) (s : Same H1 H2) : BkR BK S N H H2 b past now ahead sv nv r := by
  obtain ⟨h1, sv', nv', h2, h3, h4⟩ := h
  exact ⟨h1.same s, sv', nv', h2.same s, h3, h4⟩
def spDo (BK S : Addr) : Sp := fun vs H Q _ => ∃ (b : Addr) (dv : V) (N : Addr → Prop) (past : List Sht) (now : Sht) (ahead : List Sht) (sv nv : V) (de : De), vs = [.ref b, dv] ∧ BkAt BK S N H b (stsOf (past, now, ahead)) past.length sv nv ∧ DeAt H dv de ∧ deOk de ∧ NA N H ∧ Wf now ∧ past.length + ahead.length ≤ 900 ∧
  ∀ r H' t, RStp past now ahead de r → BkR BK S N H H' b past now ahead sv nv r → H' t = some (.tup [.str (wordR r), toldR r]) → Q (.ref t) H'
theorem scLdo : FnScope ["_law_book_here", "_law_deed_here", "_law_told", "_law_word", "_law_e"] ["_law_book_here", "_law_deed_here"] (defScope s_law_do) := ⟨rfl, rfl, rfl, by decide +kernel, rfl, by decide +kernel, by decide +kernel⟩
structure TDo (Pg : Program) (w : World) (K : PySem.W.Frag) (mg : Str → Option Value) (base : Heap) (BK S RE : Addr) (cz : Nat → Addr) (cs : List Addr) (fsa fus fam fre ffo fle fso fun_ frd fK : Addr) (fdsa fdus fdam fdre fdfo fdle fdso fdun fdrd fdK : FuncData) : Prop where
  clB : Cls K BK
  msa : Meth K BK "say" fsa
  gsa : FnOk Pg w K mg base (L2N.CX Pg w) 11 fsa fdsa ["self", "one", "other", "many", "turned"] (spDd BK S cz mSay)
  bsa : Binds K fdsa ["self", "one", "other", "many", "turned"] []
  mus : Meth K BK "unsay" fus
  gus : FnOk Pg w K mg base (L2N.CX Pg w) 11 fus fdus ["self", "number"] (spDd BK S cz mUnsay)
  bus : Binds K fdus ["self", "number"] []
  mam : Meth K BK "amend" fam
  gam : FnOk Pg w K mg base (L2N.CX Pg w) 11 fam fdam ["self", "number", "one", "other", "many", "turned"] (spDd BK S cz mAmend)
  bam : Binds K fdam ["self", "number", "one", "other", "many", "turned"] []
  mre : Meth K BK "remember" fre
  gre : FnOk Pg w K mg base (L2N.CX Pg w) 11 fre fdre ["self", "letter", "at", "many"] (spDd BK S cz mRem)
  bre : Binds K fdre ["self", "letter", "at", "many"] []
  mfo : Meth K BK "forget" ffo
  gfo : FnOk Pg w K mg base (L2N.CX Pg w) 11 ffo fdfo ["self", "number"] (spDd BK S cz mForget)
  bfo : Binds K fdfo ["self", "number"] []
  mle : Meth K BK "lengthen" fle
  gle : FnOk Pg w K mg base (L2N.CX Pg w) 11 fle fdle ["self", "many"] (spDd BK S cz mLonger)
  ble : Binds K fdle ["self", "many"] []
  mso : Meth K BK "shorten" fso
  gso : FnOk Pg w K mg base (L2N.CX Pg w) 11 fso fdso ["self", "many"] (spDd BK S cz mShorter)
  bso : Binds K fdso ["self", "many"] []
  mun : Meth K BK "undo" fun_
  gun : FnOk Pg w K mg base (L2N.CX Pg w) 11 fun_ fdun ["self"] (spBundo BK S cz)
  bun : Binds K fdun ["self"] []
  mrd : Meth K BK "redo" frd
  grd : FnOk Pg w K mg base (L2N.CX Pg w) 11 frd fdrd ["self"] (spBredo BK S cz)
  brd : Binds K fdrd ["self"] []
  gK : FnP Pg w K mg base CX0 7 fK fdK ["_law_e"] (spKin K cs)
  bK : Binds K fdK ["_law_e"] []
  kK : PySem.W.keepIn K (.ref fK) = true
  mK : mg "_law_kin" = some (.ref fK)
  gR : mg "RepriseError" = some (.ref RE)
  ex : ∀ j, KJ j → PySem.W.exmOne K (.ref (cz j)) (.ref RE) = some true
  kd : ∀ j, KJ j → KinD K cs (cz j) j
theorem sts_at {past ahead : List Sht} {now : Sht} : (stsOf (past, now, ahead))[past.length]? = some now ∧ (stsOf (past, now, ahead)).take (past.length + 1) = past ++ [now] ∧ (stsOf (past, now, ahead)).length = past.length + 1 + ahead.length := by
  refine ⟨?_, ?_, ?_⟩
  · show (past ++ now :: ahead.reverse)[past.length]? = _
    rw [List.getElem?_append_right (Nat.le_refl _), Nat.sub_self]; rfl
  · show (past ++ now :: ahead.reverse).take _ = _
    rw [List.take_append, List.take_of_length_le (by omega), show past.length + 1 - past.length = 1 by omega]; rfl
  · show (past ++ now :: ahead.reverse).length = _
    rw [List.length_append, List.length_cons, List.length_reverse]; omega
section
variable {Pg : Program} {w : World} {K : PySem.W.Frag} {mg : Str → Option Value} {base : Heap} {BK S RE : Addr} {cz : Nat → Addr} {cs : List Addr} {fsa fus fam fre ffo fle fso fun_ frd fK : Addr} {fdsa fdus fdam fdre fdfo fdle fdso fdun fdrd fdK : FuncData}
theorem ok_ldo {f : Addr} {fd : FuncData} (F : Fun K "_law_do" "_law_do" s_law_do f fd) (T : TDo Pg w K mg base BK S RE cz cs fsa fus fam fre ffo fle fso fun_ frd fK fdsa fdus fdam fdre fdfo fdle fdso fdun fdrd fdK) : FnOk Pg w K mg base CX0 12 f fd ["_law_book_here", "_law_deed_here"] (spDo BK S) := by
  refine F.ok scLdo (fun vs H Q E h => ?_) (fun cdv A outer s H vs Q E hr h => ?_)
  · obtain ⟨b, dv, N, past, now, ahead, sv, nv, de, rfl, _⟩ := h; rfl
  obtain ⟨b, dv, N, past, now, ahead, sv, nv, de, rfl, bk, ⟨td, rfl, hd⟩, dok, na, wn, ln, q⟩ := h
  have r11 : Room 11 _ := hr
  have r7 : Room 7 _ := hr.mono (by decide)
  refine ⟨_, (C8.pss_cut (ps_set (i := 2) scLdo.nd rfl (.inl rfl) pe_non)
    (C8.pss_cut (ps_set (i := 3) scLdo.nd rfl (.inl rfl) pe_str)
    (C8.pss_cut (L2N.ps_try_as (i := 4) rfl rfl scLdo.nd rfl rfl ⟨rfl, by decide, .inl T.gR⟩ takesN
      (fun W pn xe tk _ => (pss_one (ps_if (pt_cmpR op_eq (pe_ix (r := rIxT K) ix_tup (pv 1) pe_int (fun _ _ => rfl)) pe_str (nomark _)) (pss_one (ps_set (i := 2) scLdo.nd rfl (.inl rfl) (pe_methN (pv 0) T.clB T.msa T.gsa r11 T.bsa (fun σ => L2N.passAt tk σ) (pa_cons (pe_ix (r := rIxT K) ix_tup (pv 1) pe_int (fun _ _ => rfl)) (pa_cons (pe_ix (r := rIxT K) ix_tup (pv 1) pe_int (fun _ _ => rfl)) (pa_cons (pe_ix (r := rIxT K) ix_tup (pv 1) pe_int (fun _ _ => rfl)) (pa_cons (pe_ix (r := rIxT K) ix_tup (pv 1) pe_int (fun _ _ => rfl)) pa_nil))))))) (pss_one (ps_if (pt_cmpR op_eq (pe_ix (r := rIxT K) ix_tup (pv 1) pe_int (fun _ _ => rfl)) pe_str (nomark _)) (pss_one (ps_set (i := 2) scLdo.nd rfl (.inl rfl) (pe_methN (pv 0) T.clB T.mus T.gus r11 T.bus (fun σ => L2N.passAt tk σ) (pa_cons (pe_ix (r := rIxT K) ix_tup (pv 1) pe_int (fun _ _ => rfl)) pa_nil)))) (pss_one (ps_if (pt_cmpR op_eq (pe_ix (r := rIxT K) ix_tup (pv 1) pe_int (fun _ _ => rfl)) pe_str (nomark _)) (pss_one (ps_set (i := 2) scLdo.nd rfl (.inl rfl) (pe_methN (pv 0) T.clB T.mam T.gam r11 T.bam (fun σ => L2N.passAt tk σ) (pa_cons (pe_ix (r := rIxT K) ix_tup (pv 1) pe_int (fun _ _ => rfl)) (pa_cons (pe_ix (r := rIxT K) ix_tup (pv 1) pe_int (fun _ _ => rfl)) (pa_cons (pe_ix (r := rIxT K) ix_tup (pv 1) pe_int (fun _ _ => rfl)) (pa_cons (pe_ix (r := rIxT K) ix_tup (pv 1) pe_int (fun _ _ => rfl)) (pa_cons (pe_ix (r := rIxT K) ix_tup (pv 1) pe_int (fun _ _ => rfl)) pa_nil)))))))) (pss_one (ps_if (pt_cmpR op_eq (pe_ix (r := rIxT K) ix_tup (pv 1) pe_int (fun _ _ => rfl)) pe_str (nomark _)) (pss_one (ps_set (i := 2) scLdo.nd rfl (.inl rfl) (pe_methN (pv 0) T.clB T.mre T.gre r11 T.bre (fun σ => L2N.passAt tk σ) (pa_cons (pe_ix (r := rIxT K) ix_tup (pv 1) pe_int (fun _ _ => rfl)) (pa_cons (pe_ix (r := rIxT K) ix_tup (pv 1) pe_int (fun _ _ => rfl)) (pa_cons (pe_ix (r := rIxT K) ix_tup (pv 1) pe_int (fun _ _ => rfl)) pa_nil)))))) (pss_one (ps_if (pt_cmpR op_eq (pe_ix (r := rIxT K) ix_tup (pv 1) pe_int (fun _ _ => rfl)) pe_str (nomark _)) (pss_one (ps_set (i := 2) scLdo.nd rfl (.inl rfl) (pe_methN (pv 0) T.clB T.mfo T.gfo r11 T.bfo (fun σ => L2N.passAt tk σ) (pa_cons (pe_ix (r := rIxT K) ix_tup (pv 1) pe_int (fun _ _ => rfl)) pa_nil)))) (pss_one (ps_if (pt_cmpR op_eq (pe_ix (r := rIxT K) ix_tup (pv 1) pe_int (fun _ _ => rfl)) pe_str (nomark _)) (pss_one (ps_set (i := 2) scLdo.nd rfl (.inl rfl) (pe_methN (pv 0) T.clB T.mle T.gle r11 T.ble (fun σ => L2N.passAt tk σ) (pa_cons (pe_ix (r := rIxT K) ix_tup (pv 1) pe_int (fun _ _ => rfl)) pa_nil)))) (pss_one (ps_if (pt_cmpR op_eq (pe_ix (r := rIxT K) ix_tup (pv 1) pe_int (fun _ _ => rfl)) pe_str (nomark _)) (pss_one (ps_set (i := 2) scLdo.nd rfl (.inl rfl) (pe_methN (pv 0) T.clB T.mso T.gso r11 T.bso (fun σ => L2N.passAt tk σ) (pa_cons (pe_ix (r := rIxT K) ix_tup (pv 1) pe_int (fun _ _ => rfl)) pa_nil)))) (pss_one (ps_if (pt_cmpR op_eq (pe_ix (r := rIxT K) ix_tup (pv 1) pe_int (fun _ _ => rfl)) pe_str (nomark _)) (pss_one (ps_set (i := 2) scLdo.nd rfl (.inl rfl) (pe_methN0 (pv 0) T.clB T.mun T.gun r11 T.bun (fun σ => L2N.passAt tk σ)))) (pss_one (ps_set (i := 2) scLdo.nd rfl (.inl rfl) (pe_methN0 (pv 0) T.clB T.mrd T.grd r11 T.brd (fun σ => L2N.passAt tk σ)))))))))))))))))))))
      (fun a oe cls d pn hz hf => (pss_one (ps_set (i := 3) scLdo.nd rfl (.inl rfl) (pe_callP T.gK (room_suite r7) (hot_of hz hf) List.mem_cons_self hz.zc (by rfl) T.mK T.kK T.bK (pa_cons (pv 4) pa_nil))))))
    (pss_one (ps_ret (pe_tup (pa_cons (pv 3) (pa_cons (pv 2) pa_nil)))))))), ?_⟩
  obtain ⟨e1, e2, e3⟩ := sts_at (past := past) (now := now) (ahead := ahead)
  have b0 : Bk0 BK S N H b (stsOf (past, now, ahead)) past.length sv nv now := ⟨bk, e1, na, wn.lens, by omega⟩
  refine ⟨fun σ' H' => σ' = [some (.ref b), some (.ref td), some .non, none, none] ∧ H' = H, ⟨rfl, rfl⟩, ?_⟩
  rintro σ' H' ⟨rfl, eH⟩
  subst eH
  refine ⟨fun σ' H0 => σ' = [some (.ref b), some (.ref td), some .non, some (.str ""), none] ∧ H0 = H', ⟨rfl, rfl⟩, ?_⟩
  rintro σ' H0 ⟨rfl, eH⟩
  subst eH
  refine ⟨fun σ' H1 => ∃ r, RStp past now ahead de r ∧ σ' = [some (.ref b), some (.ref td), some (toldR r), some (.str (wordR r)), none] ∧ BkR BK S N H0 H1 b past now ahead sv nv r, ?_, ?_⟩
  · cases de with
    | dd d =>
      cases d with
      | say y =>
        have hd : H0 td = some (.tup [.str "say", .int y.lo, .int y.hi, .int y.n, .bl y.t]) := hd
        refine ⟨.ref td, rfl, td, _, _, .str "say", rfl, rfl, .inl (.inl hd), rfl, rfl, true, sT _, iteT ?_⟩
        obtain ⟨dx, fs, hi, hn⟩ := bk.ins (m := "say") (by decide +kernel)
        refine ⟨.ref b, rfl, b, dx, _, rfl, hi, hn, .ref td, rfl, td, _, _, .int y.lo, rfl, rfl, .inl (.inl hd), rfl, .ref td, rfl, td, _, _, .int y.hi, rfl, rfl, .inl (.inl hd), rfl, .ref td, rfl, td, _, _, .int y.n, rfl, rfl, .inl (.inl hd), rfl, .ref td, rfl, td, _, _, .bl y.t, rfl, rfl, .inl (.inl hd), rfl, b, N, _, _, sv, nv, now, .say y, ⟨y, rfl, rfl⟩, b0, fun r0 hr0 => ?_⟩
        cases r0 with
        | inl j =>
          intro H2 s2
          exact ⟨true, T.ex j (stp_j hr0), fun _ a na_ => ⟨.ref a, rfl, cz j, j, rfl, rfl, T.kd j (stp_j hr0), rfl, fun H3 s3 => ⟨.inl j, ⟨_, hr0, rfl⟩, rfl, .no bk (s2.trans s3)⟩⟩, fun z => nomatch z⟩
        | inr x0 =>
          obtain ⟨o, s'⟩ := x0
          intro H2 sv2 sm bk2 svk
          rw [e2] at bk2
          exact ⟨.inr (o, past ++ [now], s', []), ⟨_, hr0, rfl⟩, rfl, .yes sm (by rw [List.length_append]; exact bk2) svk⟩
      | unsay n =>
        have hd : H0 td = some (.tup [.str "unsay", .int n]) := hd
        refine ⟨.ref td, rfl, td, _, _, .str "unsay", rfl, rfl, .inl (.inl hd), rfl, rfl, false, sF (by decide +kernel), iteF ?_⟩
        refine ⟨.ref td, rfl, td, _, _, .str "unsay", rfl, rfl, .inl (.inl hd), rfl, rfl, true, sT _, iteT ?_⟩
        obtain ⟨dx, fs, hi, hn⟩ := bk.ins (m := "unsay") (by decide +kernel)
        refine ⟨.ref b, rfl, b, dx, _, rfl, hi, hn, .ref td, rfl, td, _, _, .int n, rfl, rfl, .inl (.inl hd), rfl, b, N, _, _, sv, nv, now, .unsay n, ⟨n, rfl, rfl⟩, b0, fun r0 hr0 => ?_⟩
        cases r0 with
        | inl j =>
          intro H2 s2
          exact ⟨true, T.ex j (stp_j hr0), fun _ a na_ => ⟨.ref a, rfl, cz j, j, rfl, rfl, T.kd j (stp_j hr0), rfl, fun H3 s3 => ⟨.inl j, ⟨_, hr0, rfl⟩, rfl, .no bk (s2.trans s3)⟩⟩, fun z => nomatch z⟩
        | inr x0 =>
          obtain ⟨o, s'⟩ := x0
          intro H2 sv2 sm bk2 svk
          rw [e2] at bk2
          exact ⟨.inr (o, past ++ [now], s', []), ⟨_, hr0, rfl⟩, rfl, .yes sm (by rw [List.length_append]; exact bk2) svk⟩
      | amend n y =>
        have hd : H0 td = some (.tup [.str "amend", .int n, .int y.lo, .int y.hi, .int y.n, .bl y.t]) := hd
        refine ⟨.ref td, rfl, td, _, _, .str "amend", rfl, rfl, .inl (.inl hd), rfl, rfl, false, sF (by decide +kernel), iteF ?_⟩
        refine ⟨.ref td, rfl, td, _, _, .str "amend", rfl, rfl, .inl (.inl hd), rfl, rfl, false, sF (by decide +kernel), iteF ?_⟩
        refine ⟨.ref td, rfl, td, _, _, .str "amend", rfl, rfl, .inl (.inl hd), rfl, rfl, true, sT _, iteT ?_⟩
        obtain ⟨dx, fs, hi, hn⟩ := bk.ins (m := "amend") (by decide +kernel)
        refine ⟨.ref b, rfl, b, dx, _, rfl, hi, hn, .ref td, rfl, td, _, _, .int n, rfl, rfl, .inl (.inl hd), rfl, .ref td, rfl, td, _, _, .int y.lo, rfl, rfl, .inl (.inl hd), rfl, .ref td, rfl, td, _, _, .int y.hi, rfl, rfl, .inl (.inl hd), rfl, .ref td, rfl, td, _, _, .int y.n, rfl, rfl, .inl (.inl hd), rfl, .ref td, rfl, td, _, _, .bl y.t, rfl, rfl, .inl (.inl hd), rfl, b, N, _, _, sv, nv, now, .amend n y, ⟨n, y, rfl, rfl⟩, b0, fun r0 hr0 => ?_⟩
        cases r0 with
        | inl j =>
          intro H2 s2
          exact ⟨true, T.ex j (stp_j hr0), fun _ a na_ => ⟨.ref a, rfl, cz j, j, rfl, rfl, T.kd j (stp_j hr0), rfl, fun H3 s3 => ⟨.inl j, ⟨_, hr0, rfl⟩, rfl, .no bk (s2.trans s3)⟩⟩, fun z => nomatch z⟩
        | inr x0 =>
          obtain ⟨o, s'⟩ := x0
          intro H2 sv2 sm bk2 svk
          rw [e2] at bk2
          exact ⟨.inr (o, past ++ [now], s', []), ⟨_, hr0, rfl⟩, rfl, .yes sm (by rw [List.length_append]; exact bk2) svk⟩
      | rem z x m =>
        have hd : H0 td = some (.tup [.str "remember", .str z, .int x, .int m]) := hd
        refine ⟨.ref td, rfl, td, _, _, .str "remember", rfl, rfl, .inl (.inl hd), rfl, rfl, false, sF (by decide +kernel), iteF ?_⟩
        refine ⟨.ref td, rfl, td, _, _, .str "remember", rfl, rfl, .inl (.inl hd), rfl, rfl, false, sF (by decide +kernel), iteF ?_⟩
        refine ⟨.ref td, rfl, td, _, _, .str "remember", rfl, rfl, .inl (.inl hd), rfl, rfl, false, sF (by decide +kernel), iteF ?_⟩
        refine ⟨.ref td, rfl, td, _, _, .str "remember", rfl, rfl, .inl (.inl hd), rfl, rfl, true, sT _, iteT ?_⟩
        obtain ⟨dx, fs, hi, hn⟩ := bk.ins (m := "remember") (by decide +kernel)
        refine ⟨.ref b, rfl, b, dx, _, rfl, hi, hn, .ref td, rfl, td, _, _, .str z, rfl, rfl, .inl (.inl hd), rfl, .ref td, rfl, td, _, _, .int x, rfl, rfl, .inl (.inl hd), rfl, .ref td, rfl, td, _, _, .int m, rfl, rfl, .inl (.inl hd), rfl, b, N, _, _, sv, nv, now, .rem z x m, ⟨z, x, m, rfl, dok, rfl⟩, b0, fun r0 hr0 => ?_⟩
        cases r0 with
        | inl j =>
          intro H2 s2
          exact ⟨true, T.ex j (stp_j hr0), fun _ a na_ => ⟨.ref a, rfl, cz j, j, rfl, rfl, T.kd j (stp_j hr0), rfl, fun H3 s3 => ⟨.inl j, ⟨_, hr0, rfl⟩, rfl, .no bk (s2.trans s3)⟩⟩, fun z => nomatch z⟩
        | inr x0 =>
          obtain ⟨o, s'⟩ := x0
          intro H2 sv2 sm bk2 svk
          rw [e2] at bk2
          exact ⟨.inr (o, past ++ [now], s', []), ⟨_, hr0, rfl⟩, rfl, .yes sm (by rw [List.length_append]; exact bk2) svk⟩
      | forget n =>
        have hd : H0 td = some (.tup [.str "forget", .int n]) := hd
        refine ⟨.ref td, rfl, td, _, _, .str "forget", rfl, rfl, .inl (.inl hd), rfl, rfl, false, sF (by decide +kernel), iteF ?_⟩
        refine ⟨.ref td, rfl, td, _, _, .str "forget", rfl, rfl, .inl (.inl hd), rfl, rfl, false, sF (by decide +kernel), iteF ?_⟩
        refine ⟨.ref td, rfl, td, _, _, .str "forget", rfl, rfl, .inl (.inl hd), rfl, rfl, false, sF (by decide +kernel), iteF ?_⟩
        refine ⟨.ref td, rfl, td, _, _, .str "forget", rfl, rfl, .inl (.inl hd), rfl, rfl, false, sF (by decide +kernel), iteF ?_⟩
        refine ⟨.ref td, rfl, td, _, _, .str "forget", rfl, rfl, .inl (.inl hd), rfl, rfl, true, sT _, iteT ?_⟩
        obtain ⟨dx, fs, hi, hn⟩ := bk.ins (m := "forget") (by decide +kernel)
        refine ⟨.ref b, rfl, b, dx, _, rfl, hi, hn, .ref td, rfl, td, _, _, .int n, rfl, rfl, .inl (.inl hd), rfl, b, N, _, _, sv, nv, now, .forget n, ⟨n, rfl, rfl⟩, b0, fun r0 hr0 => ?_⟩
        cases r0 with
        | inl j =>
          intro H2 s2
          exact ⟨true, T.ex j (stp_j hr0), fun _ a na_ => ⟨.ref a, rfl, cz j, j, rfl, rfl, T.kd j (stp_j hr0), rfl, fun H3 s3 => ⟨.inl j, ⟨_, hr0, rfl⟩, rfl, .no bk (s2.trans s3)⟩⟩, fun z => nomatch z⟩
        | inr x0 =>
          obtain ⟨o, s'⟩ := x0
          intro H2 sv2 sm bk2 svk
          rw [e2] at bk2
          exact ⟨.inr (o, past ++ [now], s', []), ⟨_, hr0, rfl⟩, rfl, .yes sm (by rw [List.length_append]; exact bk2) svk⟩
      | longer m =>
        have hd : H0 td = some (.tup [.str "lengthen", .int m]) := hd
        refine ⟨.ref td, rfl, td, _, _, .str "lengthen", rfl, rfl, .inl (.inl hd), rfl, rfl, false, sF (by decide +kernel), iteF ?_⟩
        refine ⟨.ref td, rfl, td, _, _, .str "lengthen", rfl, rfl, .inl (.inl hd), rfl, rfl, false, sF (by decide +kernel), iteF ?_⟩
        refine ⟨.ref td, rfl, td, _, _, .str "lengthen", rfl, rfl, .inl (.inl hd), rfl, rfl, false, sF (by decide +kernel), iteF ?_⟩
        refine ⟨.ref td, rfl, td, _, _, .str "lengthen", rfl, rfl, .inl (.inl hd), rfl, rfl, false, sF (by decide +kernel), iteF ?_⟩
        refine ⟨.ref td, rfl, td, _, _, .str "lengthen", rfl, rfl, .inl (.inl hd), rfl, rfl, false, sF (by decide +kernel), iteF ?_⟩
        refine ⟨.ref td, rfl, td, _, _, .str "lengthen", rfl, rfl, .inl (.inl hd), rfl, rfl, true, sT _, iteT ?_⟩
        obtain ⟨dx, fs, hi, hn⟩ := bk.ins (m := "lengthen") (by decide +kernel)
        refine ⟨.ref b, rfl, b, dx, _, rfl, hi, hn, .ref td, rfl, td, _, _, .int m, rfl, rfl, .inl (.inl hd), rfl, b, N, _, _, sv, nv, now, .longer m, ⟨m, rfl, rfl⟩, b0, fun r0 hr0 => ?_⟩
        cases r0 with
        | inl j =>
          intro H2 s2
          exact ⟨true, T.ex j (stp_j hr0), fun _ a na_ => ⟨.ref a, rfl, cz j, j, rfl, rfl, T.kd j (stp_j hr0), rfl, fun H3 s3 => ⟨.inl j, ⟨_, hr0, rfl⟩, rfl, .no bk (s2.trans s3)⟩⟩, fun z => nomatch z⟩
        | inr x0 =>
          obtain ⟨o, s'⟩ := x0
          intro H2 sv2 sm bk2 svk
          rw [e2] at bk2
          exact ⟨.inr (o, past ++ [now], s', []), ⟨_, hr0, rfl⟩, rfl, .yes sm (by rw [List.length_append]; exact bk2) svk⟩
      | shorter m =>
        have hd : H0 td = some (.tup [.str "shorten", .int m]) := hd
        refine ⟨.ref td, rfl, td, _, _, .str "shorten", rfl, rfl, .inl (.inl hd), rfl, rfl, false, sF (by decide +kernel), iteF ?_⟩
        refine ⟨.ref td, rfl, td, _, _, .str "shorten", rfl, rfl, .inl (.inl hd), rfl, rfl, false, sF (by decide +kernel), iteF ?_⟩
        refine ⟨.ref td, rfl, td, _, _, .str "shorten", rfl, rfl, .inl (.inl hd), rfl, rfl, false, sF (by decide +kernel), iteF ?_⟩
        refine ⟨.ref td, rfl, td, _, _, .str "shorten", rfl, rfl, .inl (.inl hd), rfl, rfl, false, sF (by decide +kernel), iteF ?_⟩
        refine ⟨.ref td, rfl, td, _, _, .str "shorten", rfl, rfl, .inl (.inl hd), rfl, rfl, false, sF (by decide +kernel), iteF ?_⟩
        refine ⟨.ref td, rfl, td, _, _, .str "shorten", rfl, rfl, .inl (.inl hd), rfl, rfl, false, sF (by decide +kernel), iteF ?_⟩
        refine ⟨.ref td, rfl, td, _, _, .str "shorten", rfl, rfl, .inl (.inl hd), rfl, rfl, true, sT _, iteT ?_⟩
        obtain ⟨dx, fs, hi, hn⟩ := bk.ins (m := "shorten") (by decide +kernel)
        refine ⟨.ref b, rfl, b, dx, _, rfl, hi, hn, .ref td, rfl, td, _, _, .int m, rfl, rfl, .inl (.inl hd), rfl, b, N, _, _, sv, nv, now, .shorter m, ⟨m, rfl, rfl⟩, b0, fun r0 hr0 => ?_⟩
        cases r0 with
        | inl j =>
          intro H2 s2
          exact ⟨true, T.ex j (stp_j hr0), fun _ a na_ => ⟨.ref a, rfl, cz j, j, rfl, rfl, T.kd j (stp_j hr0), rfl, fun H3 s3 => ⟨.inl j, ⟨_, hr0, rfl⟩, rfl, .no bk (s2.trans s3)⟩⟩, fun z => nomatch z⟩
        | inr x0 =>
          obtain ⟨o, s'⟩ := x0
          intro H2 sv2 sm bk2 svk
          rw [e2] at bk2
          exact ⟨.inr (o, past ++ [now], s', []), ⟨_, hr0, rfl⟩, rfl, .yes sm (by rw [List.length_append]; exact bk2) svk⟩
    | undo =>
      have hd : H0 td = some (.tup [.str "undo"]) := hd
      refine ⟨.ref td, rfl, td, _, _, .str "undo", rfl, rfl, .inl (.inl hd), rfl, rfl, false, sF (by decide +kernel), iteF ?_⟩
      refine ⟨.ref td, rfl, td, _, _, .str "undo", rfl, rfl, .inl (.inl hd), rfl, rfl, false, sF (by decide +kernel), iteF ?_⟩
      refine ⟨.ref td, rfl, td, _, _, .str "undo", rfl, rfl, .inl (.inl hd), rfl, rfl, false, sF (by decide +kernel), iteF ?_⟩
      refine ⟨.ref td, rfl, td, _, _, .str "undo", rfl, rfl, .inl (.inl hd), rfl, rfl, false, sF (by decide +kernel), iteF ?_⟩
      refine ⟨.ref td, rfl, td, _, _, .str "undo", rfl, rfl, .inl (.inl hd), rfl, rfl, false, sF (by decide +kernel), iteF ?_⟩
      refine ⟨.ref td, rfl, td, _, _, .str "undo", rfl, rfl, .inl (.inl hd), rfl, rfl, false, sF (by decide +kernel), iteF ?_⟩
      refine ⟨.ref td, rfl, td, _, _, .str "undo", rfl, rfl, .inl (.inl hd), rfl, rfl, false, sF (by decide +kernel), iteF ?_⟩
      refine ⟨.ref td, rfl, td, _, _, .str "undo", rfl, rfl, .inl (.inl hd), rfl, rfl, true, sT _, iteT ?_⟩
      obtain ⟨dx, fs, hi, hn⟩ := bk.ins (m := "undo") (by decide +kernel)
      refine ⟨.ref b, rfl, b, dx, _, rfl, hi, hn, b, N, _, _, sv, nv, rfl, bk, ?_, ?_⟩
      · intro h' eh s1 s2 H2 sv2 h1 h2 sm bk2 svk
        obtain ⟨p, x, rfl⟩ := snoc_of (show past ≠ [] from fun z => by rw [z] at eh; cases eh)
        have eh : p.length = h' := by rw [List.length_append] at eh; simpa using eh
        subst eh
        obtain rfl : now = s1 := Option.some.inj (e1.symm.trans h1)
        have el : stsOf (p ++ [x], now, ahead) = stsOf (p, x, ahead ++ [now]) := by
          show (p ++ [x]) ++ now :: ahead.reverse = p ++ x :: (ahead ++ [now]).reverse
          rw [List.append_assoc, List.reverse_append]; rfl
        rw [el] at bk2 h2
        obtain rfl : x = s2 := Option.some.inj (sts_at.1.symm.trans h2)
        exact ⟨.inr (none, p, x, ahead ++ [now]), .inr ⟨p, x, rfl, rfl⟩, rfl, .yes sm bk2 svk⟩
      · intro e0 H2 s2
        exact ⟨true, T.ex 7 (by simp [KJ]), fun _ a na_ => ⟨.ref a, rfl, cz 7, 7, rfl, rfl, T.kd 7 (by simp [KJ]), rfl, fun H3 s3 => ⟨.inl 7, .inl ⟨List.eq_nil_of_length_eq_zero e0, rfl⟩, rfl, .no bk (s2.trans s3)⟩⟩, fun z => nomatch z⟩
    | redo =>
      have hd : H0 td = some (.tup [.str "redo"]) := hd
      refine ⟨.ref td, rfl, td, _, _, .str "redo", rfl, rfl, .inl (.inl hd), rfl, rfl, false, sF (by decide +kernel), iteF ?_⟩
      refine ⟨.ref td, rfl, td, _, _, .str "redo", rfl, rfl, .inl (.inl hd), rfl, rfl, false, sF (by decide +kernel), iteF ?_⟩
      refine ⟨.ref td, rfl, td, _, _, .str "redo", rfl, rfl, .inl (.inl hd), rfl, rfl, false, sF (by decide +kernel), iteF ?_⟩
      refine ⟨.ref td, rfl, td, _, _, .str "redo", rfl, rfl, .inl (.inl hd), rfl, rfl, false, sF (by decide +kernel), iteF ?_⟩
      refine ⟨.ref td, rfl, td, _, _, .str "redo", rfl, rfl, .inl (.inl hd), rfl, rfl, false, sF (by decide +kernel), iteF ?_⟩
      refine ⟨.ref td, rfl, td, _, _, .str "redo", rfl, rfl, .inl (.inl hd), rfl, rfl, false, sF (by decide +kernel), iteF ?_⟩
      refine ⟨.ref td, rfl, td, _, _, .str "redo", rfl, rfl, .inl (.inl hd), rfl, rfl, false, sF (by decide +kernel), iteF ?_⟩
      refine ⟨.ref td, rfl, td, _, _, .str "redo", rfl, rfl, .inl (.inl hd), rfl, rfl, false, sF (by decide +kernel), iteF ?_⟩
      obtain ⟨dx, fs, hi, hn⟩ := bk.ins (m := "redo") (by decide +kernel)
      refine ⟨.ref b, rfl, b, dx, _, rfl, hi, hn, b, N, _, _, sv, nv, rfl, bk, ?_, ?_⟩
      · intro hl s1 s2 H2 sv2 h1 h2 sm bk2 svk
        obtain ⟨a, x, rfl⟩ := snoc_of (show ahead ≠ [] from fun z => by rw [e3, z] at hl; simp at hl)
        obtain rfl : now = s1 := Option.some.inj (e1.symm.trans h1)
        have el : stsOf (past, now, a ++ [x]) = stsOf (past ++ [now], x, a) := by
          show past ++ now :: (a ++ [x]).reverse = (past ++ [now]) ++ x :: a.reverse
          rw [List.append_assoc, List.reverse_append]; rfl
        have en : past.length + 1 = (past ++ [now]).length := by rw [List.length_append]; rfl
        rw [el, en] at bk2
        rw [el, en] at h2
        obtain rfl : x = s2 := Option.some.inj (sts_at.1.symm.trans h2)
        exact ⟨.inr (none, past ++ [now], x, a), .inr ⟨a, x, rfl, rfl⟩, rfl, .yes sm bk2 svk⟩
      · intro e0 H2 s2
        exact ⟨true, T.ex 7 (by simp [KJ]), fun _ a na_ => ⟨.ref a, rfl, cz 7, 7, rfl, rfl, T.kd 7 (by simp [KJ]), rfl, fun H3 s3 => ⟨.inl 7, .inl ⟨List.eq_nil_of_length_eq_zero (by rw [e3] at e0; omega), rfl⟩, rfl, .no bk (s2.trans s3)⟩⟩, fun z => nomatch z⟩
  rintro σ' H1 ⟨r, hr1, rfl, bkr⟩
  refine ⟨.str (wordR r), rfl, toldR r, rfl, ?_⟩
  refine ⟨szN 2 rfl, fun tr n_tr => ?_⟩
  generalize e_tr : upd H1 tr _ = H2
  have u2 := new_same e_tr n_tr
  have z2 := new_at e_tr
  clear e_tr
  exact q r H2 tr hr1 (bkr.then u2) z2
end
end Rep
namespace Rep
open PySem L2 L2H RepHot
/-! book and model side by side -/
structure Duo (X : Addr → Prop) (BK S : Addr) (H : Hp) (b m pa aa : Addr) (past : List Sht) (now : Sht) (ahead : List Sht) (sv nv : V) : Prop where
  bk : BkAt BK S (Nn X pa aa) H b (stsOf (past, now, ahead)) past.length sv nv
  md : MdAt X pa aa H m past now ahead
theorem Duo.same {X : Addr → Prop} {BK S b m pa aa : Addr} {H H' : Hp} {past ahead : List Sht} {now : Sht} {sv nv : V} (h : Duo X BK S H b m pa aa past now ahead sv nv) (s : Same H H') : Duo X BK S H' b m pa aa past now ahead sv nv := ⟨h.bk.same s, h.md.same s⟩
theorem MdAt.na {X : Addr → Prop} {pa aa m : Addr} {H : Hp} {past ahead : List Sht} {now : Sht} (h : MdAt X pa aa H m past now ahead) (nx : NX X H) : NX (Nn X pa aa) H := by
  obtain ⟨tv, ps, as, h1, h2, h3, h4, h5, h6, h7⟩ := h.ex
  intro a z
  rcases z with rfl | rfl | z
  · exact ⟨_, h3⟩
  · exact ⟨_, h5⟩
  · exact nx _ z
theorem BkAt.frm {X : Addr → Prop} {BK S b m pa aa aa' : Addr} {H H' : Hp} {sts : List Sht} {here : Nat} {sv nv : V} {past ahead : List Sht} {now : Sht} (h : BkAt BK S (Nn X pa aa) H b sts here sv nv) (md : MdAt X pa aa H m past now ahead) (f : FrM m pa aa H H') (ha : aa' = aa ∨ H aa' = none) : BkAt BK S (Nn X pa aa') H' b sts here sv nv := by
  obtain ⟨tv, ps, as, h1, h2, h3, h4, h5, h6, h7⟩ := md.ex
  obtain ⟨dx, l, vs, g1, _⟩ := h.ex
  have hN : BkAt BK S (fun a => a = pa ∨ a = aa ∨ a = aa' ∨ X a) H b sts here sv nv := h.more fun a us z e => by
    rcases z with z | z | z | z
    · exact .inl z
    · exact .inr (.inl z)
    · rcases ha with y | y
      · exact .inr (.inl (z.trans y))
      · rw [z, y] at e; cases e
    · exact .inr (.inr z)
  have kp : Kp S (fun a => a = pa ∨ a = aa ∨ a = aa' ∨ X a) H H' := fun c o e w => by
    refine f c o e (fun z => ?_) (fun z => ?_) (fun z => ?_)
    · subst z; rw [h1] at e; cases e; exact absurd w id
    · subst z; rw [h3] at e; cases e; exact w (.inl rfl)
    · subst z; rw [h5] at e; cases e; exact w (.inr (.inl rfl))
  have hb : ∀ o, H b = some o → H' b = some o := fun o e => f b o e (fun z => by subst z; rw [h1] at g1; cases g1) (fun z => by subst z; rw [h3] at g1; cases g1) (fun z => by subst z; rw [h5] at g1; cases g1)
  exact (hN.kp kp hb).more fun a us z _ => by
    rcases z with z | z | z
    · exact .inl z
    · exact .inr (.inr (.inl z))
    · exact .inr (.inr (.inr z))
theorem DT.two' {H : Hp} {n : Nat} {a : Addr} {u v : V} {d e : PyData} (h : H a = some (.lst [u, v])) (hu : DT H n u d) (hv : DT H n v e) : DT H (n + 1) (.ref a) (.list [d, e]) := by
  refine .lst h rfl (by show 2 ≤ 14000000; decide) fun k x d' hx hd => ?_
  match k, hx, hd with
  | 0, hx, hd => cases hx; cases hd; exact hu
  | 1, hx, hd => cases hx; cases hd; exact hv
theorem RL.dt {H : Hp} {n : Nat} {a : Addr} {xs : List V} {rs : List Rw} (h : H a = some (.lst xs)) (rl : RL H xs rs) (hl : rs.length ≤ 1000) : DT H (n + 2) (.ref a) (.list (rs.map rwD)) := by
  refine .lst h (by rw [List.length_map]; exact rl.len) (by rw [rl.len]; omega) fun k x d hx hd => ?_
  rw [List.getElem?_map] at hd
  obtain ⟨r, hr, rfl⟩ := Option.map_eq_some_iff.mp hd
  obtain ⟨t, rfl, ht⟩ := rl.at_ k x r hx hr
  refine .tup ht rfl (by show 5 ≤ 14000000; decide) fun j y e hy he => ?_
  match j, hy, he with
  | 0, hy, he => cases hy; cases he; exact .int _
  | 1, hy, he => cases hy; cases he; exact .int _
  | 2, hy, he => cases hy; cases he; exact .int _
  | 3, hy, he => cases hy; cases he; exact .int _
  | 4, hy, he => cases hy; cases he; exact .bl _
theorem ML.dt' {H : Hp} {n : Nat} {a : Addr} {xs : List V} {ms : List Me} (h : H a = some (.lst xs)) (rl : ML H xs ms) (hl : ms.length ≤ 1000) : DT H (n + 2) (.ref a) (.list (ms.map meD')) := by
  refine .lst h (by rw [List.length_map]; exact rl.len) (by rw [rl.len]; omega) fun k x d hx hd => ?_
  rw [List.getElem?_map] at hd
  obtain ⟨r, hr, rfl⟩ := Option.map_eq_some_iff.mp hd
  obtain ⟨t, rfl, ht⟩ := rl.at_ k x r hx hr
  refine .tup ht rfl (by show 4 ≤ 14000000; decide) fun j y e hy he => ?_
  match j, hy, he with
  | 0, hy, he => cases hy; cases he; exact .int _
  | 1, hy, he => cases hy; cases he; exact .str _
  | 2, hy, he => cases hy; cases he; exact .int _
  | 3, hy, he => cases hy; cases he; exact .int _
end Rep
namespace Rep
open PySem L2 L2H RepHot
def spMet (BK S : Addr) : Sp := fun vs H Q _ => ∃ (X : Addr → Prop) (b m pa aa : Addr) (dv : V) (past : List Sht) (now : Sht) (ahead : List Sht) (sv nv : V) (de : De), vs = [.ref b, .ref m, dv] ∧ Duo X BK S H b m pa aa past now ahead sv nv ∧ DeAt H dv de ∧ deOk de ∧ Wf now ∧ (∀ s ∈ past, Wf s) ∧ (∀ s ∈ ahead, Wf s) ∧ past.length + ahead.length ≤ 900 ∧ NX X H ∧
  ∀ r H' aa' sv' nv', Kin H H' → RStp past now ahead de r → (∀ c o, H c = some o → c ≠ b → c ≠ m → c ≠ pa → c ≠ aa → H' c = some o) → (aa' = aa ∨ H aa' = none) → Duo X BK S H' b m pa aa' (resB past now ahead r).1 (resB past now ahead r).2.1 (resB past now ahead r).2.2 sv' nv' → (∀ j, r = .inl j → sv' = sv ∧ nv' = nv) → (∀ o p n a, r = .inr (o, p, n, a) → nv' = .non ∧ SvK sv sv' now n) → Q (.bl true) H'
theorem scLmet : FnScope ["_law_book_here", "_law_model", "_law_deed_here"] ["_law_book_here", "_law_model", "_law_deed_here"] (defScope s_law_met) := ⟨rfl, rfl, rfl, by decide +kernel, rfl, by decide +kernel, by decide +kernel⟩
structure TMt (Pg : Program) (w : World) (K : PySem.W.Frag) (mg : Str → Option Value) (base : Heap) (BK S : Addr) (fDo fDm fE : Addr) (fdDo fdDm fdE : FuncData) : Prop where
  gDo : FnOk Pg w K mg base CX0 12 fDo fdDo ["_law_book_here", "_law_deed_here"] (spDo BK S)
  bDo : Binds K fdDo ["_law_book_here", "_law_deed_here"] []
  kDo : PySem.W.keepIn K (.ref fDo) = true
  mDo : mg "_law_do" = some (.ref fDo)
  gDm : FnOk Pg w K mg base CX0 10 fDm fdDm ["_law_book_here", "_law_deed_here"] spDm
  bDm : Binds K fdDm ["_law_book_here", "_law_deed_here"] []
  kDm : PySem.W.keepIn K (.ref fDm) = true
  mDm : mg "_law_do_model" = some (.ref fDm)
  gE : FnOk Pg w K mg base CX0 7 fE fdE ["_law_told", "_law_due"] (spSame 7)
  bE : Binds K fdE ["_law_told", "_law_due"] []
  kE : PySem.W.keepIn K (.ref fE) = true
  mE : mg "_law_same" = some (.ref fE)
theorem DT.wt {H : Hp} {n : Nat} {t : Addr} {w : Str} {r : Res} (h : H t = some (.tup [.str w, toldR r])) : ∃ d : PyData, (∀ {H' : Hp} {t' : Addr}, H' t' = some (.tup [.str w, toldR r]) → DT H' (n + 1) (.ref t') d) := by
  obtain ⟨d, hd⟩ : ∃ d : PyData, ∀ {H' : Hp} {k : Nat}, DT H' k (toldR r) d := by
    cases r with
    | inl j => exact ⟨.none, .non⟩
    | inr x =>
      obtain ⟨o, y⟩ := x
      cases o with
      | none => exact ⟨.none, .non⟩
      | some z => exact ⟨.int z, .int z⟩
  refine ⟨.tuple [.str w, d], fun {H' t'} h' => .tup h' rfl (by show 2 ≤ 14000000; decide) fun k x d' hx hd' => ?_⟩
  match k, hx, hd' with
  | 0, hx, hd' => cases hx; cases hd'; exact .str _
  | 1, hx, hd' => cases hx; cases hd'; exact hd
section
variable {Pg : Program} {w : World} {K : PySem.W.Frag} {mg : Str → Option Value} {base : Heap} {BK S : Addr} {fDo fDm fE : Addr} {fdDo fdDm fdE : FuncData}
theorem ok_lmet {f : Addr} {fd : FuncData} (F : Fun K "_law_met" "_law_met" s_law_met f fd) (T : TMt Pg w K mg base BK S fDo fDm fE fdDo fdDm fdE) : FnOk Pg w K mg base CX0 13 f fd ["_law_book_here", "_law_model", "_law_deed_here"] (spMet BK S) := by
  refine F.ok scLmet (fun vs H Q E h => ?_) (fun cdv A outer s H vs Q E hr h => ?_)
  · obtain ⟨X, b, m, pa, aa, dv, past, now, ahead, sv, nv, de, rfl, _⟩ := h; rfl
  obtain ⟨X, b, m, pa, aa, dv, past, now, ahead, sv, nv, de, rfl, duo, da, dok, wn, wp, wa, ln, nx, q⟩ := h
  have r12 : Room 12 _ := hr
  have r10 : Room 10 _ := hr.mono (by decide)
  have r7 : Room 7 _ := hr.mono (by decide)
  refine ⟨_, (pss_one (ps_ret (pe_call T.gE r7 (by rfl) T.mE T.kE T.bE .nil pass0 (pa_cons (pe_call T.gDo r12 (by rfl) T.mDo T.kDo T.bDo .nil pass0 (pa_cons (pv 0) (pa_cons (pv 2) pa_nil))) (pa_cons (pe_call T.gDm r10 (by rfl) T.mDm T.kDm T.bDm .nil pass0 (pa_cons (pv 1) (pa_cons (pv 2) pa_nil))) pa_nil))))), ?_⟩
  obtain ⟨dx, l, vs, g1, _⟩ := duo.bk.ex
  refine ⟨.ref b, rfl, dv, rfl, b, dv, Nn X pa aa, past, now, ahead, sv, nv, de, rfl, duo.bk, da, dok, (duo.md.na nx).na, wn, ln, fun r H1 t1 hr1 bkr z1 => ?_⟩
  obtain ⟨sm, sv', nv', bk1, k1, k2⟩ := bkr
  have md1 := duo.md.sam sm g1
  have da1 : DeAt H1 dv de := da.ts (TS.sam sm g1 (fun _ z => by cases z))
  have kin1 : Kin H H1 := fun c us e => ⟨us, sm c _ e (fun z => by rw [z, g1] at e; cases e)⟩
  refine ⟨.ref m, rfl, dv, rfl, X, m, pa, aa, dv, past, now, ahead, de, rfl, md1, da1, dok, wn, wp, wa, ln, nx.kin kin1, fun r2 hr2 H2 t2 aa' f2 aa2 ha md2 z2 => ?_⟩
  obtain rfl := hr2.uniq hr1
  have bk2 := bk1.frm md1 f2 ha
  obtain ⟨tv, ps, as, h1, h2, h3, h4, h5, h6, h7⟩ := md1.ex
  have z1' : H2 t1 = some (.tup [.str (wordR r2), toldR r2]) := f2 _ _ z1 (fun z => by rw [z, h1] at z1; cases z1) (fun z => by rw [z, h3] at z1; cases z1) (fun z => by rw [z, h5] at z1; cases z1)
  obtain ⟨d, hd⟩ := DT.wt (n := 5) z2
  refine ⟨.ref t1, .ref t2, d, rfl, hd z1', hd z2, fun H3 s3 => ?_⟩
  have kin2 : Kin H1 H2 := fun c us e => by
    by_cases y1 : c = pa
    · subst y1
      obtain ⟨_, ps2, _, _, _, e2, _⟩ := md2.ex
      exact ⟨ps2, e2⟩
    by_cases y2 : c = aa
    · subst y2; exact aa2
    exact ⟨us, f2 c _ e (fun z => by rw [z, h1] at e; cases e) y1 y2⟩
  refine q r2 H3 aa' sv' nv' (kin1.trans (kin2.trans (.of s3))) hr2 (fun c o e n1 n2 n3 n4 => s3 _ _ (f2 c o (sm c o e n1) n2 n3 n4)) (ha.imp id fun e => ?_) ⟨bk2.same s3, md2.same s3⟩ k1 k2
  cases e0 : H aa' with
  | none => rfl
  | some o =>
    exfalso
    obtain ⟨dx1, l1, vs1, g2, _⟩ := bk1.ex
    by_cases z : aa' = b
    · rw [z, g2] at e; cases e
    · rw [sm _ _ e0 z] at e; cases e
end
end Rep
namespace Rep
open PySem L2 L2H RepHot
/-! whether the book stands as the model -/
def spStd (BK S : Addr) : Sp := fun vs H Q _ => ∃ (X : Addr → Prop) (b m pa aa : Addr) (past : List Sht) (now : Sht) (ahead : List Sht) (sv nv : V), vs = [.ref b, .ref m] ∧ Duo X BK S H b m pa aa past now ahead sv nv ∧ Wf now ∧ past.length + ahead.length ≤ 900 ∧ ∀ H', Same H H' → Q (.bl true) H'
theorem scLst : FnScope ["_law_book_here", "_law_model", "_law_length", "_law_coming", "_law_sayings", "_law_memories"] ["_law_book_here", "_law_model"] (defScope s_law_stands) := ⟨rfl, rfl, rfl, by decide +kernel, rfl, by decide +kernel, by decide +kernel⟩
structure TSt (Pg : Program) (w : World) (K : PySem.W.Frag) (mg : Str → Option Value) (base : Heap) (BK S : Addr) (fbl fbc fba fbm fbu fbr fE : Addr) (fdbl fdbc fdba fdbm fdbu fdbr fdE : FuncData) : Prop where
  clB : Cls K BK
  mbl : Meth K BK "length" fbl
  gbl : FnOk Pg w K mg base CX0 8 fbl fdbl ["self"] (spBlen BK S)
  bbl : Binds K fdbl ["self"] []
  mbc : Meth K BK "coming" fbc
  gbc : FnOk Pg w K mg base CX0 8 fbc fdbc ["self"] (spBcom BK S)
  bbc : Binds K fdbc ["self"] []
  mba : Meth K BK "sayings" fba
  gba : FnOk Pg w K mg base CX0 8 fba fdba ["self"] (spBsay BK S)
  bba : Binds K fdba ["self"] []
  mbm : Meth K BK "memories" fbm
  gbm : FnOk Pg w K mg base CX0 8 fbm fdbm ["self"] (spBmem BK S)
  bbm : Binds K fdbm ["self"] []
  mbu : Meth K BK "undoable" fbu
  gbu : FnOk Pg w K mg base CX0 7 fbu fdbu ["self"] (spBundb BK S)
  bbu : Binds K fdbu ["self"] []
  mbr : Meth K BK "redoable" fbr
  gbr : FnOk Pg w K mg base CX0 7 fbr fdbr ["self"] (spBredb BK S)
  bbr : Binds K fdbr ["self"] []
  gE : FnOk Pg w K mg base CX0 7 fE fdE ["_law_told", "_law_due"] (spSame 7)
  bE : Binds K fdE ["_law_told", "_law_due"] []
  kE : PySem.W.keepIn K (.ref fE) = true
  mE : mg "_law_same" = some (.ref fE)
  ml : mg "len" = none
section
variable {Pg : Program} {w : World} {K : PySem.W.Frag} {mg : Str → Option Value} {base : Heap} {BK S : Addr} {fbl fbc fba fbm fbu fbr fE : Addr} {fdbl fdbc fdba fdbm fdbu fdbr fdE : FuncData}
theorem ok_lst {f : Addr} {fd : FuncData} (F : Fun K "_law_stands" "_law_stands" s_law_stands f fd) (T : TSt Pg w K mg base BK S fbl fbc fba fbm fbu fbr fE fdbl fdbc fdba fdbm fdbu fdbr fdE) : FnOk Pg w K mg base CX0 9 f fd ["_law_book_here", "_law_model"] (spStd BK S) := by
  refine F.ok scLst (fun vs H Q E h => ?_) (fun cdv A outer s H vs Q E hr h => ?_)
  · obtain ⟨X, b, m, pa, aa, past, now, ahead, sv, nv, rfl, _⟩ := h; rfl
  obtain ⟨X, b, m, pa, aa, past, now, ahead, sv, nv, rfl, duo, wn, ln, q⟩ := h
  have r8 : Room 8 _ := hr
  have r7 : Room 7 _ := hr.mono (by decide)
  have hu := hu_of hr
  refine ⟨_, (C8.pss_cut (ps_asg (pe_dget hu (pv 1) pe_str (fun _ _ => rfl)) (pg_tup rfl (pgs_cons (pg_name (i := 2) scLst.nd rfl (.inl rfl)) (pgs_cons (pg_name (i := 3) scLst.nd rfl (.inl rfl)) (pgs_cons (pg_name (i := 4) scLst.nd rfl (.inl rfl)) (pgs_cons (pg_name (i := 5) scLst.nd rfl (.inl rfl)) pgs_nil))))))
    (C8.pss_cut (ps_if (pt_not (pt_val (pe_call T.gE r7 (by rfl) T.mE T.kE T.bE .nil pass0 (pa_cons (pe_lst (pa_cons (pe_meth0 (pv 0) T.clB T.mbl T.gbl r8 T.bbl .nil pass0) (pa_cons (pe_meth0 (pv 0) T.clB T.mbc T.gbc r8 T.bbc .nil pass0) pa_nil))) (pa_cons (pe_lst (pa_cons (pv 2) (pa_cons (pv 3) pa_nil))) pa_nil))))) (pss_one (ps_ret pe_bl)) pss_nil)
    (C8.pss_cut (ps_if (pt_not (pt_val (pe_call T.gE r7 (by rfl) T.mE T.kE T.bE .nil pass0 (pa_cons (pe_lst (pa_cons (pe_meth0 (pv 0) T.clB T.mba T.gba r8 T.bba .nil pass0) (pa_cons (pe_meth0 (pv 0) T.clB T.mbm T.gbm r8 T.bbm .nil pass0) pa_nil))) (pa_cons (pe_lst (pa_cons (pv 4) (pa_cons (pv 5) pa_nil))) pa_nil))))) (pss_one (ps_ret pe_bl)) pss_nil)
    (pss_one (ps_ret (pe_call T.gE r7 (by rfl) T.mE T.kE T.bE .nil pass0 (pa_cons (pe_lst (pa_cons (pe_meth0 (pv 0) T.clB T.mbu T.gbu r7 T.bbu .nil pass0) (pa_cons (pe_meth0 (pv 0) T.clB T.mbr T.gbr r7 T.bbr .nil pass0) pa_nil))) (pa_cons (pe_lst (pa_cons (pe_callB call_len_seq (by rfl) T.ml PySem.boot_len (pa_cons (pe_dget hu (pv 1) pe_str (fun _ _ => rfl)) pa_nil)) (pa_cons (pe_callB call_len_seq (by rfl) T.ml PySem.boot_len (pa_cons (pe_dget hu (pv 1) pe_str (fun _ _ => rfl)) pa_nil)) pa_nil))) pa_nil)))))))), ?_⟩
  obtain ⟨tv, ps, as, h1, h2, h3, h4, h5, h6, h7⟩ := duo.md.ex
  obtain ⟨t, la, lb, xs, ys, rfl, k2, k3, k4, k5, k6, k7, k8⟩ := h2.ex
  obtain ⟨e1, e2, e3⟩ := sts_at (past := past) (now := now) (ahead := ahead)
  have w1 := wn.l1
  have w2 := wn.l2
  have bk := duo.bk
  refine ⟨fun σ' H' => σ' = [some (.ref b), some (.ref m), some (.int now.size), some (.int now.coming), some (.ref la), some (.ref lb)] ∧ H' = H, ?_, ?_⟩
  · exact ⟨.ref m, rfl, m, .ref t, rfl, .inl ⟨_, .inr "now", .inl h1, rfl, (md_now _ pa aa).symm⟩, t, _, rfl, .inl (.inl k2), rfl, _, _, rfl, _, _, rfl, _, _, rfl, _, _, rfl, rfl, rfl, rfl⟩
  rintro σ' H' ⟨rfl, eH⟩
  subst eH
  -- lengths and numbers
  refine ⟨fun σ' H1 => σ' = [some (.ref b), some (.ref m), some (.int now.size), some (.int now.coming), some (.ref la), some (.ref lb)] ∧ Same H' H1, ?_, ?_⟩
  · obtain ⟨dx, fs, hi, hn⟩ := bk.ins (m := "length") (by decide +kernel)
    obtain ⟨dx2, fs2, hi2, hn2⟩ := bk.ins (m := "coming") (by decide +kernel)
    refine ⟨.ref b, rfl, b, dx, _, rfl, hi, hn, b, _, _, _, sv, nv, rfl, bk, fun s1 hs1 => ?_⟩
    obtain rfl : now = s1 := Option.some.inj (e1.symm.trans hs1)
    refine ⟨.ref b, rfl, b, dx2, _, rfl, hi2, hn2, b, _, _, _, sv, nv, rfl, bk, fun s2 hs2 => ?_⟩
    obtain rfl : now = s2 := Option.some.inj (e1.symm.trans hs2)
    refine ⟨szN 2 rfl, fun l1 n_l1 => ?_⟩
    generalize e_l1 : upd H' l1 _ = H1
    have u1 := new_same e_l1 n_l1
    have z1 := new_at e_l1
    clear e_l1
    refine ⟨.int now.size, rfl, .int now.coming, rfl, ?_⟩
    refine ⟨szN 2 rfl, fun l2 n_l2 => ?_⟩
    generalize e_l2 : upd H1 l2 _ = H2
    have u2 := new_same e_l2 n_l2
    have z2 := new_at e_l2
    clear e_l2
    refine ⟨.ref l1, .ref l2, _, rfl, DT.two' (n := 5) (u2 _ _ z1) (.int _) (.int _), DT.two' z2 (.int _) (.int _), fun H3 u3 => ⟨true, rfl, iteF ⟨rfl, u1.trans (u2.trans u3)⟩⟩⟩
  rintro σ' H1 ⟨rfl, u1⟩
  -- sayings and memories
  refine ⟨fun σ' H2 => σ' = [some (.ref b), some (.ref m), some (.int now.size), some (.int now.coming), some (.ref la), some (.ref lb)] ∧ Same H' H2, ?_, ?_⟩
  · have bk1 := bk.same u1
    obtain ⟨dx, fs, hi, hn⟩ := bk1.ins (m := "sayings") (by decide +kernel)
    refine ⟨.ref b, rfl, b, dx, _, rfl, hi, hn, b, _, _, _, sv, nv, rfl, bk1, fun s1 H2 l us hs1 u2 nl el rl => ?_⟩
    obtain rfl : now = s1 := Option.some.inj (e1.symm.trans hs1)
    have bk2 := bk1.same u2
    obtain ⟨dx2, fs2, hi2, hn2⟩ := bk2.ins (m := "memories") (by decide +kernel)
    refine ⟨.ref b, rfl, b, dx2, _, rfl, hi2, hn2, b, _, _, _, sv, nv, rfl, bk2, fun s2 H3 l' ws hs2 u3 nl' el' ml' => ?_⟩
    obtain rfl : now = s2 := Option.some.inj (e1.symm.trans hs2)
    refine ⟨szN 2 rfl, fun l1 n_l1 => ?_⟩
    generalize e_l1 : upd H3 l1 _ = H4
    have u4 := new_same e_l1 n_l1
    have z4 := new_at e_l1
    clear e_l1
    refine ⟨.ref la, rfl, .ref lb, rfl, ?_⟩
    refine ⟨szN 2 rfl, fun l2 n_l2 => ?_⟩
    generalize e_l2 : upd H4 l2 _ = H5
    have u5 := new_same e_l2 n_l2
    have z5 := new_at e_l2
    clear e_l2
    have u15 := u1.trans (u2.trans (u3.trans (u4.trans u5)))
    have u25 := u3.trans (u4.trans u5)
    have u35 := u4.trans u5
    refine ⟨.ref l1, .ref l2, _, rfl, DT.two' (n := 5) (u5 _ _ z4) (RL.dt (n := 3) (u25 _ _ el) (RL.ts (TS.of u25) rl) (by omega)) (ML.dt' (n := 3) (u35 _ _ el') (ML.ts (TS.of u35) ml') (by omega)), DT.two' z5 (RL.dt (n := 3) (u15 _ _ k3) (RL.ts (TS.of u15) k4) (by omega)) (ML.dt' (n := 3) (u15 _ _ k5) (ML.ts (TS.of u15) k6) (by omega)), fun H6 u6 => ⟨true, rfl, iteF ⟨rfl, u15.trans u6⟩⟩⟩
  rintro σ' H2 ⟨rfl, u2⟩
  have bk2 := bk.same u2
  obtain ⟨dx, fs, hi, hn⟩ := bk2.ins (m := "undoable") (by decide +kernel)
  obtain ⟨dx2, fs2, hi2, hn2⟩ := bk2.ins (m := "redoable") (by decide +kernel)
  refine ⟨.ref b, rfl, b, dx, _, rfl, hi, hn, b, _, _, _, sv, nv, rfl, bk2, .ref b, rfl, b, dx2, _, rfl, hi2, hn2, b, _, _, _, sv, nv, rfl, bk2, ?_⟩
  refine ⟨szN 2 rfl, fun l1 n_l1 => ?_⟩
  generalize e_l1 : upd H2 l1 _ = H3
  have u3 := new_same e_l1 n_l1
  have z3 := new_at e_l1
  clear e_l1
  have u23 := u2.trans u3
  refine ⟨.ref m, rfl, m, .ref pa, rfl, .inl ⟨_, .inr "past", .inl (u23 _ _ h1), rfl, (md_past _ pa aa).symm⟩, pa, ps, rfl, .inl (.inl (.inl (u23 _ _ h3))), .ref m, rfl, m, .ref aa, rfl, .inl ⟨_, .inr "ahead", .inl (u23 _ _ h1), rfl, (md_ahead _ pa aa).symm⟩, aa, as, rfl, .inl (.inl (.inl (u23 _ _ h5))), ?_⟩
  refine ⟨szN 2 rfl, fun l2 n_l2 => ?_⟩
  generalize e_l2 : upd H3 l2 _ = H4
  have u4 := new_same e_l2 n_l2
  have z4 := new_at e_l2
  clear e_l2
  have z3' := u4 _ _ z3
  rw [e3, show ((past.length + 1 + ahead.length : Nat) : Int) - 1 - (past.length : Int) = (ahead.length : Int) by omega, ← h4.len, ← h6.len] at z3'
  exact ⟨.ref l1, .ref l2, _, rfl, DT.two' (n := 5) z3' (.int _) (.int _), DT.two' z4 (.int _) (.int _), fun H5 u5 => q H5 (u23.trans (u4.trans u5))⟩
end
end Rep
namespace Rep
open PySem L2 L2H RepHot
/-! the law's book, made -/
def spLb : Sp := fun vs H Q _ => ∃ e : Int, vs = [.int e] ∧ ∀ H' m pa aa, Same H H' → H m = none → H pa = none → H aa = none → (∀ X, NX X H → MdAt X pa aa H' m [] ⟨e, 1, [], []⟩ []) → Q (.ref m) H'
theorem scLb : FnScope ["_law_length"] ["_law_length"] (defScope s_law_book) := ⟨rfl, rfl, rfl, by decide +kernel, rfl, by decide +kernel, by decide +kernel⟩
theorem ok_lb {Pg : Program} {w : World} {K : PySem.W.Frag} {mg : Str → Option Value} {base : Heap} {f : Addr} {fd : FuncData} {k : Nat} (F : Fun K "_law_book" "_law_book" s_law_book f fd) : FnOk Pg w K mg base CX0 (k + 1) f fd ["_law_length"] spLb := by
  refine F.ok scLb (fun vs H Q E h => ?_) (fun cdv A outer s H vs Q E hr h => ?_)
  · obtain ⟨e, rfl, _⟩ := h; rfl
  obtain ⟨e, rfl, q⟩ := h
  refine ⟨_, (pss_one (ps_ret (pe_disp (pps_cons pe_str (pe_tup (pa_cons (pv 0) (pa_cons pe_int (pa_cons (pe_lst pa_nil) (pa_cons (pe_lst pa_nil) pa_nil))))) (pps_cons pe_str (pe_lst pa_nil) (pps_cons pe_str (pe_lst pa_nil) pps_nil))) rfl rfl (by simp) (by decide)))), ?_⟩
  intro m nm
  have s0 := same_upd (o := .dK []) nm
  have zm : upd H m (.dK []) m = some (.dK []) := upd_same
  generalize upd H m (.dK []) = H0 at s0 zm ⊢
  refine ⟨.int e, rfl, ?_⟩
  refine ⟨szN 0 rfl, fun la n_la => ?_⟩
  generalize e_la : upd H0 la _ = H1
  have u1 := new_same e_la n_la
  have z1 := new_at e_la
  clear e_la
  refine ⟨szN 0 rfl, fun lb n_lb => ?_⟩
  generalize e_lb : upd H1 lb _ = H2
  have u2 := new_same e_lb n_lb
  have z2 := new_at e_lb
  clear e_lb
  refine ⟨szN 4 rfl, fun t n_t => ?_⟩
  generalize e_t : upd H2 t _ = H3
  have u3 := new_same e_t n_t
  have z3 := new_at e_t
  clear e_t
  refine ⟨szN 0 rfl, fun pa n_pa => ?_⟩
  generalize e_pa : upd H3 pa _ = H4
  have u4 := new_same e_pa n_pa
  have z4 := new_at e_pa
  clear e_pa
  refine ⟨szN 0 rfl, fun aa n_aa => ?_⟩
  generalize e_aa : upd H4 aa _ = H5
  have u5 := new_same e_aa n_aa
  have z5 := new_at e_aa
  clear e_aa
  have u15 := u1.trans (u2.trans (u3.trans (u4.trans u5)))
  refine ⟨u15 _ _ zm, mdK (.ref t) pa aa, rfl, by show 3 ≤ 15; decide, ?_⟩
  have em : mergeK [] (mdK (.ref t) pa aa) = mdK (.ref t) pa aa := by
    unfold mergeK mdK
    simp only [List.foldl_cons, List.foldl_nil]
    have p1 : putK ([] : List (Key × V)) (Sum.inr "now") (V.ref t) = ([((Sum.inr ("now" : Str) : Key), V.ref t)] : List (Key × V)) := rfl
    have p2 : putK ([((Sum.inr ("now" : Str) : Key), V.ref t)] : List (Key × V)) (Sum.inr "past") (V.ref pa) = ([((Sum.inr ("now" : Str) : Key), V.ref t), ((Sum.inr ("past" : Str) : Key), V.ref pa)] : List (Key × V)) := by
      unfold putK
      rw [if_neg (by have := kk.1; simpa using this)]; rfl
    have p3 : putK ([((Sum.inr ("now" : Str) : Key), V.ref t), ((Sum.inr ("past" : Str) : Key), V.ref pa)] : List (Key × V)) (Sum.inr "ahead") (V.ref aa) = ([((Sum.inr ("now" : Str) : Key), V.ref t), ((Sum.inr ("past" : Str) : Key), V.ref pa), ((Sum.inr ("ahead" : Str) : Key), V.ref aa)] : List (Key × V)) := by
      unfold putK
      rw [if_neg (by have h1 := kk.2.1; have h2 := kk.2.2; simp at h1 h2 ⊢; exact ⟨h1, h2⟩)]; rfl
    rw [p1, p2, p3]
  rw [em]
  have s05 := s0.trans u15
  have n0la : H la = none := Same.free s0 n_la
  have n0lb : H lb = none := Same.free (s0.trans u1) n_lb
  have nla : la ≠ m := fun z => by rw [z, zm] at n_la; cases n_la
  have nlb : lb ≠ m := fun z => by rw [z, u1 _ _ zm] at n_lb; cases n_lb
  have npa : pa ≠ m := fun z => by rw [z, (u1.trans (u2.trans u3)) _ _ zm] at n_pa; cases n_pa
  have naa : aa ≠ m := fun z => by rw [z, (u1.trans (u2.trans (u3.trans u4))) _ _ zm] at n_aa; cases n_aa
  have nt : t ≠ m := fun z => by rw [z, (u1.trans u2) _ _ zm] at n_t; cases n_t
  have npq : pa ≠ aa := fun z => by rw [← z, z4] at n_aa; cases n_aa
  have nlp : la ≠ pa := fun z => by rw [← z, (u2.trans u3) _ _ z1] at n_pa; cases n_pa
  have nlq : la ≠ aa := fun z => by rw [← z, (u2.trans (u3.trans u4)) _ _ z1] at n_aa; cases n_aa
  have nbp : lb ≠ pa := fun z => by rw [← z, u3 _ _ z2] at n_pa; cases n_pa
  have nbq : lb ≠ aa := fun z => by rw [← z, (u3.trans u4) _ _ z2] at n_aa; cases n_aa
  have fin : ∀ {c : Addr} {o : HO}, H5 c = some o → c ≠ m → upd H5 m (.dK (mdK (.ref t) pa aa)) c = some o := fun e n => by rw [upd_ne n]; exact e
  refine q _ m pa aa (same_over s05 nm) nm (Same.free (s0.trans (u1.trans (u2.trans u3))) n_pa) (Same.free (s0.trans (u1.trans (u2.trans (u3.trans u4)))) n_aa) fun X nx => ⟨.ref t, [], [], upd_same, ⟨t, la, lb, [], [], rfl, fin ((u4.trans u5) _ _ z3) nt, fin ((u2.trans (u3.trans (u4.trans u5))) _ _ z1) nla, LL.nil, fin ((u3.trans (u4.trans u5)) _ _ z2) nlb, LL.nil, fun z => z.elim nlp fun z => z.elim nlq (nx.na.not n0la), fun z => z.elim nbp fun z => z.elim nbq (nx.na.not n0lb)⟩, fin (u5 _ _ z4) npa, LL.nil, fin z5 naa, LL.nil, npq⟩
end Rep
namespace Rep
open PySem L2 L2H RepHot
/-! what a sheet is stays so -/
theorem Wf.step {s s' : Sht} {d : Dd} {o : Option Int} (w : Wf s) (h : Stp s d (.inr (o, s'))) : Wf s' := by
  cases d with
  | say y =>
    rcases h with ⟨h1, h2, h⟩ | ⟨_, _, h⟩ | ⟨_, h⟩ <;> cases h
    refine ⟨?_, w.r2, fun r hr => ?_, fun m hm => ?_, ?_, w.l2, w.lt, w.e⟩
    · show ((s.said ++ [(⟨s.coming, y⟩ : Rw)]).map Rw.num).Pairwise (· < ·)
      rw [List.map_append, List.pairwise_append]
      refine ⟨w.r1, List.pairwise_singleton _ _, fun a ha b hb => ?_⟩
      obtain ⟨r, hr, rfl⟩ := List.mem_map.mp ha
      have hb : b = s.coming := by simpa using hb
      rw [hb]; exact w.c1 r hr
    · show r.num < s.coming + 1
      rcases List.mem_append.mp hr with hr | hr
      · have := w.c1 r hr; omega
      · rw [List.mem_singleton.mp hr]; show s.coming < s.coming + 1; omega
    · show m.num < s.coming + 1
      have := w.c2 m hm; omega
    · show (s.said ++ [_]).length ≤ 24
      rw [List.length_append]; show s.said.length + 1 ≤ 24; omega
  | rem z x m =>
    rcases h with ⟨h0, h1, h2, h⟩ | ⟨_, _, _, h⟩ | ⟨_, _, h⟩ | ⟨_, h⟩ <;> cases h
    refine ⟨w.r1, ?_, fun r hr => ?_, fun m hm => ?_, w.l1, ?_, fun m hm => ?_, w.e⟩
    · show ((s.noted ++ [(⟨s.coming, z, x, m⟩ : Me)]).map Me.num).Pairwise (· < ·)
      rw [List.map_append, List.pairwise_append]
      refine ⟨w.r2, List.pairwise_singleton _ _, fun a ha b hb => ?_⟩
      obtain ⟨r, hr, rfl⟩ := List.mem_map.mp ha
      have hb : b = s.coming := by simpa using hb
      rw [hb]; exact w.c2 r hr
    · show r.num < s.coming + 1
      have := w.c1 r hr; omega
    · show m.num < s.coming + 1
      rcases List.mem_append.mp hm with hm | hm
      · have := w.c2 m hm; omega
      · rw [List.mem_singleton.mp hm]; show s.coming < s.coming + 1; omega
    · show (s.noted ++ [_]).length ≤ 24
      rw [List.length_append]; show s.noted.length + 1 ≤ 24; omega
    · rcases List.mem_append.mp hm with hm | hm
      · exact w.lt m hm
      · rw [List.mem_singleton.mp hm]; exact h0
  | unsay n =>
    rcases h with ⟨k, h1, h⟩ | ⟨_, h⟩ <;> cases h
    have sb := List.eraseIdx_sublist s.said k
    refine ⟨w.r1.sublist (sb.map _), w.r2, fun r hr => w.c1 r (sb.subset hr), w.c2, Nat.le_trans sb.length_le w.l1, w.l2, w.lt, w.e⟩
  | forget n =>
    rcases h with ⟨k, h1, h⟩ | ⟨_, h⟩ <;> cases h
    have sb := List.eraseIdx_sublist s.noted k
    refine ⟨w.r1, w.r2.sublist (sb.map _), w.c1, fun r hr => w.c2 r (sb.subset hr), w.l1, Nat.le_trans sb.length_le w.l2, fun m hm => w.lt m (sb.subset hm), w.e⟩
  | amend n y =>
    rcases h with ⟨k, h1, h2, h⟩ | ⟨_, _, _, h⟩ | ⟨_, h⟩ <;> cases h
    have en : (s.said.set k ⟨n, y⟩).map Rw.num = s.said.map Rw.num := by
      rw [List.map_set]
      refine List.ext_getElem? fun i => ?_
      rw [List.getElem?_set]
      by_cases z : k = i
      · subst z
        have hl := (List.getElem?_eq_some_iff.mp h1.1).1
        rw [if_pos rfl, if_pos hl, h1.1]
      · rw [if_neg z]
    have nl : n < s.coming := by
      obtain ⟨r, hr, e⟩ := List.mem_map.mp h1.mem
      rw [← e]; exact w.c1 r hr
    refine ⟨by rw [show ({ s with said := s.said.set k ⟨n, y⟩ } : Sht).said.map Rw.num = s.said.map Rw.num from en]; exact w.r1, w.r2, fun r hr => ?_, w.c2, by show (s.said.set k _).length ≤ 24; rw [List.length_set]; exact w.l1, w.l2, w.lt, w.e⟩
    rcases List.mem_or_eq_of_mem_set hr with hr | hr
    · exact w.c1 r hr
    · rw [hr]; exact nl
  | longer m =>
    rcases h with ⟨h1, h2, h⟩ | ⟨_, h⟩ <;> cases h
    exact ⟨w.r1, w.r2, w.c1, w.c2, w.l1, w.l2, w.lt, h2⟩
  | shorter m =>
    rcases h with ⟨h1, h2, h3, h⟩ | ⟨_, _, _, h⟩ | ⟨_, h⟩ <;> cases h
    exact ⟨w.r1, w.r2, w.c1, w.c2, w.l1, w.l2, w.lt, h2⟩
theorem RStp.wf {past ahead : List Sht} {now : Sht} {de : De} {r : Res} (h : RStp past now ahead de r) (wn : Wf now) (wp : ∀ s ∈ past, Wf s) (wa : ∀ s ∈ ahead, Wf s) :
    Wf (resB past now ahead r).2.1 ∧ (∀ s ∈ (resB past now ahead r).1, Wf s) ∧ (∀ s ∈ (resB past now ahead r).2.2, Wf s) ∧ (resB past now ahead r).1.length + (resB past now ahead r).2.2.length ≤ past.length + ahead.length + 1 := by
  have w1 : ∀ s ∈ past ++ [now], Wf s := fun s hs => (List.mem_append.mp hs).elim (wp s) fun z => by rw [List.mem_singleton.mp z]; exact wn
  have w2 : ∀ s ∈ ahead ++ [now], Wf s := fun s hs => (List.mem_append.mp hs).elim (wa s) fun z => by rw [List.mem_singleton.mp z]; exact wn
  cases de with
  | dd d =>
    obtain ⟨r0, h1, rfl⟩ := h
    cases r0 with
    | inl j => exact ⟨wn, wp, wa, Nat.le_succ _⟩
    | inr x =>
      obtain ⟨o, s'⟩ := x
      exact ⟨wn.step h1, w1, fun s hs => (nomatch hs), by show (past ++ [now]).length + 0 ≤ _; rw [List.length_append]; show past.length + 1 + 0 ≤ _; omega⟩
  | undo =>
    rcases h with ⟨a, rfl⟩ | ⟨p, x, rfl, rfl⟩
    · exact ⟨wn, wp, wa, Nat.le_succ _⟩
    · refine ⟨wp x (List.mem_append_right _ (List.mem_singleton.mpr rfl)), fun s hs => wp s (List.mem_append_left _ hs), w2, ?_⟩
      show p.length + (ahead ++ [now]).length ≤ (p ++ [x]).length + ahead.length + 1
      rw [List.length_append, List.length_append]
      show p.length + (ahead.length + 1) ≤ p.length + 1 + ahead.length + 1
      omega
  | redo =>
    rcases h with ⟨a, rfl⟩ | ⟨p, x, rfl, rfl⟩
    · exact ⟨wn, wp, wa, Nat.le_succ _⟩
    · refine ⟨wa x (List.mem_append_right _ (List.mem_singleton.mpr rfl)), w1, fun s hs => wa s (List.mem_append_left _ hs), ?_⟩
      show (past ++ [now]).length + p.length ≤ past.length + (p ++ [x]).length + 1
      rw [List.length_append, List.length_append]
      show past.length + 1 + p.length ≤ past.length + (p.length + 1) + 1
      omega
theorem make_bk {BK S BL b dx : Addr} {H : Hp} {e : Int} {Q : Hp → Prop} {E : XK} (he : In40 e) (np : H b = none) (ndx : H dx = none) (ne : dx ≠ b) (q : ∀ H', Same H H' → BkAt BK S (fun _ => False) H' b [⟨e, 1, [], []⟩] 0 .non .non → Q H') :
    spBinit BK S BL [.ref b, .int e] (upd (upd H dx (.own b)) b (.ins BK dx [])) (fun v H' => v = .non ∧ Q H') E := by
  have np' : upd H dx (.own b) b = none := by rw [upd_ne ne.symm]; exact np
  have s5 : Same H (upd (upd H dx (.own b)) b (.ins BK dx [])) := (same_upd ndx).trans (same_upd np')
  refine ⟨b, dx, fun _ => False, e, rfl, upd_same, fun a z => z.elim, fun _ H6 s6 bk => ⟨rfl, q H6 (fun c o hc => s6 c o (s5 _ _ hc) (fun z => by rw [z, np] at hc; cases hc)) bk⟩, fun z => absurd he z⟩
theorem make_bkX {X : Addr → Prop} {BK S BL b dx : Addr} {H : Hp} {e : Int} {Q : Hp → Prop} {E : XK} (nx : NX X H) (he : In40 e) (np : H b = none) (ndx : H dx = none) (ne : dx ≠ b) (q : ∀ H', Same H H' → H b = none → BkAt BK S X H' b [⟨e, 1, [], []⟩] 0 .non .non → Q H') :
    spBinit BK S BL [.ref b, .int e] (upd (upd H dx (.own b)) b (.ins BK dx [])) (fun v H' => v = .non ∧ Q H') E := by
  have np' : upd H dx (.own b) b = none := by rw [upd_ne ne.symm]; exact np
  have s5 : Same H (upd (upd H dx (.own b)) b (.ins BK dx [])) := (same_upd ndx).trans (same_upd np')
  refine ⟨b, dx, X, e, rfl, upd_same, fun a z => (nx.same s5).na a z, fun _ H6 s6 bk => ⟨rfl, q H6 (fun c o hc => s6 c o (s5 _ _ hc) (fun z => by rw [z, np] at hc; cases hc)) np bk⟩, fun z => absurd he z⟩
def spLawB (K : PySem.W.Frag) : Sp := fun vs H Q _ => ∃ (a : Addr) (ns : List Int), vs = [.ref a] ∧ SqL K H a (ns.map V.int) ∧ ns.length ≤ 63 ∧ ∀ H', Q (.bl true) H'
end Rep
namespace Rep
open PySem L2 L2H RepHot
/-! sayings and memories fit a sheet's song -/
structure Fit (s : Sht) : Prop where
  a : ∀ r ∈ s.said, Gd2 s.size r.sy
  b : ∀ m ∈ s.noted, St_ m.at_ m.n s.size
theorem fit0 {L c : Int} : Fit ⟨L, c, [], []⟩ := ⟨fun r hr => (nomatch hr), fun r hr => (nomatch hr)⟩
theorem St_.mono {x n e e' : Int} (h : St_ x n e) (k : e ≤ e') : St_ x n e' := ⟨h.1, h.2.1, Int.le_trans h.2.2 k⟩
theorem Fit.step {s s' : Sht} {d : Dd} {o : Option Int} (w : Fit s) (h : Stp s d (.inr (o, s'))) : Fit s' := by
  cases d with
  | say y =>
    rcases h with ⟨h1, h2, h⟩ | ⟨_, _, h⟩ | ⟨_, h⟩ <;> cases h
    refine ⟨fun r hr => ?_, w.b⟩
    rcases List.mem_append.mp hr with hr | hr
    · exact w.a r hr
    · rw [List.mem_singleton.mp hr]; exact h1
  | unsay n =>
    rcases h with ⟨k, h1, h⟩ | ⟨_, h⟩ <;> cases h
    exact ⟨fun r hr => w.a r (List.mem_of_mem_eraseIdx hr), w.b⟩
  | amend n y =>
    rcases h with ⟨k, h1, h2, h⟩ | ⟨_, _, _, h⟩ | ⟨_, h⟩ <;> cases h
    refine ⟨fun r hr => ?_, w.b⟩
    rcases List.mem_or_eq_of_mem_set hr with hr | hr
    · exact w.a r hr
    · rw [hr]; exact h2
  | rem z x m =>
    rcases h with ⟨h0, h1, h2, h⟩ | ⟨_, _, _, h⟩ | ⟨_, _, h⟩ | ⟨_, h⟩ <;> cases h
    refine ⟨w.a, fun r hr => ?_⟩
    rcases List.mem_append.mp hr with hr | hr
    · exact w.b r hr
    · rw [List.mem_singleton.mp hr]; exact h1
  | forget n =>
    rcases h with ⟨k, h1, h⟩ | ⟨_, h⟩ <;> cases h
    exact ⟨w.a, fun r hr => w.b r (List.mem_of_mem_eraseIdx hr)⟩
  | longer m =>
    rcases h with ⟨h1, h2, h⟩ | ⟨_, h⟩ <;> cases h
    have k : s.size ≤ s.size + m := by omega
    exact ⟨fun r hr => ⟨(w.a r hr).1.mono k, (w.a r hr).2.mono k⟩, fun r hr => (w.b r hr).mono k⟩
  | shorter m =>
    rcases h with ⟨h1, h2, h3, h⟩ | ⟨_, _, _, h⟩ | ⟨_, h⟩ <;> cases h
    refine ⟨fun r hr => ?_, fun r hr => ?_⟩
    · have e := h3 ((if r.sy.lo < r.sy.hi then r.sy.hi else r.sy.lo) + r.sy.n) (List.mem_append_left _ (List.mem_map.mpr ⟨r, hr, rfl⟩))
      obtain ⟨⟨a1, a2, _⟩, ⟨_, b2, _⟩⟩ := w.a r hr
      have c1 : r.sy.lo + r.sy.n ≤ s.size - m := by split at e <;> omega
      have c2 : r.sy.hi + r.sy.n ≤ s.size - m := by split at e <;> omega
      exact ⟨⟨a1, a2, c1⟩, ⟨a1, b2, c2⟩⟩
    · have e := h3 (r.at_ + r.n) (List.mem_append_right _ (List.mem_map.mpr ⟨r, hr, rfl⟩))
      obtain ⟨a1, a2, _⟩ := w.b r hr
      exact ⟨a1, a2, e⟩
/-- a deed of the laws' own draws makes a song by nine places longer, if it does -/
def Few (s : Sht) : De → Prop
  | .dd (.longer m) => m ≤ 9 ∨ 10 ^ 40 ≤ s.size + m
  | _ => True
theorem Stp.few {s s' : Sht} {d : Dd} {o : Option Int} (h : Stp s d (.inr (o, s'))) (f : Few s (.dd d)) : s'.size ≤ s.size + 9 := by
  cases d with
  | say y => rcases h with ⟨_, _, h⟩ | ⟨_, _, h⟩ | ⟨_, h⟩ <;> cases h; show s.size ≤ s.size + 9; omega
  | unsay n => rcases h with ⟨_, _, h⟩ | ⟨_, h⟩ <;> cases h; show s.size ≤ s.size + 9; omega
  | amend n y => rcases h with ⟨_, _, _, h⟩ | ⟨_, _, _, h⟩ | ⟨_, h⟩ <;> cases h; show s.size ≤ s.size + 9; omega
  | rem z x m => rcases h with ⟨_, _, _, h⟩ | ⟨_, _, _, h⟩ | ⟨_, _, h⟩ | ⟨_, h⟩ <;> cases h; show s.size ≤ s.size + 9; omega
  | forget n => rcases h with ⟨_, _, h⟩ | ⟨_, h⟩ <;> cases h; show s.size ≤ s.size + 9; omega
  | longer m =>
    rcases h with ⟨h1, h2, h⟩ | ⟨_, h⟩ <;> cases h
    show s.size + m ≤ s.size + 9
    have f : m ≤ 9 ∨ 10 ^ 40 ≤ s.size + m := f
    have := h2.2
    rcases f with f | f
    · omega
    · omega
  | shorter m =>
    rcases h with ⟨h1, h2, h3, h⟩ | ⟨_, _, _, h⟩ | ⟨_, h⟩ <;> cases h
    show s.size - m ≤ s.size + 9
    omega
/-- what each sheet of a book keeps -/
theorem RStp.all {P : Sht → Prop} {past ahead : List Sht} {now : Sht} {de : De} {r : Res} (h : RStp past now ahead de r) (st : ∀ d o s', de = .dd d → Stp now d (.inr (o, s')) → P s') (wn : P now) (wp : ∀ s ∈ past, P s) (wa : ∀ s ∈ ahead, P s) :
    P (resB past now ahead r).2.1 ∧ (∀ s ∈ (resB past now ahead r).1, P s) ∧ (∀ s ∈ (resB past now ahead r).2.2, P s) := by
  have w1 : ∀ s ∈ past ++ [now], P s := fun s hs => (List.mem_append.mp hs).elim (wp s) fun z => by rw [List.mem_singleton.mp z]; exact wn
  have w2 : ∀ s ∈ ahead ++ [now], P s := fun s hs => (List.mem_append.mp hs).elim (wa s) fun z => by rw [List.mem_singleton.mp z]; exact wn
  cases de with
  | dd d =>
    obtain ⟨r0, h1, rfl⟩ := h
    cases r0 with
    | inl j => exact ⟨wn, wp, wa⟩
    | inr x => exact ⟨st d x.1 x.2 rfl h1, w1, fun s hs => (nomatch hs)⟩
  | undo =>
    rcases h with ⟨_, rfl⟩ | ⟨p, x, rfl, rfl⟩
    · exact ⟨wn, wp, wa⟩
    · exact ⟨wp x (List.mem_append_right _ (List.mem_singleton.mpr rfl)), fun s hs => wp s (List.mem_append_left _ hs), w2⟩
  | redo =>
    rcases h with ⟨_, rfl⟩ | ⟨p, x, rfl, rfl⟩
    · exact ⟨wn, wp, wa⟩
    · exact ⟨wa x (List.mem_append_right _ (List.mem_singleton.mpr rfl)), w1, fun s hs => wa s (List.mem_append_left _ hs)⟩
end Rep
namespace Rep
open PySem L2
/-! words, where they fit -/
/-- a number as a word -/
def nS (n : Nat) : Str := Str.ofString (toString (n : Int))
def wayS (t : Bool) : Str := if t then "turned" else "straight"
theorem nS_S (n : Nat) : nS n = SX.S (TL.numL n) := SX.num_S n
theorem nS_len {n : Nat} (h : n < 10 ^ 40) : (nS n).length ≤ 40 := by
  rw [nS_S, SX.S_len]
  exact TL.numL_len (by decide) h
theorem nS_int {n : Nat} (h : n < 10 ^ 40) : intText? (nS n) = some (n : Int) := TL.int_num (by
  have := TL.numL_len (k := 40) (by decide) h
  omega)
theorem dig_uni : ∀ d : Nat, d < 10 → Unicode.isDigit (48 + d) = true := by decide +kernel
theorem nS_ascii (n : Nat) : Txt.isascii (nS n) = true := by
  rw [nS_S]
  unfold Txt.isascii
  simp only [SX.S, List.all_toArray, List.all_eq_true, decide_eq_true_eq]
  intro c hc
  have := TL.numL_digits n c hc
  omega
theorem nS_digit (n : Nat) : Txt.isdigit (nS n) = true := by
  rw [nS_S]
  unfold Txt.isdigit
  rw [SX.S_len]
  have h0 : (TL.numL n).length > 0 := List.length_pos_iff.mpr (TL.numL_ne n)
  simp only [SX.S, List.all_toArray, Bool.and_eq_true, decide_eq_true_eq, List.all_eq_true]
  refine ⟨h0, fun c hc => ?_⟩
  have h := TL.numL_digits n c hc
  have := dig_uni (c - 48) (by omega)
  rw [show 48 + (c - 48) = c by omega] at this
  exact this
theorem num_head : ∀ n : Nat, 1 ≤ n → ∃ c r, TL.numL n = c :: r ∧ c ≠ 48 := by
  intro n
  induction n using Nat.strongRecOn with
  | _ n ih =>
    intro h1
    by_cases h : n < 10
    · rw [TL.numL_lt h]
      exact ⟨_, _, rfl, by omega⟩
    · rw [TL.numL_step (by omega)]
      obtain ⟨c, r, e, hc⟩ := ih (n / 10) (by omega) (by omega)
      rw [e]
      exact ⟨c, _, rfl, hc⟩
theorem starts_S {c d : Nat} {r : List Nat} (h : c ≠ d) : Txt.startswith (SX.S (c :: r)) (SX.S [d]) = false := by
  unfold Txt.startswith
  have e : Builtin.Str.subAt (SX.S (c :: r)) (SX.S [d]) 0 = false := by
    unfold Builtin.Str.subAt
    rw [SX.S_len]
    have x : ((SX.S (c :: r)).cps.extract 0 (0 + [d].length)) = #[c] := by simp [SX.S]
    rw [x]
    show (#[c] == #[d]) = false
    simp [h]
  rw [e, Bool.and_false]
end Rep
namespace Rep
open PySem L2
theorem iteFx {c : Bool} {A B : Prop} (h : c = false) (q : B) : (if c = true then A else B) := by rw [h, if_neg (by decide)]; exact q
def spNumW : Sp := fun vs H Q _ => ∃ n : Nat, vs = [.str (nS n)] ∧ n < 10 ^ 40 ∧ Q (.int (n : Int)) H
def spTurW : Sp := fun vs H Q _ => ∃ t : Bool, vs = [.str (wayS t)] ∧ ∀ H', Same H H' → Q (.bl t) H'
def spSayW : Sp := fun vs H Q _ => ∃ (a b c : Nat) (t : Bool), vs = [.str (nS a), .str (nS b), .str (nS c), .str (wayS t)] ∧ a < 10 ^ 40 ∧ b < 10 ^ 40 ∧ c < 10 ^ 40 ∧ ∀ H' p, Same H H' → H' p = some (.tup [.int (a : Int), .int (b : Int), .int (c : Int), .bl t]) → Q (.ref p) H'
def spWds : Sp := fun vs H Q _ => ∃ (a : Str) (ws : List Str), vs = [.str a] ∧ Txt.split a " " = ws ∧ ("" : Str) ∉ ws ∧ a.length + 2 ≤ sizeLine ∧ ∀ H' l, Same H H' → H l = none → H' l = some (.lst (ws.map V.str)) → Q (.ref l) H'
structure TWd (mg : Str → Option Value) : Prop where
  ml : mg "len" = none
  mI : mg "int" = none
  mf : ∃ u, mg "MOST_FIGURES" = some u ∧ RelV (.int 40) u
theorem scNumW : FnScope ["word"] ["word"] (defScope sNumber_of) := ⟨rfl, rfl, rfl, by decide +kernel, rfl, by decide +kernel, by decide +kernel⟩
theorem scTurW : FnScope ["word"] ["word"] (defScope sTurned_of) := ⟨rfl, rfl, rfl, by decide +kernel, rfl, by decide +kernel, by decide +kernel⟩
theorem scSayW : FnScope ["one", "other", "many", "way"] ["one", "other", "many", "way"] (defScope sSaying_of) := ⟨rfl, rfl, rfl, by decide +kernel, rfl, by decide +kernel, by decide +kernel⟩
theorem scWds : FnScope ["row", "words"] ["row"] (defScope sWords_of) := ⟨rfl, rfl, rfl, by decide +kernel, rfl, by decide +kernel, by decide +kernel⟩
section
variable {P : Program} {w : World} {K : PySem.W.Frag} {mg : Str → Option Value} {base : Heap}
theorem ok_numw {f : Addr} {fd : FuncData} {k : Nat} (F : Fun K "number_of" "number_of" sNumber_of f fd) (T : TWd mg) : FnOk P w K mg base CX0 (k + 1) f fd ["word"] spNumW := by
  refine F.ok scNumW (fun vs H Q E h => ?_) (fun cdv A outer s H vs Q E hr h => ?_)
  · obtain ⟨n, rfl, _⟩ := h; rfl
  obtain ⟨n, rfl, hn, q⟩ := h
  refine ⟨_, (pss_cons (ps_if (PW.pt (pw_or (pt_cmpR op_gt (pe_callB call_len_str (by rfl) T.ml PySem.boot_len (pa_cons (pv 0) pa_nil)) (C8.pe_gc (by rfl) T.mf) (nomark _)) (pw_or (pt_not (pt_val (pe_m0 PySem.F.slot_str_isascii PySem.F.type_str_isascii mt_isascii (pv 0)))) (pw_or1 (pt_not (pt_val (pe_m0 PySem.F.slot_str_isdigit PySem.F.type_str_isdigit mt_isdigit (pv 0)))))))) (pss_one ps_never) pss_nil)
    (pss_cons (ps_if (PW.pt (pw_and (pt_cmpR op_gt (pe_callB call_len_str (by rfl) T.ml PySem.boot_len (pa_cons (pv 0) pa_nil)) pe_int (nomark _)) (pw_and1 (pt_val (pe_m1 PySem.F.slot_str_startswith PySem.F.type_str_startswith mt_startswith (pv 0) pe_str))))) (pss_one ps_never) pss_nil)
    (pss_one (ps_ret (pe_callTy call_int_str (by rfl) T.mI PyProof.Rows.boot_int (pa_cons (pv 0) pa_nil)))))), ?_⟩
  have ln := nS_len hn
  have lz : (nS n).length ≤ sizeLine := Nat.le_trans ln (by decide)
  refine ⟨.str (nS n), rfl, nS n, rfl, lz, _, _, rfl, rfl, _, rfl, ite2 (fun c => absurd (of_decide_eq_true c) (by omega)) (fun _ => ?_)⟩
  refine ⟨.str (nS n), rfl, ⟨_, rfl⟩, nS n, rfl, rfl, trivial, ?_⟩
  rw [nS_ascii]
  refine ⟨true, rfl, iteF ?_⟩
  refine ⟨.str (nS n), rfl, ⟨_, rfl⟩, nS n, rfl, rfl, trivial, ?_⟩
  rw [nS_digit]
  refine ⟨true, rfl, iteF ?_⟩
  have fin : Q (.int (n : Int)) H := q
  refine ⟨.str (nS n), rfl, nS n, rfl, lz, _, 1, rfl, rfl, _, rfl, ite2 (fun c => ?_) (fun _ => ?_)⟩
  · have c : (1 : Int) < ((nS n).length : Int) := of_decide_eq_true c
    have n1 : 1 ≤ n := by
      rcases Nat.eq_zero_or_pos n with z | z
      · rw [z] at c; exact absurd c (by decide +kernel)
      · exact z
    refine ⟨.str (nS n), rfl, ⟨_, rfl⟩, nS n, "0", rfl, rfl, ?_⟩
    obtain ⟨d, r, e, hd⟩ := num_head n n1
    have st : Txt.startswith (nS n) "0" = false := by
      rw [nS_S, e]
      exact starts_S hd
    rw [st]
    exact ⟨false, rfl, iteF ⟨.str (nS n), rfl, nS n, n, rfl, nS_int hn, by omega, fin⟩⟩
  · exact ⟨.str (nS n), rfl, nS n, n, rfl, nS_int hn, by omega, fin⟩
theorem ok_turw {f : Addr} {fd : FuncData} {k : Nat} (F : Fun K "turned_of" "turned_of" sTurned_of f fd) : FnOk P w K mg base CX0 (k + 1) f fd ["word"] spTurW := by
  refine F.ok scTurW (fun vs H Q E h => ?_) (fun cdv A outer s H vs Q E hr h => ?_)
  · obtain ⟨t, rfl, _⟩ := h; rfl
  obtain ⟨t, rfl, q⟩ := h
  refine ⟨_, (pss_cons (ps_if (pt_cmpR op_notIn_seq (pv 0) (pe_tup (pa_cons pe_str (pa_cons pe_str pa_nil))) (by rfl)) (pss_one ps_never) pss_nil) (pss_one (ps_ret (pe_cmpR op_eq (pv 0) pe_str (nomark _))))), ?_⟩
  refine ⟨.str (wayS t), rfl, (by show 2 ≤ sizeLine; decide), fun p np => ?_⟩
  refine ⟨p, _, rfl, .inr (.inl (.inl upd_same)), rfl, rfl, _, rfl, ?_⟩
  refine iteFx (by show (!inV (V.str (wayS t)) [V.str "straight", V.str "turned"]) = false; cases t <;> decide +kernel) ?_
  have e : decide (V.str (wayS t) = V.str "turned") = t := by cases t <;> decide +kernel
  refine ⟨.str (wayS t), rfl, rfl, ?_⟩
  rw [e]
  exact q _ (same_upd np)
structure TSw (Pg : Program) (w : World) (K : PySem.W.Frag) (mg : Str → Option Value) (base : Heap) (k : Nat) (fN fT : Addr) (fdN fdT : FuncData) : Prop where
  gN : FnOk Pg w K mg base CX0 k fN fdN ["word"] spNumW
  bN : Binds K fdN ["word"] []
  kN : PySem.W.keepIn K (.ref fN) = true
  mN : mg "number_of" = some (.ref fN)
  gT : FnOk Pg w K mg base CX0 k fT fdT ["word"] spTurW
  bT : Binds K fdT ["word"] []
  kT : PySem.W.keepIn K (.ref fT) = true
  mT : mg "turned_of" = some (.ref fT)
theorem ok_sayw {f fN fT : Addr} {fd fdN fdT : FuncData} {k : Nat} (F : Fun K "saying_of" "saying_of" sSaying_of f fd) (T : TSw P w K mg base k fN fT fdN fdT) : FnOk P w K mg base CX0 (k + 1) f fd ["one", "other", "many", "way"] spSayW := by
  refine F.ok scSayW (fun vs H Q E h => ?_) (fun cdv A outer s H vs Q E hr h => ?_)
  · obtain ⟨a, b, c, t, rfl, _⟩ := h; rfl
  obtain ⟨a, b, c, t, rfl, ha, hb, hc, q⟩ := h
  refine ⟨_, (pss_one (ps_ret (pe_tup (pa_cons (pe_call T.gN hr (by rfl) T.mN T.kN T.bN .nil pass0 (pa_cons (pv 0) pa_nil)) (pa_cons (pe_call T.gN hr (by rfl) T.mN T.kN T.bN .nil pass0 (pa_cons (pv 1) pa_nil)) (pa_cons (pe_call T.gN hr (by rfl) T.mN T.kN T.bN .nil pass0 (pa_cons (pv 2) pa_nil)) (pa_cons (pe_call T.gT hr (by rfl) T.mT T.kT T.bT .nil pass0 (pa_cons (pv 3) pa_nil)) pa_nil))))))), ?_⟩
  refine ⟨.str (nS a), rfl, a, rfl, ha, .str (nS b), rfl, b, rfl, hb, .str (nS c), rfl, c, rfl, hc, .str (wayS t), rfl, t, rfl, fun H1 s1 => ⟨(by show 4 ≤ sizeLine; decide), fun p np => ?_⟩⟩
  exact q _ p (s1.trans (same_upd np)) upd_same
theorem ok_wds {f : Addr} {fd : FuncData} {k : Nat} (F : Fun K "words_of" "words_of" sWords_of f fd) : FnOk P w K mg base CX0 (k + 1) f fd ["row"] spWds := by
  refine F.ok scWds (fun vs H Q E h => ?_) (fun cdv A outer s H vs Q E hr h => ?_)
  · obtain ⟨a, ws, rfl, _⟩ := h; rfl
  obtain ⟨a, ws, rfl, hs, he, hl, q⟩ := h
  refine ⟨_, (pss_cons (ps_set (i := 1) scWds.nd rfl (.inl rfl) (pe_split (pv 0) pe_str)) (pss_cons (ps_if (pt_cmpR op_in_seq pe_str (pv 1) (by rfl)) (pss_one ps_never) pss_nil) (pss_one (ps_ret (pv 1))))), ?_⟩
  refine ⟨.str a, rfl, ⟨_, rfl⟩, a, " ", rfl, rfl, by decide +kernel, hl, fun p np => ?_⟩
  rw [hs]
  have fl : (ws.map V.str).all flatV = true := by
    rw [List.all_eq_true]
    intro v hv
    obtain ⟨z, _, rfl⟩ := List.mem_map.mp hv
    rfl
  refine ⟨.ref p, rfl, p, _, rfl, .inl (.inl (.inl upd_same)), rfl, fl, _, rfl, ?_⟩
  have ne : inV (V.str "") (ws.map V.str) = false := by
    show (ws.map V.str).any _ = false
    rw [List.any_eq_false]
    intro v hv
    obtain ⟨z, hz, rfl⟩ := List.mem_map.mp hv
    intro h
    have h : (z == ("" : Str)) = true := h
    exact he (by rw [← eq_of_beq h]; exact hz)
  refine iteFx ne ?_
  exact ⟨.ref p, rfl, q _ p (same_upd np) np upd_same⟩
end
end Rep
namespace Rep
open PySem L2 L2H RepHot
/-! orders that are deeds -/
def nI (i : Int) : Str := nS i.toNat
def deW : De → List Str
  | .dd (.say y) => ["say", nI y.lo, nI y.hi, nI y.n, wayS y.t]
  | .dd (.unsay n) => ["unsay", nI n]
  | .dd (.amend n y) => ["amend", nI n, nI y.lo, nI y.hi, nI y.n, wayS y.t]
  | .dd (.rem z x m) => ["note", z, nI x, nI m]
  | .dd (.forget n) => ["forget", nI n]
  | .dd (.longer m) => ["longer", nI m]
  | .dd (.shorter m) => ["shorter", nI m]
  | .undo => ["undo"]
  | .redo => ["redo"]
/-- a number that can be told -/
def Tn (i : Int) : Prop := 0 ≤ i ∧ i < 10 ^ 40
def deSp : De → Prop
  | .dd (.say y) => Tn y.lo ∧ Tn y.hi ∧ Tn y.n
  | .dd (.unsay n) => Tn n
  | .dd (.amend n y) => Tn n ∧ Tn y.lo ∧ Tn y.hi ∧ Tn y.n
  | .dd (.rem _ x m) => Tn x ∧ Tn m
  | .dd (.forget n) => Tn n
  | .dd (.longer m) => Tn m
  | .dd (.shorter m) => Tn m
  | _ => True
theorem Tn.lt {i : Int} (h : Tn i) : i.toNat < 10 ^ 40 := by
  have h1 := h.1
  have h2 := h.2
  have e : ((i.toNat : Nat) : Int) < ((10 ^ 40 : Nat) : Int) := by
    rw [Int.toNat_of_nonneg h1]
    exact_mod_cast h2
  exact_mod_cast e
theorem Tn.to {i : Int} (h : Tn i) : ((i.toNat : Nat) : Int) = i := Int.toNat_of_nonneg h.1
def ansT : De → Option Int → Sht → Str
  | .dd (.say _), some c, _ => Str.empty ++ "saying " ++ (Str.ofString (toString c))
  | .dd (.rem _ _ _), some c, _ => Str.empty ++ "note " ++ (Str.ofString (toString c))
  | .dd (.unsay _), _, _ => "unsaid"
  | .dd (.amend _ _), _, _ => "amended"
  | .dd (.forget _), _, _ => "forgotten"
  | .dd (.longer _), _, s => Str.empty ++ "length " ++ (Str.ofString (toString s.size))
  | .dd (.shorter _), _, s => Str.empty ++ "length " ++ (Str.ofString (toString s.size))
  | .undo, _, _ => "undone"
  | .redo, _, _ => "redone"
  | _, _, _ => ""
def spOrd (BK S : Addr) (cz : Nat → Addr) : Sp := fun vs H Q E => ∃ (b l : Addr) (N : Addr → Prop) (past : List Sht) (now : Sht) (ahead : List Sht) (sv nv : V) (de : De), vs = [.ref b, .ref l] ∧ H l = some (.lst ((deW de).map V.str)) ∧ BkAt BK S N H b (stsOf (past, now, ahead)) past.length sv nv ∧ deOk de ∧ deSp de ∧ NA N H ∧ Wf now ∧ past.length + ahead.length ≤ 900 ∧ Tn now.coming ∧
  (∀ j, RStp past now ahead de (.inl j) → NoS H (cz j) E) ∧ (∀ o p n a H', RStp past now ahead de (.inr (o, p, n, a)) → BkR BK S N H H' b past now ahead sv nv (.inr (o, p, n, a)) → Q (.str (ansT de o n)) H')
abbrev nOrd : List Str := ["book", "words", "one", "other", "many", "way", "saying", "fresh", "number", "kept", "letter", "at"]
theorem scOrd : FnScope nOrd ["book", "words"] (defScope sDo_order) := ⟨rfl, rfl, rfl, by decide +kernel, rfl, by decide +kernel, by decide +kernel⟩
structure TOr (Pg : Program) (w : World) (K : PySem.W.Frag) (mg : Str → Option Value) (base : Heap) (BK S : Addr) (cz : Nat → Addr) (fsa fus fam fre ffo fle fso fun_ frd fN fSw fbl fAn : Addr) (fdsa fdus fdam fdre fdfo fdle fdso fdun fdrd fdN fdSw fdbl fdAn : FuncData) (spAn : Sp) : Prop where
  clB : Cls K BK
  Bsa : BMeth K BK "say" fsa
  gsa : FnOk Pg w K mg base (L2N.CX Pg w) 11 fsa fdsa ["self", "one", "other", "many", "turned"] (spDd BK S cz mSay)
  bsa : Binds K fdsa ["self", "one", "other", "many", "turned"] []
  mus : Meth K BK "unsay" fus
  gus : FnOk Pg w K mg base (L2N.CX Pg w) 11 fus fdus ["self", "number"] (spDd BK S cz mUnsay)
  bus : Binds K fdus ["self", "number"] []
  Bam : BMeth K BK "amend" fam
  gam : FnOk Pg w K mg base (L2N.CX Pg w) 11 fam fdam ["self", "number", "one", "other", "many", "turned"] (spDd BK S cz mAmend)
  bam : Binds K fdam ["self", "number", "one", "other", "many", "turned"] []
  mre : Meth K BK "remember" fre
  gre : FnOk Pg w K mg base (L2N.CX Pg w) 11 fre fdre ["self", "letter", "at", "many"] (spDd BK S cz mRem)
  bre : Binds K fdre ["self", "letter", "at", "many"] []
  mfo : Meth K BK "forget" ffo
  gfo : FnOk Pg w K mg base (L2N.CX Pg w) 11 ffo fdfo ["self", "number"] (spDd BK S cz mForget)
  bfo : Binds K fdfo ["self", "number"] []
  mle : Meth K BK "lengthen" fle
  gle : FnOk Pg w K mg base (L2N.CX Pg w) 11 fle fdle ["self", "many"] (spDd BK S cz mLonger)
  ble : Binds K fdle ["self", "many"] []
  mso : Meth K BK "shorten" fso
  gso : FnOk Pg w K mg base (L2N.CX Pg w) 11 fso fdso ["self", "many"] (spDd BK S cz mShorter)
  bso : Binds K fdso ["self", "many"] []
  mun : Meth K BK "undo" fun_
  gun : FnOk Pg w K mg base (L2N.CX Pg w) 11 fun_ fdun ["self"] (spBundo BK S cz)
  bun : Binds K fdun ["self"] []
  mrd : Meth K BK "redo" frd
  grd : FnOk Pg w K mg base (L2N.CX Pg w) 11 frd fdrd ["self"] (spBredo BK S cz)
  brd : Binds K fdrd ["self"] []
  gN : FnOk Pg w K mg base CX0 8 fN fdN ["word"] spNumW
  bN : Binds K fdN ["word"] []
  kN : PySem.W.keepIn K (.ref fN) = true
  mN : mg "number_of" = some (.ref fN)
  gSw : FnOk Pg w K mg base CX0 9 fSw fdSw ["one", "other", "many", "way"] spSayW
  bSw : Binds K fdSw ["one", "other", "many", "way"] []
  kSw : PySem.W.keepIn K (.ref fSw) = true
  mSw : mg "saying_of" = some (.ref fSw)
  mbl : Meth K BK "length" fbl
  gbl : FnOk Pg w K mg base CX0 8 fbl fdbl ["self"] (spBlen BK S)
  bbl : Binds K fdbl ["self"] []
  gAn : FnOk Pg w K mg base (L2N.CX Pg w) 12 fAn fdAn ["book", "words"] spAn
  bAn : Binds K fdAn ["book", "words"] []
  kAn : PySem.W.keepIn K (.ref fAn) = true
  mAn : mg "answer" = some (.ref fAn)
theorem nohd {a b : Str} {p : Prop} (n : a ≠ b) (h : p ∧ (some a : Option Str) = some b) : False := n (Option.some.inj h.2)
theorem log40 {i : Int} (h : Tn i) : i.natAbs.log2 < 1920 := PySem.Flt.log2_lt_of (by decide) (by
  have h1 := h.1
  have h2 := h.2
  have e : (10 : Int) ^ 40 < 2 ^ 1920 := by decide +kernel
  have : ((i.natAbs : Nat) : Int) < ((2 ^ 1920 : Nat) : Int) := by
    rw [Int.natAbs_of_nonneg h1]
    exact_mod_cast (by omega : i < 2 ^ 1920)
  exact_mod_cast this)
theorem deW_len (de : De) : (deW de).length ≤ 6 := by
  cases de with
  | dd d => cases d <;> (simp [deW])
  | undo => simp [deW]
  | redo => simp [deW]
theorem len_app {a : Str} {i : Int} (ha : a.length ≤ 100) (h : Tn i) : (a ++ Str.ofString (toString i)).length ≤ sizeLine := by
  have e : i = ((i.toNat : Nat) : Int) := h.to.symm
  have l := nS_len h.lt
  rw [e]
  have : (a ++ nS i.toNat).length = a.length + (nS i.toNat).length := by
    rw [← SX.S_tl a, ← SX.S_tl (nS i.toNat), SX.S_cat, SX.S_len, SX.S_len, SX.S_len, List.length_append]
  show (a ++ nS i.toNat).length ≤ sizeLine
  rw [this]
  exact Nat.le_trans (show _ ≤ 200 by omega) (by decide)
theorem last_at (past : List Sht) (now s' : Sht) : ((past ++ [now]) ++ [s'])[past.length + 1]? = some s' := by
  rw [List.getElem?_append_right (by simp)]
  simp
section
variable {Pg : Program} {w : World} {K : PySem.W.Frag} {mg : Str → Option Value} {base : Heap} {BK S : Addr} {cz : Nat → Addr} {fsa fus fam fre ffo fle fso fun_ frd fN fSw fbl fAn : Addr} {fdsa fdus fdam fdre fdfo fdle fdso fdun fdrd fdN fdSw fdbl fdAn : FuncData} {spAn : Sp}
theorem ok_ord {f : Addr} {fd : FuncData} (F : Fun K "do_order" "do_order" sDo_order f fd) (T : TOr Pg w K mg base BK S cz fsa fus fam fre ffo fle fso fun_ frd fN fSw fbl fAn fdsa fdus fdam fdre fdfo fdle fdso fdun fdrd fdN fdSw fdbl fdAn spAn) : FnOk Pg w K mg base (L2N.CX Pg w) 13 f fd ["book", "words"] (spOrd BK S cz) := by
  refine okN F scOrd (fun vs H Q E h => ?_) (fun cdv A outer s H vs Q E hr h => ?_)
  · obtain ⟨b, l, N, past, now, ahead, sv, nv, de, rfl, _⟩ := h; rfl
  obtain ⟨b, l, N, past, now, ahead, sv, nv, de, rfl, el, bk, dok, dsp, na, wn, ln, hc, qe, q⟩ := h
  have r12 : Room 12 _ := hr
  have r11 : Room 11 _ := hr.mono (by decide)
  have r9 : Room 9 _ := hr.mono (by decide)
  have r8 : Room 8 _ := hr.mono (by decide)
  refine ⟨_, (pss_one (ps_match (pv 1) (pm_words rfl scOrd.nd pe_str (.cons (i := 2) rfl (.inl rfl) (.cons (i := 3) rfl (.inl rfl) (.cons (i := 4) rfl (.inl rfl) (.cons (i := 5) rfl (.inl rfl) .nil))))
    (pss_cons (ps_set (i := 6) scOrd.nd rfl (.inl rfl) (pe_call T.gSw r9 (by rfl) T.mSw T.kSw T.bSw .nil pass0 (pa_cons (pv 2) (pa_cons (pv 3) (pa_cons (pv 4) (pa_cons (pv 5) pa_nil)))))) (pss_cons (ps_set (i := 7) scOrd.nd rfl (.inl rfl) (pe_methS (pv 0) T.clB T.Bsa (FnOk.raw T.gsa T.bsa .nil) r11 (L2N.passes_call (L2N.takes_of rfl rfl rfl rfl) (fun _ _ _ _ h => h)) (pv 6))) (pss_one (ps_ret (pe_joined (.cons pe_str (.cons (pe_fmt (pv 7)) .nil)))))))
  (pm_words rfl scOrd.nd pe_str (.cons (i := 8) rfl (.inl rfl) .nil)
    (pss_cons (ps_expr (pe_meth (pv 0) T.clB T.mus T.gus r11 T.bus .nil (L2N.passes_call (L2N.takes_of rfl rfl rfl rfl) (fun _ _ _ _ h => h)) (pa_cons (pe_call T.gN r8 (by rfl) T.mN T.kN T.bN .nil pass0 (pa_cons (pv 8) pa_nil)) pa_nil))) (pss_one (ps_ret pe_str)))
  (pm_words rfl scOrd.nd pe_str (.cons (i := 8) rfl (.inl rfl) (.cons (i := 2) rfl (.inl rfl) (.cons (i := 3) rfl (.inl rfl) (.cons (i := 4) rfl (.inl rfl) (.cons (i := 5) rfl (.inl rfl) .nil)))))
    (pss_cons (ps_set (i := 9) scOrd.nd rfl (.inl rfl) (pe_call T.gN r8 (by rfl) T.mN T.kN T.bN .nil pass0 (pa_cons (pv 8) pa_nil))) (pss_cons (ps_set (i := 6) scOrd.nd rfl (.inl rfl) (pe_call T.gSw r9 (by rfl) T.mSw T.kSw T.bSw .nil pass0 (pa_cons (pv 2) (pa_cons (pv 3) (pa_cons (pv 4) (pa_cons (pv 5) pa_nil)))))) (pss_cons (ps_expr (pe_methSB (pv 0) T.clB T.Bam (FnOk.raw T.gam T.bam .nil) r11 (L2N.passes_call (L2N.takes_of rfl rfl rfl rfl) (fun _ _ _ _ h => h)) (pv 9) (pv 6))) (pss_one (ps_ret pe_str)))))
  (pm_words rfl scOrd.nd pe_str (.cons (i := 10) rfl (.inl rfl) (.cons (i := 11) rfl (.inl rfl) (.cons (i := 4) rfl (.inl rfl) .nil)))
    (pss_cons (ps_set (i := 7) scOrd.nd rfl (.inl rfl) (pe_meth (pv 0) T.clB T.mre T.gre r11 T.bre .nil (L2N.passes_call (L2N.takes_of rfl rfl rfl rfl) (fun _ _ _ _ h => h)) (pa_cons (pv 10) (pa_cons (pe_call T.gN r8 (by rfl) T.mN T.kN T.bN .nil pass0 (pa_cons (pv 11) pa_nil)) (pa_cons (pe_call T.gN r8 (by rfl) T.mN T.kN T.bN .nil pass0 (pa_cons (pv 4) pa_nil)) pa_nil))))) (pss_one (ps_ret (pe_joined (.cons pe_str (.cons (pe_fmt (pv 7)) .nil))))))
  (pm_words rfl scOrd.nd pe_str (.cons (i := 8) rfl (.inl rfl) .nil)
    (pss_cons (ps_expr (pe_meth (pv 0) T.clB T.mfo T.gfo r11 T.bfo .nil (L2N.passes_call (L2N.takes_of rfl rfl rfl rfl) (fun _ _ _ _ h => h)) (pa_cons (pe_call T.gN r8 (by rfl) T.mN T.kN T.bN .nil pass0 (pa_cons (pv 8) pa_nil)) pa_nil))) (pss_one (ps_ret pe_str)))
  (pm_words rfl scOrd.nd pe_str (.cons (i := 4) rfl (.inl rfl) .nil)
    (pss_cons (ps_expr (pe_meth (pv 0) T.clB T.mle T.gle r11 T.ble .nil (L2N.passes_call (L2N.takes_of rfl rfl rfl rfl) (fun _ _ _ _ h => h)) (pa_cons (pe_call T.gN r8 (by rfl) T.mN T.kN T.bN .nil pass0 (pa_cons (pv 4) pa_nil)) pa_nil))) (pss_one (ps_ret (pe_joined (.cons pe_str (.cons (pe_fmt (pe_meth0 (pv 0) T.clB T.mbl T.gbl r8 T.bbl .nil pass0)) .nil))))))
  (pm_words rfl scOrd.nd pe_str (.cons (i := 4) rfl (.inl rfl) .nil)
    (pss_cons (ps_expr (pe_meth (pv 0) T.clB T.mso T.gso r11 T.bso .nil (L2N.passes_call (L2N.takes_of rfl rfl rfl rfl) (fun _ _ _ _ h => h)) (pa_cons (pe_call T.gN r8 (by rfl) T.mN T.kN T.bN .nil pass0 (pa_cons (pv 4) pa_nil)) pa_nil))) (pss_one (ps_ret (pe_joined (.cons pe_str (.cons (pe_fmt (pe_meth0 (pv 0) T.clB T.mbl T.gbl r8 T.bbl .nil pass0)) .nil))))))
  (pm_words rfl scOrd.nd pe_str .nil
    (pss_cons (ps_expr (pe_meth0 (pv 0) T.clB T.mun T.gun r11 T.bun .nil (L2N.passes_call (L2N.takes_of rfl rfl rfl rfl) (fun _ _ _ _ h => h)))) (pss_one (ps_ret pe_str)))
  (pm_words rfl scOrd.nd pe_str .nil
    (pss_cons (ps_expr (pe_meth0 (pv 0) T.clB T.mrd T.grd r11 T.brd .nil (L2N.passes_call (L2N.takes_of rfl rfl rfl rfl) (fun _ _ _ _ h => h)))) (pss_one (ps_ret pe_str)))
  (pm_any (pss_one (ps_ret (pe_call T.gAn r12 (by rfl) T.mAn T.kAn T.bAn .nil (L2N.passes_call (L2N.takes_of rfl rfl rfl rfl) (fun _ _ _ _ h => h)) (pa_cons (pv 0) (pa_cons (pv 1) pa_nil))))))))))))))))), ?_⟩
  obtain ⟨e1, e2, e3⟩ := sts_at (past := past) (now := now) (ahead := ahead)
  have b0 : Bk0 BK S N H b (stsOf (past, now, ahead)) past.length sv nv now := ⟨bk, e1, na, wn.lens, by omega⟩
  refine ⟨.ref l, rfl, l, deW de, rfl, el, ?_, ?_⟩
  · have := deW_len de
    exact Nat.lt_of_le_of_lt this (by decide)
  cases de with
  | undo =>
    repeat first
      | refine ⟨fun h => (nohd (by decide +kernel) h).elim, fun _ => ⟨l, deW .undo, rfl, el, (by show 1 < 2 ^ 62; decide), ?_⟩⟩
    refine ⟨fun _ => ?_, fun h => absurd ⟨rfl, rfl⟩ h⟩
    obtain ⟨dx, fs, hi, hn⟩ := bk.ins (m := "undo") (by decide +kernel)
    refine ⟨.ref b, rfl, b, dx, _, rfl, hi, hn, b, N, _, _, sv, nv, rfl, bk, ?_, ?_⟩
    · intro h' eh s1 s2 H2 sv2 h1 h2 sm bk2 svk
      obtain ⟨p, x, rfl⟩ := snoc_of (show past ≠ [] from fun z => by rw [z] at eh; cases eh)
      have eh : p.length = h' := by rw [List.length_append] at eh; simpa using eh
      subst eh
      obtain rfl : now = s1 := Option.some.inj (e1.symm.trans h1)
      have el : stsOf (p ++ [x], now, ahead) = stsOf (p, x, ahead ++ [now]) := by
        show (p ++ [x]) ++ now :: ahead.reverse = p ++ x :: (ahead ++ [now]).reverse
        rw [List.append_assoc, List.reverse_append]; rfl
      rw [el] at bk2 h2
      obtain rfl : x = s2 := Option.some.inj (sts_at.1.symm.trans h2)
      exact q none p x (ahead ++ [now]) H2 (.inr ⟨p, x, rfl, rfl⟩) (.yes sm bk2 svk)
    · intro e0 H2 s2
      exact qe 7 (.inl ⟨List.eq_nil_of_length_eq_zero e0, rfl⟩) H2 s2
  | redo =>
    repeat first
      | refine ⟨fun h => (nohd (by decide +kernel) h).elim, fun _ => ⟨l, deW .redo, rfl, el, (by show 1 < 2 ^ 62; decide), ?_⟩⟩
    refine ⟨fun _ => ?_, fun h => absurd ⟨rfl, rfl⟩ h⟩
    obtain ⟨dx, fs, hi, hn⟩ := bk.ins (m := "redo") (by decide +kernel)
    refine ⟨.ref b, rfl, b, dx, _, rfl, hi, hn, b, N, _, _, sv, nv, rfl, bk, ?_, ?_⟩
    · intro hl s1 s2 H2 sv2 h1 h2 sm bk2 svk
      obtain ⟨a, x, rfl⟩ := snoc_of (show ahead ≠ [] from fun z => by rw [e3, z] at hl; simp at hl)
      obtain rfl : now = s1 := Option.some.inj (e1.symm.trans h1)
      have el : stsOf (past, now, a ++ [x]) = stsOf (past ++ [now], x, a) := by
        show past ++ now :: (a ++ [x]).reverse = (past ++ [now]) ++ x :: a.reverse
        rw [List.append_assoc, List.reverse_append]; rfl
      have en : past.length + 1 = (past ++ [now]).length := by rw [List.length_append]; rfl
      rw [el, en] at bk2
      rw [el, en] at h2
      obtain rfl : x = s2 := Option.some.inj (sts_at.1.symm.trans h2)
      exact q none _ _ _ H2 (.inr ⟨a, x, rfl, rfl⟩) (.yes sm bk2 svk)
    · intro e0 H2 s2
      exact qe 7 (.inl ⟨List.eq_nil_of_length_eq_zero (by rw [e3] at e0; omega), rfl⟩) H2 s2
  | dd d =>
    cases d with
    | say y =>
      refine ⟨fun _ => ?_, fun h => absurd ⟨rfl, rfl⟩ h⟩
      obtain ⟨t1, t2, t3⟩ : Tn y.lo ∧ Tn y.hi ∧ Tn y.n := dsp
      refine ⟨.str (nI y.lo), rfl, .str (nI y.hi), rfl, .str (nI y.n), rfl, .str (wayS y.t), rfl, y.lo.toNat, y.hi.toNat, y.n.toNat, y.t, rfl, t1.lt, t2.lt, t3.lt, fun H1 p s1 ep => ?_⟩
      rw [t1.to, t2.to, t3.to] at ep
      obtain ⟨dx, fs, hi, hn⟩ := (bk.same s1).ins (m := "say") (by decide +kernel)
      refine ⟨.ref b, rfl, b, dx, fs, rfl, hi, hn, fun g ng => ?_⟩
      have s2 := same_upd (o := HO.met fsa b) ng
      have s12 := s1.trans s2
      refine ⟨.ref p, rfl, p, _, rfl, .inl (.inl (s2 _ _ ep)), upd_same, ?_⟩
      refine ⟨b, N, _, _, sv, nv, now, .say y, ⟨y, rfl, rfl⟩, ⟨bk.same s12, e1, na.same s12, wn.lens, by omega⟩, fun r0 hr0 => ?_⟩
      cases r0 with
      | inl j => exact fun H3 s3 => qe j ⟨_, hr0, rfl⟩ H3 (s12.trans s3)
      | inr x0 =>
        obtain ⟨o, s'⟩ := x0
        intro H3 sv2 sm bk2 svk
        rw [e2] at bk2
        have st := hr0
        rcases hr0 with ⟨_, _, z⟩ | ⟨_, _, z⟩ | ⟨_, z⟩ <;> cases z
        refine ⟨"saying ", rfl, by decide +kernel, .int now.coming, rfl, .inr ⟨_, rfl, log40 hc, _, rfl, len_app (by decide +kernel) hc, ?_⟩⟩
        exact q _ _ _ _ H3 ⟨_, st, rfl⟩ (.yes (fun c o e n => sm _ _ (s12 _ _ e) n) (by rw [List.length_append]; exact bk2) svk)
    | unsay n =>
      refine ⟨fun h => (nohd (by decide +kernel) h).elim, fun _ => ⟨l, deW (.dd (.unsay n)), rfl, el, (by show 2 < 2 ^ 62; decide), fun _ => ?_, fun h => absurd ⟨rfl, rfl⟩ h⟩⟩
      obtain ⟨dx, fs, hi, hn⟩ := bk.ins (m := "unsay") (by decide +kernel)
      have tn : Tn n := dsp
      refine ⟨.ref b, rfl, b, dx, _, rfl, hi, hn, .str (nI n), rfl, n.toNat, rfl, tn.lt, ?_⟩
      rw [tn.to]
      refine ⟨b, N, _, _, sv, nv, now, .unsay n, ⟨n, rfl, rfl⟩, b0, fun r0 hr0 => ?_⟩
      cases r0 with
      | inl j => exact qe j ⟨_, hr0, rfl⟩
      | inr x0 =>
        obtain ⟨o, s'⟩ := x0
        intro H2 sv2 sm bk2 svk
        rw [e2] at bk2
        exact q o _ s' _ H2 ⟨_, hr0, rfl⟩ (.yes sm (by rw [List.length_append]; exact bk2) svk)
    | amend n y =>
      repeat first
        | refine ⟨fun h => (nohd (by decide +kernel) h).elim, fun _ => ⟨l, deW (.dd (.amend n y)), rfl, el, (by show 6 < 2 ^ 62; decide), ?_⟩⟩
      refine ⟨fun _ => ?_, fun h => absurd ⟨rfl, rfl⟩ h⟩
      obtain ⟨tn, t1, t2, t3⟩ : Tn n ∧ Tn y.lo ∧ Tn y.hi ∧ Tn y.n := dsp
      refine ⟨.str (nI n), rfl, n.toNat, rfl, tn.lt, ?_⟩
      rw [tn.to]
      refine ⟨.str (nI y.lo), rfl, .str (nI y.hi), rfl, .str (nI y.n), rfl, .str (wayS y.t), rfl, y.lo.toNat, y.hi.toNat, y.n.toNat, y.t, rfl, t1.lt, t2.lt, t3.lt, fun H1 p s1 ep => ?_⟩
      rw [t1.to, t2.to, t3.to] at ep
      obtain ⟨dx, fs, hi, hn⟩ := (bk.same s1).ins (m := "amend") (by decide +kernel)
      refine ⟨.ref b, rfl, b, dx, fs, rfl, hi, hn, fun g ng => ?_⟩
      have s2 := same_upd (o := HO.met fam b) ng
      have s12 := s1.trans s2
      refine ⟨.int n, rfl, .ref p, rfl, p, _, rfl, .inl (.inl (.inl (s2 _ _ ep))), upd_same, ?_⟩
      refine ⟨b, N, _, _, sv, nv, now, .amend n y, ⟨n, y, rfl, rfl⟩, ⟨bk.same s12, e1, na.same s12, wn.lens, by omega⟩, fun r0 hr0 => ?_⟩
      cases r0 with
      | inl j => exact fun H3 s3 => qe j ⟨_, hr0, rfl⟩ H3 (s12.trans s3)
      | inr x0 =>
        obtain ⟨o, s'⟩ := x0
        intro H3 sv2 sm bk2 svk
        rw [e2] at bk2
        exact q o _ s' _ H3 ⟨_, hr0, rfl⟩ (.yes (fun c o e n => sm _ _ (s12 _ _ e) n) (by rw [List.length_append]; exact bk2) svk)
    | rem z x m =>
      repeat first
        | refine ⟨fun h => (nohd (by decide +kernel) h).elim, fun _ => ⟨l, deW (.dd (.rem z x m)), rfl, el, (by show 4 < 2 ^ 62; decide), ?_⟩⟩
      refine ⟨fun _ => ?_, fun h => absurd ⟨rfl, rfl⟩ h⟩
      obtain ⟨tx, tm⟩ : Tn x ∧ Tn m := dsp
      obtain ⟨dx, fs, hi, hn⟩ := bk.ins (m := "remember") (by decide +kernel)
      refine ⟨.ref b, rfl, b, dx, _, rfl, hi, hn, .str z, rfl, .str (nI x), rfl, x.toNat, rfl, tx.lt, .str (nI m), rfl, m.toNat, rfl, tm.lt, ?_⟩
      rw [tx.to, tm.to]
      refine ⟨b, N, _, _, sv, nv, now, .rem z x m, ⟨z, x, m, rfl, dok, rfl⟩, b0, fun r0 hr0 => ?_⟩
      cases r0 with
      | inl j => exact qe j ⟨_, hr0, rfl⟩
      | inr x0 =>
        obtain ⟨o, s'⟩ := x0
        intro H3 sv2 sm bk2 svk
        rw [e2] at bk2
        have st := hr0
        rcases hr0 with ⟨_, _, _, z⟩ | ⟨_, _, _, z⟩ | ⟨_, _, z⟩ | ⟨_, z⟩ <;> cases z
        refine ⟨"note ", rfl, by decide +kernel, .int now.coming, rfl, .inr ⟨_, rfl, log40 hc, _, rfl, len_app (by decide +kernel) hc, ?_⟩⟩
        exact q _ _ _ _ H3 ⟨_, st, rfl⟩ (.yes sm (by rw [List.length_append]; exact bk2) svk)
    | forget n =>
      repeat first
        | refine ⟨fun h => (nohd (by decide +kernel) h).elim, fun _ => ⟨l, deW (.dd (.forget n)), rfl, el, (by show 2 < 2 ^ 62; decide), ?_⟩⟩
      refine ⟨fun _ => ?_, fun h => absurd ⟨rfl, rfl⟩ h⟩
      obtain ⟨dx, fs, hi, hn⟩ := bk.ins (m := "forget") (by decide +kernel)
      have tn : Tn n := dsp
      refine ⟨.ref b, rfl, b, dx, _, rfl, hi, hn, .str (nI n), rfl, n.toNat, rfl, tn.lt, ?_⟩
      rw [tn.to]
      refine ⟨b, N, _, _, sv, nv, now, .forget n, ⟨n, rfl, rfl⟩, b0, fun r0 hr0 => ?_⟩
      cases r0 with
      | inl j => exact qe j ⟨_, hr0, rfl⟩
      | inr x0 =>
        obtain ⟨o, s'⟩ := x0
        intro H2 sv2 sm bk2 svk
        rw [e2] at bk2
        exact q o _ s' _ H2 ⟨_, hr0, rfl⟩ (.yes sm (by rw [List.length_append]; exact bk2) svk)
    | longer m =>
      repeat first
        | refine ⟨fun h => (nohd (by decide +kernel) h).elim, fun _ => ⟨l, deW (.dd (.longer m)), rfl, el, (by show 2 < 2 ^ 62; decide), ?_⟩⟩
      refine ⟨fun _ => ?_, fun h => absurd ⟨rfl, rfl⟩ h⟩
      obtain ⟨dx, fs, hi, hn⟩ := bk.ins (m := "lengthen") (by decide +kernel)
      have tn : Tn m := dsp
      refine ⟨.ref b, rfl, b, dx, _, rfl, hi, hn, .str (nI m), rfl, m.toNat, rfl, tn.lt, ?_⟩
      rw [tn.to]
      refine ⟨b, N, _, _, sv, nv, now, .longer m, ⟨m, rfl, rfl⟩, b0, fun r0 hr0 => ?_⟩
      cases r0 with
      | inl j => exact qe j ⟨_, hr0, rfl⟩
      | inr x0 =>
        obtain ⟨o, s'⟩ := x0
        intro H3 sv2 sm bk2 svk
        rw [e2] at bk2
        have tz : Tn s'.size := (wn.step hr0).e
        obtain ⟨dx2, fs2, hi2, hn2⟩ := bk2.ins (m := "length") (by decide +kernel)
        refine ⟨"length ", rfl, by decide +kernel, .ref b, rfl, b, dx2, _, rfl, hi2, hn2, b, N, _, _, sv2, .non, rfl, bk2, fun s1 hs1 => ?_⟩
        obtain rfl : s' = s1 := Option.some.inj ((last_at past now s').symm.trans hs1)
        refine .inr ⟨_, rfl, log40 tz, _, rfl, len_app (by decide +kernel) tz, ?_⟩
        exact q o _ s' _ H3 ⟨_, hr0, rfl⟩ (.yes sm (by rw [List.length_append]; exact bk2) svk)
    | shorter m =>
      repeat first
        | refine ⟨fun h => (nohd (by decide +kernel) h).elim, fun _ => ⟨l, deW (.dd (.shorter m)), rfl, el, (by show 2 < 2 ^ 62; decide), ?_⟩⟩
      refine ⟨fun _ => ?_, fun h => absurd ⟨rfl, rfl⟩ h⟩
      obtain ⟨dx, fs, hi, hn⟩ := bk.ins (m := "shorten") (by decide +kernel)
      have tn : Tn m := dsp
      refine ⟨.ref b, rfl, b, dx, _, rfl, hi, hn, .str (nI m), rfl, m.toNat, rfl, tn.lt, ?_⟩
      rw [tn.to]
      refine ⟨b, N, _, _, sv, nv, now, .shorter m, ⟨m, rfl, rfl⟩, b0, fun r0 hr0 => ?_⟩
      cases r0 with
      | inl j => exact qe j ⟨_, hr0, rfl⟩
      | inr x0 =>
        obtain ⟨o, s'⟩ := x0
        intro H3 sv2 sm bk2 svk
        rw [e2] at bk2
        have tz : Tn s'.size := (wn.step hr0).e
        obtain ⟨dx2, fs2, hi2, hn2⟩ := bk2.ins (m := "length") (by decide +kernel)
        refine ⟨"length ", rfl, by decide +kernel, .ref b, rfl, b, dx2, _, rfl, hi2, hn2, b, N, _, _, sv2, .non, rfl, bk2, fun s1 hs1 => ?_⟩
        obtain rfl : s' = s1 := Option.some.inj ((last_at past now s').symm.trans hs1)
        refine .inr ⟨_, rfl, log40 tz, _, rfl, len_app (by decide +kernel) tz, ?_⟩
        exact q o _ s' _ H3 ⟨_, hr0, rfl⟩ (.yes sm (by rw [List.length_append]; exact bk2) svk)
end
end Rep
namespace Rep
open PySem L2 L2H RepHot
/-! a desk told an order that is a deed -/
theorem rstp_j {past ahead : List Sht} {now : Sht} {de : De} {j : Nat} (h : RStp past now ahead de (.inl j)) : KJ j := by
  cases de with
  | dd d =>
    obtain ⟨r0, h1, e⟩ := h
    cases r0 with
    | inl k => cases e; exact stp_j h1
    | inr x => obtain ⟨o, s'⟩ := x; cases e
  | undo => rcases h with ⟨_, e⟩ | ⟨_, _, _, e⟩ <;> cases e <;> simp [KJ]
  | redo => rcases h with ⟨_, e⟩ | ⟨_, _, _, e⟩ <;> cases e <;> simp [KJ]
def noW : Nat → Str
  | 0 => "no: length"
  | 1 => "no: stretch"
  | 2 => "no: place"
  | 3 => "no: number"
  | 4 => "no: letter"
  | 5 => "no: full"
  | 6 => "no: in use"
  | _ => "no: nothing left"
def DkAt (DK : Addr) (H : Hp) (d b : Addr) : Prop := ∃ dx, H d = some (.ins DK dx [("held", .ref b)])
theorem DkAt.same {DK d b : Addr} {H H' : Hp} (h : DkAt DK H d b) (s : Same H H') : DkAt DK H' d b := by obtain ⟨dx, e⟩ := h; exact ⟨dx, s _ _ e⟩
def spTel (DK BK S : Addr) : Sp := fun vs H Q _ => ∃ (d b : Addr) (x : Str) (N : Addr → Prop) (past : List Sht) (now : Sht) (ahead : List Sht) (sv nv : V) (de : De), vs = [.ref d, .str x] ∧ DkAt DK H d b ∧ Txt.split x " " = deW de ∧ ("" : Str) ∉ deW de ∧ x.length + 2 ≤ sizeLine ∧ BkAt BK S N H b (stsOf (past, now, ahead)) past.length sv nv ∧ deOk de ∧ deSp de ∧ NA N H ∧ Wf now ∧ past.length + ahead.length ≤ 900 ∧ Tn now.coming ∧
  (∀ j H', RStp past now ahead de (.inl j) → Same H H' → Q (.str (noW j)) H') ∧ (∀ o p n a H', RStp past now ahead de (.inr (o, p, n, a)) → BkR BK S N H H' b past now ahead sv nv (.inr (o, p, n, a)) → Q (.str (ansT de o n)) H')
theorem pe_fldK {X : Cx} {K : PySem.W.Frag} {e : Expr} {f : Str} {ta : TE} {pos : Pos} (hK : X.K = K) (he : PE X e ta) (hb : attributeBase e f X.env (eval e X.env) = eval e X.env) : PE X (.Attribute e f pos) (tFld K ta f) := by rw [← hK]; exact pe_fld he hb
theorem scTel : FnScope ["self", "text"] ["self", "text"] (defScope sDeskTell) := ⟨rfl, rfl, rfl, by decide +kernel, rfl, by decide +kernel, by decide +kernel⟩
structure TTl (Pg : Program) (w : World) (K : PySem.W.Frag) (mg : Str → Option Value) (base : Heap) (DK BK S U : Addr) (cz : Nat → Addr) (fO fW : Addr) (fdO fdW : FuncData) : Prop where
  clD : Cls K DK
  nh : NoAttr K DK "held"
  gO : FnOk Pg w K mg base (L2N.CX Pg w) 13 fO fdO ["book", "words"] (spOrd BK S cz)
  bO : Binds K fdO ["book", "words"] []
  kO : PySem.W.keepIn K (.ref fO) = true
  mO : mg "do_order" = some (.ref fO)
  gW : FnOk Pg w K mg base CX0 8 fW fdW ["row"] spWds
  bW : Binds K fdW ["row"] []
  kW : PySem.W.keepIn K (.ref fW) = true
  mW : mg "words_of" = some (.ref fW)
  gU : mg "Unfit" = some (.ref U)
  g0 : mg "BadLength" = some (.ref (cz 0))
  g1 : mg "BadStretch" = some (.ref (cz 1))
  g2 : mg "NoPlace" = some (.ref (cz 2))
  g3 : mg "NoNumber" = some (.ref (cz 3))
  g4 : mg "BadLetter" = some (.ref (cz 4))
  g5 : mg "Full" = some (.ref (cz 5))
  g6 : mg "InUse" = some (.ref (cz 6))
  g7 : mg "NothingLeft" = some (.ref (cz 7))
  xU : ∀ j, KJ j → PySem.W.exmOne K (.ref (cz j)) (.ref U) = some false
  xj : ∀ j i, KJ j → i < 8 → PySem.W.exmOne K (.ref (cz j)) (.ref (cz i)) = some (decide (i = j))
section
variable {Pg : Program} {w : World} {K : PySem.W.Frag} {mg : Str → Option Value} {base : Heap} {DK BK S U : Addr} {cz : Nat → Addr} {fO fW : Addr} {fdO fdW : FuncData}
theorem ok_tel {f : Addr} {fd : FuncData} (F : Fun K "tell" "Desk.tell" sDeskTell f fd) (T : TTl Pg w K mg base DK BK S U cz fO fW fdO fdW) : FnOk Pg w K mg base CX0 14 f fd ["self", "text"] (spTel DK BK S) := by
  refine F.ok scTel (fun vs H Q E h => ?_) (fun cdv A outer s H vs Q E hr h => ?_)
  · obtain ⟨d, b, x, N, past, now, ahead, sv, nv, de, rfl, _⟩ := h; rfl
  obtain ⟨d, b, x, N, past, now, ahead, sv, nv, de, rfl, ⟨dx, hd⟩, sp, ne, xl, bk, dok, dsp, na, wn, ln, hc, qe, q⟩ := h
  have r13 : Room 13 _ := hr
  have r8 : Room 8 _ := hr.mono (by decide)
  refine ⟨_, (pss_one (L2N.ps_try_many rfl rfl takesN (fun W pn xe tk _ => pss_one (ps_ret (pe_callS T.gO r13 (by rfl) T.mO T.kO T.bO (fun σ => L2N.passAt tk σ) (pa_cons (pe_fldK (K := K) rfl (pv 0) rfl) (pa_cons (pe_call T.gW r8 (by rfl) T.mW T.kW T.bW .nil pass0 (pa_cons (pv 1) pa_nil)) pa_nil))))) (.cons ⟨rfl, by decide, .inl T.gU⟩ (fun _ _ _ _ _ _ _ => pss_one (ps_ret pe_str)) (.cons ⟨rfl, by decide, .inl T.g0⟩ (fun _ _ _ _ _ _ _ => pss_one (ps_ret pe_str)) (.cons ⟨rfl, by decide, .inl T.g1⟩ (fun _ _ _ _ _ _ _ => pss_one (ps_ret pe_str)) (.cons ⟨rfl, by decide, .inl T.g2⟩ (fun _ _ _ _ _ _ _ => pss_one (ps_ret pe_str)) (.cons ⟨rfl, by decide, .inl T.g3⟩ (fun _ _ _ _ _ _ _ => pss_one (ps_ret pe_str)) (.cons ⟨rfl, by decide, .inl T.g4⟩ (fun _ _ _ _ _ _ _ => pss_one (ps_ret pe_str)) (.cons ⟨rfl, by decide, .inl T.g5⟩ (fun _ _ _ _ _ _ _ => pss_one (ps_ret pe_str)) (.cons ⟨rfl, by decide, .inl T.g6⟩ (fun _ _ _ _ _ _ _ => pss_one (ps_ret pe_str)) (.cons ⟨rfl, by decide, .inl T.g7⟩ (fun _ _ _ _ _ _ _ => pss_one (ps_ret pe_str)) .nil))))))))))), ?_⟩
  refine ⟨.ref d, rfl, d, DK, dx, _, .ref b, rfl, hd, T.clD, T.nh, rfl, .str x, rfl, x, deW de, rfl, sp, ne, xl, fun H1 l s1 nl el => ?_⟩
  refine ⟨b, l, N, past, now, ahead, sv, nv, de, rfl, el, bk.same s1, dok, dsp, na.same s1, wn, ln, hc, fun j hr0 => ?_, fun o p n a H2 hr0 bkr => ?_⟩
  · intro H2 s2
    have kj : KJ j := rstp_j hr0
    have fin := qe j H2 hr0 (s1.trans s2)
    refine ⟨false, T.xU j kj, (fun z => nomatch z), fun _ => ?_⟩
    have stp : ∀ i, i < 8 → i ≠ j → PySem.W.exmOne K (.ref (cz j)) (.ref (cz i)) = some false := fun i hi hn => by rw [T.xj j i kj hi, decide_eq_false hn]
    have hit : j < 8 → PySem.W.exmOne K (.ref (cz j)) (.ref (cz j)) = some true := fun hj => by rw [T.xj j j kj hj, decide_eq_true rfl]
    rcases kj with rfl | rfl | rfl | rfl | rfl | rfl | rfl
    all_goals
      repeat first
        | exact ⟨true, hit (by decide), fun _ a na_ => fin, fun z => nomatch z⟩
        | refine ⟨false, stp _ (by decide) (by decide), (fun z => nomatch z), fun _ => ?_⟩
  · refine q o p n a H2 hr0 ?_
    obtain ⟨h1, r⟩ := bkr
    exact ⟨fun c o e n => h1 _ _ (s1 _ _ e) n, r⟩
end
end Rep
namespace Rep
open PySem L2 L2H RepHot
/-! str of anything plain; the law's small words -/
def sI (i : Int) : Str := Str.ofString (toString i)
def strA : V → Str
  | .int i => sI i
  | .str a => a
  | .bl b => if b then "True" else "False"
  | .non => "None"
  | _ => ""
def StrAble : V → Prop
  | .int i => i.natAbs.log2 < 1920
  | .str _ => True
  | .bl _ => True
  | .non => True
  | _ => False
def rStrA : List V → Hp → VK → Prop := fun xs H Q => ∃ x, xs = [x] ∧ StrAble x ∧ Q (.str (strA x)) H
theorem call_str_any {X : Cx} : CallR X (.type "str") rStrA := by
  intro pins s σ H xs us Q I r h
  obtain ⟨x, rfl, hx, q⟩ := h
  cases x with
  | int i => obtain ⟨u, rfl, t, rfl⟩ := vals1 r; exact PySem.P.str_of_int hx ⟨.str _, H, I.tok _, ⟨_, rfl⟩, q⟩
  | str a => obtain ⟨u, rfl, t, rfl⟩ := vals1 r; exact PySem.P.str_of_str ⟨.str a, H, I, ⟨t, rfl⟩, q⟩
  | bl b =>
    obtain ⟨u, rfl, r1⟩ := vals1 r
    cases r1
    exact PySem.P.str_of_bool ⟨.str _, H, I.tok _, ⟨_, rfl⟩, q⟩
  | non =>
    obtain ⟨u, rfl, r1⟩ := vals1 r
    cases r1
    exact PySem.P.str_of_none ⟨.str _, H, I.tok _, ⟨_, rfl⟩, q⟩
  | _ => exact hx.elim
/-- the text list of a list of plain values, item by item -/
theorem lc_strs {vs : List V} {i : Nat} {v : V} (hv : vs[i]? = some v) : ((vs.take (i + 1)).map fun x => V.str (strA x)) = ((vs.take i).map fun x => V.str (strA x)) ++ [V.str (strA v)] := by
  rw [List.take_add_one, hv, List.map_append]; rfl
theorem sI_len {i : Int} (h : Tn i) : (sI i).length ≤ 40 := by
  have e : i = ((i.toNat : Nat) : Int) := h.to.symm
  rw [e]; exact nS_len h.lt
theorem scWay : FnScope ["_law_turned"] ["_law_turned"] (defScope s_law_way_word) := ⟨rfl, rfl, rfl, by decide +kernel, rfl, by decide +kernel, by decide +kernel⟩
def spWay : Sp := fun vs H Q _ => ∃ b : Bool, vs = [.bl b] ∧ ∀ H', Same H H' → Q (.str (wayS b)) H'
section
variable {Pg : Program} {w : World} {K : PySem.W.Frag} {mg : Str → Option Value} {base : Heap}
theorem ok_way {f : Addr} {fd : FuncData} {k : Nat} (F : Fun K "_law_way_word" "_law_way_word" s_law_way_word f fd) (mI : mg "int" = none) : FnOk Pg w K mg base CX0 (k + 1) f fd ["_law_turned"] spWay := by
  refine F.ok scWay (fun vs H Q E h => ?_) (fun cdv A outer s H vs Q E hr h => ?_)
  · obtain ⟨b, rfl, _⟩ := h; rfl
  obtain ⟨b, rfl, q⟩ := h
  refine ⟨_, (pss_one (ps_ret (pe_ix ix_list (pe_lst (pa_cons pe_str (pa_cons pe_str pa_nil))) (pe_callTy call_int1 (by rfl) mI PyProof.Rows.boot_int (pa_cons (pv 0) pa_nil)) (fun _ _ => rfl)))), ?_⟩
  refine ⟨szN 2 rfl, fun l n_l => ?_⟩
  generalize e_l : upd H l _ = H1
  have s1 := new_same e_l n_l
  have z1 := new_at e_l
  clear e_l
  refine ⟨.bl b, rfl, .inr ⟨b, rfl, ?_⟩⟩
  cases b with
  | true => exact ⟨l, _, _, .str "turned", rfl, rfl, .inl (.inl z1), rfl, q _ s1⟩
  | false => exact ⟨l, _, _, .str "straight", rfl, rfl, .inl (.inl z1), rfl, q _ s1⟩
end
end Rep
namespace Rep
open PySem L2
/-! d.update(e) of a dict -/
def rUpdD : V → List V → Hp → VK → Prop := fun x xs H Q => ∃ (a b : Addr) (kvs more : List (L2.Key × V)), x = .ref a ∧ xs = [.ref b] ∧ H a = some (.dK kvs) ∧ H b = some (.dK more) ∧ a ≠ b ∧ kvs.length + more.length ≤ 1000 ∧ Q .non (upd H a (.dK (mergeK kvs more)))
section
variable {X : Cx}
theorem mt_updD : MtR X "dict.update" rUpdD := by
  intro pins s σ H x xs v us Q I rx rxs h
  obtain ⟨a, b, kvs, more, rfl, rfl, ha, hb, ne, hl, q⟩ := h
  cases rx
  obtain ⟨u1, rfl, r1⟩ := vals1 rxs
  cases r1
  obtain ⟨z, hd, vs, rel, dd⟩ := dk_of I.hok ha
  obtain ⟨z2, hd2, vs2, rel2, dd2⟩ := dk_of I.hok hb
  have hz : vs.length + vs2.length ≤ sizeLine := by rw [← rel.length, ← rel2.length]; exact Nat.le_trans hl (by decide)
  refine call_meetsIn PySem.F.slot_dict_update dd.typeIs PySem.F.entry_dict_update (PySem.F.args_dict_update_2 _ _) (meets_dict_update (mixKind X.prog X.w) a b ne hd2) ⟨vs, vs2, dd, dd2, hz, fun h' dd' _ hs => ?_⟩
  have he : ∃ q, h'.get? a = some q := let ⟨q, _, _, hq, _⟩ := dd'; ⟨q, hq⟩
  refine ⟨.non, _, d_write (t' := s.toks) I (by rw [ha]; exact True.intro) hs he (dk_new ?_ hd (rel2.merge rel) dd'), rfl, q⟩
  exact Nat.le_trans (length_mergeK more kvs) (Nat.le_trans hl (by decide))
end
end Rep
namespace Rep
open PySem L2 L2H PySem.Spec PyProof.Rows PySem.SeqAt
/-! numbers, bools among them: compared, min, max -/
theorem gives_lt_bi (p : Bool) (b : Int) (u : Tok) : Gives (Builtin.«int.__lt__» ⟨[.bool p, .int b u], []⟩) (.val (Value.bool (decide ((if p = true then (1 : Int) else 0) < b)))) :=
  .of_wp fun M A E s Q h => by obtain ⟨hp, g, d, tk, os⟩ := s; wp_walk; exact ⟨_, rfl, h⟩
theorem gives_gt_bi (p : Bool) (b : Int) (u : Tok) : Gives (Builtin.«int.__gt__» ⟨[.bool p, .int b u], []⟩) (.val (Value.bool (decide ((if p = true then (1 : Int) else 0) > b)))) :=
  .of_wp fun M A E s Q h => by obtain ⟨hp, g, d, tk, os⟩ := s; wp_walk; exact ⟨_, rfl, h⟩
theorem gives_ge_bi (p : Bool) (b : Int) (u : Tok) : Gives (Builtin.«int.__ge__» ⟨[.bool p, .int b u], []⟩) (.val (Value.bool (decide ((if p = true then (1 : Int) else 0) ≥ b)))) :=
  .of_wp fun M A E s Q h => by obtain ⟨hp, g, d, tk, os⟩ := s; wp_walk; exact ⟨_, rfl, h⟩
theorem gives_le_bi (p : Bool) (b : Int) (u : Tok) : Gives (Builtin.«int.__le__» ⟨[.bool p, .int b u], []⟩) (.val (Value.bool (decide ((if p = true then (1 : Int) else 0) ≤ b)))) :=
  .of_wp fun M A E s Q h => by obtain ⟨hp, g, d, tk, os⟩ := s; wp_walk; exact ⟨_, rfl, h⟩
inductive NumU : Value → Int → Prop
  | int (i : Int) (t : Tok) : NumU (.int i t) i
  | bl (b : Bool) : NumU (.bool b) (if b = true then 1 else 0)
def IsNB : V → Prop
  | .int _ => True
  | .bl _ => True
  | _ => False
def numB : V → Int
  | .int i => i
  | .bl b => if b = true then 1 else 0
  | _ => 0
theorem numU_of {x : V} {u : Value} (h : IsNB x) (r : RelV x u) : NumU u (numB x) := by
  cases x with
  | int i => obtain ⟨t, rfl⟩ := r; exact .int i t
  | bl b => cases r; exact .bl b
  | _ => exact h.elim
theorem rc_lt_nb {prog : Program} {w : World} {A : Around} {E : Value → Shared → Prop} {s : Shared} {Q : Value → Shared → Prop} {v u : Value} {i j : Int} (hv : NumU v i) (hu : NumU u j) (h : Q (.bool (decide (i < j))) s) : wpAny (model prog w) A (richCompare .Lt v u) Q E s := by
  cases hv with
  | int i t =>
    cases hu with
    | int j t' => exact richCompare_gives (typeIs_int s _ _) (typeIs_int s _ _) F.slot_int_lt F.entry_int_lt (F.args_int_lt_2 _ _) (gives_int_lt i j t t') (fun x => nomatch x) h
    | bl q => exact rc_sub_first_or (typeIs_int s i t) rfl (by decide) F.sub_bool_int F.slot_bool_gt_refl (call_gives F.slot_bool_gt_refl rfl F.entry_int_gt (F.args_int_gt_2 _ _) (gives_gt_bi q i t) ⟨nofun, h⟩) (.inl rfl)
  | bl p =>
    cases hu with
    | int j t' => exact rc_left_or rfl (typeIs_int s j t') (by decide) F.sub_int_bool F.slot_bool_lt (call_gives F.slot_bool_lt rfl F.entry_int_lt (F.args_int_lt_2 _ _) (gives_lt_bi p j t') ⟨nofun, h⟩) (.inl rfl)
    | bl q => exact richCompare_gives (T := "bool") rfl rfl F.slot_bool_lt F.entry_int_lt (F.args_int_lt_2 _ _) (PyProof.Rows.gives_int_lt_bools p q) (fun x => nomatch x) h
theorem rc_gt_nb {prog : Program} {w : World} {A : Around} {E : Value → Shared → Prop} {s : Shared} {Q : Value → Shared → Prop} {v u : Value} {i j : Int} (hv : NumU v i) (hu : NumU u j) (h : Q (.bool (decide (i > j))) s) : wpAny (model prog w) A (richCompare .Gt v u) Q E s := by
  cases hv with
  | int i t =>
    cases hu with
    | int j t' => exact richCompare_gives (typeIs_int s _ _) (typeIs_int s _ _) F.slot_int_gt F.entry_int_gt (F.args_int_gt_2 _ _) (gives_int_gt i j t t') (fun x => nomatch x) h
    | bl q => exact rc_sub_first_or (typeIs_int s i t) rfl (by decide) F.sub_bool_int F.slot_bool_lt_refl (call_gives F.slot_bool_lt_refl rfl F.entry_int_lt (F.args_int_lt_2 _ _) (gives_lt_bi q i t) ⟨nofun, h⟩) (.inl rfl)
  | bl p =>
    cases hu with
    | int j t' => exact rc_left_or rfl (typeIs_int s j t') (by decide) F.sub_int_bool F.slot_bool_gt (call_gives F.slot_bool_gt rfl F.entry_int_gt (F.args_int_gt_2 _ _) (gives_gt_bi p j t') ⟨nofun, h⟩) (.inl rfl)
    | bl q => exact richCompare_gives (T := "bool") rfl rfl F.slot_bool_gt F.entry_int_gt (F.args_int_gt_2 _ _) (PyProof.Rows.gives_int_gt_bools p q) (fun x => nomatch x) h
theorem rc_ge_nb {prog : Program} {w : World} {A : Around} {E : Value → Shared → Prop} {s : Shared} {Q : Value → Shared → Prop} {v u : Value} {i j : Int} (hv : NumU v i) (hu : NumU u j) (h : Q (.bool (decide (i ≥ j))) s) : wpAny (model prog w) A (richCompare .GtE v u) Q E s := by
  cases hv with
  | int i t =>
    cases hu with
    | int j t' => exact richCompare_gives (typeIs_int s _ _) (typeIs_int s _ _) F.slot_int_ge F.entry_int_ge (F.args_int_ge_2 _ _) (gives_int_ge i j t t') (fun x => nomatch x) h
    | bl q => exact rc_sub_first_or (typeIs_int s i t) rfl (by decide) F.sub_bool_int F.slot_bool_le_refl (call_gives F.slot_bool_le_refl rfl F.entry_int_le (F.args_int_le_2 _ _) (gives_le_bi q i t) ⟨nofun, h⟩) (.inl rfl)
  | bl p =>
    cases hu with
    | int j t' => exact rc_left_or rfl (typeIs_int s j t') (by decide) F.sub_int_bool F.slot_bool_ge (call_gives F.slot_bool_ge rfl F.entry_int_ge (F.args_int_ge_2 _ _) (gives_ge_bi p j t') ⟨nofun, h⟩) (.inl rfl)
    | bl q => exact richCompare_gives (T := "bool") rfl rfl F.slot_bool_ge F.entry_int_ge (F.args_int_ge_2 _ _) (PyProof.Rows.gives_int_ge_bools p q) (fun x => nomatch x) h
section
variable {X : Cx}
def rMinB (K : PySem.W.Frag) : List V → Hp → VK → Prop := fun vs H Q => ∃ (a : Addr) (xs : List V), vs = [V.ref a] ∧ SqL K H a xs ∧ 0 < xs.length ∧ (∀ x ∈ xs, IsNB x) ∧ ∀ x ∈ xs, (∀ y ∈ xs, numB x ≤ numB y) → Q x H
def rMaxB (K : PySem.W.Frag) : List V → Hp → VK → Prop := fun vs H Q => ∃ (a : Addr) (xs : List V), vs = [V.ref a] ∧ SqL K H a xs ∧ 0 < xs.length ∧ (∀ x ∈ xs, IsNB x) ∧ ∀ x ∈ xs, (∀ y ∈ xs, numB y ≤ numB x) → Q x H
theorem bk_vals {xs : List V} {us : List Value} (r : Vals xs us) {i : Nat} {v : Value} (h : us[i]? = some v) : ∃ x, xs[i]? = some x ∧ RelV x v := by
  have hi : i < xs.length := by rw [r.length]; exact (List.getElem?_eq_some_iff.mp h).1
  obtain ⟨u, e, ru⟩ := r.get (List.getElem?_eq_getElem hi)
  rw [h] at e
  cases e
  exact ⟨_, List.getElem?_eq_getElem hi, ru⟩
theorem cmp_lt_nb {prog : Program} {w : World} {A : Around} {xs : List V} {us : List Value} (r : Vals xs us) (hn : ∀ x ∈ xs, IsNB x) :
    CmpOf prog w A .Lt (fun i v => us.toArray[i]? = some v) (fun i j => decide (numB (xs.getD i .non) < numB (xs.getD j .non))) := fun i j vi vj s Q E hi hj h => by
  have h : Q (.bool (decide (numB (xs.getD i .non) < numB (xs.getD j .non)))) s := h
  have hi: us[i]? = some vi := by simpa using hi
  have hj : us[j]? = some vj := by simpa using hj
  obtain ⟨x, ex, rx⟩ := bk_vals r hi
  obtain ⟨y, ey, ry⟩ := bk_vals r hj
  have e1 : xs.getD i .non = x := by rw [List.getD_eq_getElem?_getD, ex]; rfl
  have e2 : xs.getD j .non = y := by rw [List.getD_eq_getElem?_getD, ey]; rfl
  rw [e1, e2] at h
  exact rc_lt_nb (numU_of (hn _ (List.mem_of_getElem? ex)) rx) (numU_of (hn _ (List.mem_of_getElem? ey)) ry) h
theorem cmp_gt_nb {prog : Program} {w : World} {A : Around} {xs : List V} {us : List Value} (r : Vals xs us) (hn : ∀ x ∈ xs, IsNB x) :
    CmpOf prog w A .Gt (fun i v => us.toArray[i]? = some v) (fun i j => decide (numB (xs.getD i .non) > numB (xs.getD j .non))) := fun i j vi vj s Q E hi hj h => by
  have h : Q (.bool (decide (numB (xs.getD i .non) > numB (xs.getD j .non)))) s := h
  have hi: us[i]? = some vi := by simpa using hi
  have hj : us[j]? = some vj := by simpa using hj
  obtain ⟨x, ex, rx⟩ := bk_vals r hi
  obtain ⟨y, ey, ry⟩ := bk_vals r hj
  have e1 : xs.getD i .non = x := by rw [List.getD_eq_getElem?_getD, ex]; rfl
  have e2 : xs.getD j .non = y := by rw [List.getD_eq_getElem?_getD, ey]; rfl
  rw [e1, e2] at h
  exact rc_gt_nb (numU_of (hn _ (List.mem_of_getElem? ex)) rx) (numU_of (hn _ (List.mem_of_getElem? ey)) ry) h
theorem cr_minB (hc : X.calm = true) : CallR X (.builtin "min") (rMinB X.K) := by
  intro pins s σ H vs us Q I r h
  obtain ⟨a, xs, rfl, hs, hne, hn, q⟩ := h
  obtain ⟨its, rv, hl, _⟩ := I.list hs
  rw [Vals.ref1 r]
  have len := rv.length
  refine call_min_walk (iter_anyList hl.isList fun s₂ e st hfp hlI => ?_)
  subst e
  refine ⟨_, _, _, _, _, _, _, rfl, Walks.list (A := X.A.in1) (I.ok.hd hc) _ a hlI its.toArray, st, hfp, by simpa [← len] using hne, cmp_lt_nb rv hn, fun v h' tk hP hk => ?_⟩
  have hP : its[argBest (fun i j => decide (numB (xs.getD i .non) < numB (xs.getD j .non))) (its.toArray.size - 1)]? = some v := by simpa using hP
  obtain ⟨x, ex, rx⟩ := bk_vals rv hP
  obtain ⟨h1, h2⟩ := argBest_lt (fun i => numB (xs.getD i .non)) (its.toArray.size - 1)
  refine ⟨x, H, I.kept (old_kept hk), rx, q x (List.mem_of_getElem? ex) fun y hy => ?_⟩
  obtain ⟨j, hj, ej⟩ := List.mem_iff_getElem.mp hy
  have e1 : xs.getD (argBest (fun i j => decide (numB (xs.getD i .non) < numB (xs.getD j .non))) (its.toArray.size - 1)) .non = x := by rw [List.getD_eq_getElem?_getD, ex]; rfl
  have e2 : xs.getD j .non = y := by rw [List.getD_eq_getElem?_getD, List.getElem?_eq_getElem hj, ej]; rfl
  have := h2 j (by simp; omega)
  simp only [e1, e2] at this
  exact this
theorem cr_maxB (hc : X.calm = true) : CallR X (.builtin "max") (rMaxB X.K) := by
  intro pins s σ H vs us Q I r h
  obtain ⟨a, xs, rfl, hs, hne, hn, q⟩ := h
  obtain ⟨its, rv, hl, _⟩ := I.list hs
  rw [Vals.ref1 r]
  have len := rv.length
  refine call_max_walk (iter_anyList hl.isList fun s₂ e st hfp hlI => ?_)
  subst e
  refine ⟨_, _, _, _, _, _, _, rfl, Walks.list (A := X.A.in1) (I.ok.hd hc) _ a hlI its.toArray, st, hfp, by simpa [← len] using hne, cmp_gt_nb rv hn, fun v h' tk hP hk => ?_⟩
  have hP : its[argBest (fun i j => decide (numB (xs.getD i .non) > numB (xs.getD j .non))) (its.toArray.size - 1)]? = some v := by simpa using hP
  obtain ⟨x, ex, rx⟩ := bk_vals rv hP
  obtain ⟨h1, h2⟩ := argBest_gt (fun i => numB (xs.getD i .non)) (its.toArray.size - 1)
  refine ⟨x, H, I.kept (old_kept hk), rx, q x (List.mem_of_getElem? ex) fun y hy => ?_⟩
  obtain ⟨j, hj, ej⟩ := List.mem_iff_getElem.mp hy
  have e1 : xs.getD (argBest (fun i j => decide (numB (xs.getD i .non) > numB (xs.getD j .non))) (its.toArray.size - 1)) .non = x := by rw [List.getD_eq_getElem?_getD, ex]; rfl
  have e2 : xs.getD j .non = y := by rw [List.getD_eq_getElem?_getD, List.getElem?_eq_getElem hj, ej]; rfl
  have := h2 j (by simp; omega)
  simp only [e1, e2] at this
  exact this
def rGeB : R2 := fun x y H Q => IsNB x ∧ IsNB y ∧ Q (.bl (decide (numB y ≤ numB x))) H
def rLtB : R2 := fun x y H Q => IsNB x ∧ IsNB y ∧ Q (.bl (decide (numB x < numB y))) H
theorem op_geB : OpR X (compareOp .GtE) rGeB := by
  intro pins s σ H x y v u Q I rx ry h
  obtain ⟨hx, hy, q⟩ := h
  exact rc_ge_nb (numU_of hx rx) (numU_of hy ry) ⟨.bl _, H, I, rfl, q⟩
theorem op_ltB : OpR X (compareOp .Lt) rLtB := by
  intro pins s σ H x y v u Q I rx ry h
  obtain ⟨hx, hy, q⟩ := h
  exact rc_lt_nb (numU_of hx rx) (numU_of hy ry) ⟨.bl _, H, I, rfl, q⟩
end
end Rep
namespace Rep
open PySem L2 L2H RepHot
/-! whether a deed's numbers and words can be told -/
def nbB : V → Bool
  | .int _ => true
  | .bl _ => true
  | _ => false
def PlainV : V → Prop
  | .int _ => True
  | .bl _ => True
  | .str _ => True
  | _ => False
theorem kitNB {K : PySem.W.Frag} {H : Hp} {v : V} (h : PlainV v) : ∃ t, TyX K H v (.type t) ∧ PySem.W.kitOne K (.type t) (.type "int") = some (nbB v) := by
  cases v with
  | int i => exact ⟨"int", .base (.int i), kit_ty (K := K) (show kitB "int" "int" = some true by decide +kernel)⟩
  | bl b => exact ⟨"bool", .base (.bl b), kit_ty (K := K) (show kitB "bool" "int" = some true by decide +kernel)⟩
  | str z => exact ⟨"str", .base (.str z), kit_ty (K := K) (show kitB "str" "int" = some false by decide +kernel)⟩
  | _ => exact h.elim
theorem nb_of {v : V} (h : nbB v = true) : IsNB v := by cases v <;> first | trivial | cases h
def ddR (d : Dd) : List V := (ddV d).drop 1
theorem ddV_cons (d : Dd) : ∃ W, ddV d = .str W :: ddR d ∧ inV (.str W) [.str "undo", .str "redo"] = false := by cases d <;> exact ⟨_, rfl, by decide +kernel⟩
theorem ddR_cut (d : Dd) : cutV (ddV d) (some 1) none = ddR d ∧ ¬ (HT.sIx (ddV d).length 0 (some 1) = 0 ∧ HT.sIx (ddV d).length (ddV d).length none = (ddV d).length) := by
  have k : ∀ n : Nat, n < 8 → 2 ≤ n → ¬ (HT.sIx n 0 (some 1) = 0 ∧ HT.sIx n n none = n) := by decide
  cases d <;> exact ⟨rfl, k _ (by simp [ddV]) (by simp [ddV])⟩
theorem ddR_plain {d : Dd} : ∀ v ∈ ddR d, PlainV v := by
  cases d <;> (intro v hv; simp [ddR, ddV] at hv; rcases hv with rfl | rfl | rfl | rfl | rfl <;> trivial)
theorem plain_flat {v : V} (h : PlainV v) : flatV v = true := by cases v <;> first | rfl | exact h.elim
theorem ddR_nb (d : Dd) : 0 < ((ddR d).filter nbB).length := by cases d <;> exact Nat.succ_pos _
theorem ddR_len (d : Dd) : (ddR d).length ≤ 5 := by cases d <;> simp [ddR, ddV]
def deNe : De → Prop
  | .dd (.rem z _ _) => z ≠ "" ∧ z ≠ " "
  | _ => True
theorem spk_of {d : Dd} (h1 : ∀ y ∈ (ddR d).filter nbB, 0 ≤ numB y ∧ numB y < 10 ^ 40) (h2 : inV (.str " ") (ddR d) = false) (h3 : inV (.str "") (ddR d) = false) : deSp (.dd d) ∧ deNe (.dd d) := by
  have g : ∀ i : Int, V.int i ∈ ddR d → Tn i := fun i hi => h1 (.int i) (List.mem_filter.mpr ⟨hi, rfl⟩)
  cases d with
  | say y => exact ⟨⟨g _ (by simp [ddR, ddV]), g _ (by simp [ddR, ddV]), g _ (by simp [ddR, ddV])⟩, trivial⟩
  | unsay n => exact ⟨g _ (by simp [ddR, ddV]), trivial⟩
  | amend n y => exact ⟨⟨g _ (by simp [ddR, ddV]), g _ (by simp [ddR, ddV]), g _ (by simp [ddR, ddV]), g _ (by simp [ddR, ddV])⟩, trivial⟩
  | rem z x m =>
    refine ⟨⟨g _ (by simp [ddR, ddV]), g _ (by simp [ddR, ddV])⟩, ?_, ?_⟩
    · rintro rfl; revert h3; show inV (.str "") (.str "" :: [.int x, .int m]) = false → False; intro h; rw [show inV (.str "") (.str "" :: [.int x, .int m]) = ((eqV (.str "") (.str "")) || inV (.str "") [.int x, .int m]) from rfl, show eqV (.str "") (.str "") = true by decide +kernel] at h; cases h
    · rintro rfl; revert h2; show inV (.str " ") (.str " " :: [.int x, .int m]) = false → False; intro h; rw [show inV (.str " ") (.str " " :: [.int x, .int m]) = ((eqV (.str " ") (.str " ")) || inV (.str " ") [.int x, .int m]) from rfl, show eqV (.str " ") (.str " ") = true by decide +kernel] at h; cases h
  | forget n => exact ⟨g _ (by simp [ddR, ddV]), trivial⟩
  | longer m => exact ⟨g _ (by simp [ddR, ddV]), trivial⟩
  | shorter m => exact ⟨g _ (by simp [ddR, ddV]), trivial⟩
def spSpk : Sp := fun vs H Q _ => ∃ (dv : V) (de : De), vs = [dv] ∧ DeAt H dv de ∧ ∀ H' b, Same H H' → (b = true → deSp de ∧ deNe de) → Q (.bl b) H'
abbrev nSpk : List Str := ["_law_deed_here", "_law_numbers_here", "_law_part"]
theorem scSpk : FnScope nSpk ["_law_deed_here"] (defScope s_law_spoken) := ⟨rfl, rfl, rfl, by decide +kernel, rfl, by decide +kernel, by decide +kernel⟩
structure TSpk (mg : Str → Option Value) : Prop where
  mis : mg "isinstance" = none
  mI : mg "int" = none
  mm : mg "min" = none
  mM : mg "max" = none
section
variable {Pg : Program} {w : World} {K : PySem.W.Frag} {mg : Str → Option Value} {base : Heap}
theorem ok_spk {f : Addr} {fd : FuncData} {k : Nat} (F : Fun K "_law_spoken" "_law_spoken" s_law_spoken f fd) (T : TSpk mg) : FnOk Pg w K mg base CX0 (k + 1) f fd ["_law_deed_here"] spSpk := by
  refine F.ok scSpk (fun vs H Q E h => ?_) (fun cdv A outer s H vs Q E hr h => ?_)
  · obtain ⟨dv, de, rfl, _⟩ := h; rfl
  obtain ⟨dv, de, rfl, ⟨td, rfl, hd⟩, q⟩ := h
  refine ⟨_, (pss_cons (ps_if (pt_cmpR op_in_seq (pe_ix ix_tup (pv 0) pe_int (fun _ _ => rfl)) (pe_tup (pa_cons pe_str (pa_cons pe_str pa_nil))) (by rfl)) (pss_one (ps_ret pe_bl)) pss_nil)
    (C8.pss_cut (ps_setLc (i := 1) (own := [("_law_part", 2)]) (g := (gName 2)) (tt := (tTest (tCB (rIsi K) (tCons (tVar 2) (tCons (tC (.ty "int")) tNil))))) (te := (tVar 2)) rfl scSpk.nd rfl rfl (sw_true rfl rfl rfl (by decide +kernel)) (pi_tup (pe_slice sl_tup (pv 0) (po_some pe_int) po_none)) (blkOk_by (N := nSpk) (sc := defScope s_law_spoken) (by decide +kernel)) (fun _ _ _ _ _ => (pg_name (i := 2) scSpk.nd rfl (.inl rfl))) (fun _ _ _ _ _ => (pts_one (pt_val (pe_callB call_isi (by rfl) T.mis PyProof.Rows.boot_isinstance (pa_cons (pv 2) (pa_cons (pe_bltn (v := .ty "int") (by rfl) T.mI PyProof.Rows.boot_int rfl) pa_nil)))))) (fun _ _ _ _ _ => (pv 2)))
    (pss_one (ps_ret (pe_and (pe_cmpR op_geB (pe_callB (cr_minB rfl) (by rfl) T.mm (by decide +kernel) (pa_cons (pv 1) pa_nil)) pe_int (nomark _)) (pe_and (pe_cmpR op_ltB (pe_callB (cr_maxB rfl) (by rfl) T.mM (by decide +kernel) (pa_cons (pv 1) pa_nil)) (pe_op op_pow pe_int pe_int) (nomark _)) (pe_and (pe_cmpR op_notIn_seq pe_str (pe_slice sl_tup (pv 0) (po_some pe_int) po_none) (by rfl)) (pe_one (pe_cmpR op_notIn_seq pe_str (pe_slice sl_tup (pv 0) (po_some pe_int) po_none) (by rfl)))))))))), ?_⟩
  cases de with
  | undo =>
    refine ⟨.ref td, rfl, td, _, _, .str "undo", rfl, rfl, .inl (.inl hd), rfl, ?_⟩
    refine ⟨szN 2 rfl, fun tw n_tw => ?_⟩
    generalize e_tw : upd H tw _ = H1
    have u1 := new_same e_tw n_tw
    have z1 := new_at e_tw
    clear e_tw
    exact ⟨tw, _, rfl, .inr (.inl (.inl z1)), rfl, rfl, true, by decide +kernel, iteT (q H1 true u1 fun _ => ⟨trivial, trivial⟩)⟩
  | redo =>
    refine ⟨.ref td, rfl, td, _, _, .str "redo", rfl, rfl, .inl (.inl hd), rfl, ?_⟩
    refine ⟨szN 2 rfl, fun tw n_tw => ?_⟩
    generalize e_tw : upd H tw _ = H1
    have u1 := new_same e_tw n_tw
    have z1 := new_at e_tw
    clear e_tw
    exact ⟨tw, _, rfl, .inr (.inl (.inl z1)), rfl, rfl, true, by decide +kernel, iteT (q H1 true u1 fun _ => ⟨trivial, trivial⟩)⟩
  | dd d =>
    have hd : H td = some (.tup (ddV d)) := hd
    obtain ⟨W, ed, e1⟩ := ddV_cons d
    obtain ⟨c1, c2⟩ := ddR_cut d
    have hd' : H td = some (.tup (.str W :: ddR d)) := by rw [← ed]; exact hd
    refine ⟨.ref td, rfl, td, _, _, .str W, rfl, rfl, .inl (.inl hd'), atI_0 _ _, ?_⟩
    refine ⟨szN 2 rfl, fun tw n_tw => ?_⟩
    generalize e_tw : upd H tw _ = H1
    have u1 := new_same e_tw n_tw
    have z1 := new_at e_tw
    clear e_tw
    refine ⟨tw, _, rfl, .inr (.inl (.inl z1)), rfl, rfl, false, by show V.bl (inV _ _) = _; rw [e1], iteF ?_⟩
    have hd1 := u1 _ _ hd
    refine ⟨fun σ' H2 => ∃ a, σ' = [some (.ref td), some (.ref a), none] ∧ Same H H2 ∧ H2 a = some (.lst ((ddR d).filter nbB)), ?_, ?_⟩
    · refine ⟨.ref td, rfl, 1, rfl, td, _, rfl, .inl (.inl hd1), c2, ?_⟩
      rw [c1]
      intro t2 n_t2
      generalize e_t2 : upd H1 t2 _ = H2
      have u2 := new_same e_t2 n_t2
      have z2 := new_at e_t2
      clear e_t2
      refine ⟨t2, rfl, ⟨_, .inl (.inl z2)⟩, fun D nD => ?_⟩
      refine lc_tup (xs := ddR d) (fun i H5 => Same H2 H5 ∧ H5 D = some (.lst (((ddR d).take i).filter nbB))) ⟨same_upd nD, upd_same⟩ (fun i H5 _ hP => .inl (.inl (hP.1 _ _ z2))) (fun i v H5 hv hP => ?_) (fun H5 hP => ?_)
      · obtain ⟨sm, eD⟩ := hP
        obtain ⟨t, ty, kt⟩ := kitNB (K := K) (H := H5) (ddR_plain v (List.mem_of_getElem? hv))
        refine ⟨rfl, ?_⟩
        refine ⟨v, rfl, v, _, _, _, nbB v, rfl, .ty "int", ty, kt, ?_⟩
        have ex : ((ddR d).take (i + 1)).filter nbB = ((ddR d).take i).filter nbB ++ (if nbB v = true then [v] else []) := by
          rw [List.take_add_one, hv, List.filter_append]
          cases c : nbB v <;> simp [c]
        cases c : nbB v with
        | true =>
          rw [c, if_pos rfl] at ex
          refine ⟨true, rfl, iteT ⟨v, rfl, _, eD, ?_, same_over sm nD, ?_⟩⟩
          · have h1 := List.length_filter_le nbB ((ddR d).take i)
            have h2 := ddR_len d
            have h3 : ((ddR d).take i).length ≤ (ddR d).length := by rw [List.length_take]; exact Nat.min_le_right _ _
            exact Nat.lt_of_le_of_lt (show _ ≤ 5 by omega) (by decide)
          · rw [upd_same, ex]
        | false =>
          rw [c, if_neg (by decide), List.append_nil] at ex
          exact ⟨false, rfl, iteF ⟨sm, by rw [ex]; exact eD⟩⟩
      · obtain ⟨sm, eD⟩ := hP
        rw [List.take_length] at eD
        exact ⟨D, rfl, u1.trans (u2.trans sm), eD⟩
    rintro σ' H2 ⟨a, rfl, u2, ea⟩
    have nb : ∀ x ∈ (ddR d).filter nbB, IsNB x := fun x hx => nb_of (List.mem_filter.mp hx).2
    have hd2 := u2 _ _ hd
    have fl : (ddR d).all flatV = true := List.all_eq_true.mpr fun v hv => plain_flat (ddR_plain v hv)
    refine ⟨.ref a, rfl, a, _, rfl, .inl (.inl ea), ddR_nb d, nb, fun x hx hm => ?_⟩
    refine ⟨nb x hx, trivial, ?_⟩
    by_cases h0 : 0 ≤ numB x
    case neg => exact ⟨false, (by show V.bl (decide (0 ≤ numB x)) = _; rw [decide_eq_false h0]), iteF (q H2 false u2 fun z => nomatch z)⟩
    refine ⟨true, (by show V.bl (decide (0 ≤ numB x)) = _; rw [decide_eq_true h0]), iteT ?_⟩
    refine ⟨.ref a, rfl, a, _, rfl, .inl (.inl ea), ddR_nb d, nb, fun y hy hM => ?_⟩
    refine ⟨10, 40, rfl, rfl, p40, nb y hy, trivial, ?_⟩
    have e40 : numB (.int ((10 : Int) ^ (40 : Int).toNat)) = 10 ^ 40 := rfl
    by_cases h1 : numB y < 10 ^ 40
    case neg => exact ⟨false, (by show V.bl (decide (numB y < 10 ^ 40)) = _; rw [decide_eq_false h1]), iteF (q H2 false u2 fun z => nomatch z)⟩
    refine ⟨true, (by show V.bl (decide (numB y < 10 ^ 40)) = _; rw [decide_eq_true h1]), iteT ?_⟩
    refine ⟨.ref td, rfl, 1, rfl, td, _, rfl, .inl (.inl hd2), c2, ?_⟩
    rw [c1]
    intro t3 n_t3
    generalize e_t3 : upd H2 t3 _ = H3
    have u3 := new_same e_t3 n_t3
    have z3 := new_at e_t3
    clear e_t3
    refine ⟨t3, _, rfl, .inr (.inl (.inl z3)), rfl, fl, ?_⟩
    cases h2 : inV (.str " ") (ddR d) with
    | true => exact ⟨false, rfl, iteF (q H3 false (u2.trans u3) fun z => nomatch z)⟩
    | false =>
      refine ⟨true, rfl, iteT ?_⟩
      refine ⟨.ref td, rfl, 1, rfl, td, _, rfl, .inl (.inl (u3 _ _ hd2)), c2, ?_⟩
      rw [c1]
      intro t4 n_t4
      generalize e_t4 : upd H3 t4 _ = H4
      have u4 := new_same e_t4 n_t4
      have z4 := new_at e_t4
      clear e_t4
      refine ⟨t4, _, rfl, .inr (.inl (.inl z4)), rfl, fl, ?_⟩
      cases h3 : inV (.str "") (ddR d) with
      | true => exact q H4 false (u2.trans (u3.trans u4)) fun z => nomatch z
      | false => exact q H4 true (u2.trans (u3.trans u4)) fun _ => spk_of (fun v hv => ⟨Int.le_trans h0 (hm v hv), Int.lt_of_le_of_lt (hM v hv) h1⟩) h2 h3
end
end Rep
namespace Rep
open PySem L2 L2H RepHot
/-! the text of a deed -/
theorem cut_init (l : List V) (x : V) : cutV (l ++ [x]) none (some (-1)) = l := by
  unfold cutV
  have e : (l ++ [x]).length = l.length + 1 := by simp
  have e1 : HT.sIx (l.length + 1) (l.length + 1) (some (-1)) = l.length := by
    show (if (-1 : Int) < 0 then (-1 + ((l.length + 1 : Nat) : Int)).toNat else min (-1 : Int).toNat (l.length + 1)) = l.length
    rw [if_pos (by decide)]
    omega
  rw [e, e1]
  show List.take (l.length - 0) (List.drop 0 (l ++ [x])) = l
  rw [List.drop_zero, Nat.sub_zero, List.take_left' rfl]
def dctT : List (Key × V) := [(.inr "remember", .str "note"), (.inr "lengthen", .str "longer"), (.inr "shorten", .str "shorter")]
structure TxK (de : De) (hd hd' : Str) (tl : List V) (ws : List Str) : Prop where
  v : deV de = .str hd :: tl
  w : deW de = hd' :: ws
  g : (valV (mergeK [] dctT) (.inr hd)).getD (.str hd) = .str hd'
  s : (inV (.str hd) [.str "say", .str "amend"] = false ∧ tl.map strA = ws) ∨ (inV (.str hd) [.str "say", .str "amend"] = true ∧ ∃ mid t, tl = mid ++ [.bl t] ∧ ws = mid.map strA ++ [wayS t])
theorem nI_sI {i : Int} (h : Tn i) : sI i = nI i := by
  unfold sI nI nS
  rw [h.to]
theorem txk {de : De} (h : deSp de) : ∃ hd hd' tl ws, TxK de hd hd' tl ws := by
  cases de with
  | undo => exact ⟨"undo", "undo", [], [], rfl, rfl, by decide +kernel, .inl ⟨by decide +kernel, rfl⟩⟩
  | redo => exact ⟨"redo", "redo", [], [], rfl, rfl, by decide +kernel, .inl ⟨by decide +kernel, rfl⟩⟩
  | dd d =>
    cases d with
    | say y =>
      obtain ⟨t1, t2, t3⟩ : Tn y.lo ∧ Tn y.hi ∧ Tn y.n := h
      exact ⟨"say", "say", _, _, rfl, rfl, by decide +kernel, .inr ⟨by decide +kernel, [.int y.lo, .int y.hi, .int y.n], y.t, rfl, by rw [← nI_sI t1, ← nI_sI t2, ← nI_sI t3]; rfl⟩⟩
    | unsay n =>
      have t1 : Tn n := h
      exact ⟨"unsay", "unsay", _, _, rfl, rfl, by decide +kernel, .inl ⟨by decide +kernel, by rw [← nI_sI t1]; rfl⟩⟩
    | amend n y =>
      obtain ⟨t0, t1, t2, t3⟩ : Tn n ∧ Tn y.lo ∧ Tn y.hi ∧ Tn y.n := h
      exact ⟨"amend", "amend", _, _, rfl, rfl, by decide +kernel, .inr ⟨by decide +kernel, [.int n, .int y.lo, .int y.hi, .int y.n], y.t, rfl, by rw [← nI_sI t0, ← nI_sI t1, ← nI_sI t2, ← nI_sI t3]; rfl⟩⟩
    | rem z x m =>
      obtain ⟨t1, t2⟩ : Tn x ∧ Tn m := h
      exact ⟨"remember", "note", _, _, rfl, rfl, by decide +kernel, .inl ⟨by decide +kernel, by rw [← nI_sI t1, ← nI_sI t2]; rfl⟩⟩
    | forget n =>
      have t1 : Tn n := h
      exact ⟨"forget", "forget", _, _, rfl, rfl, by decide +kernel, .inl ⟨by decide +kernel, by rw [← nI_sI t1]; rfl⟩⟩
    | longer n =>
      have t1 : Tn n := h
      exact ⟨"lengthen", "longer", _, _, rfl, rfl, by decide +kernel, .inl ⟨by decide +kernel, by rw [← nI_sI t1]; rfl⟩⟩
    | shorter n =>
      have t1 : Tn n := h
      exact ⟨"shorten", "shorter", _, _, rfl, rfl, by decide +kernel, .inl ⟨by decide +kernel, by rw [← nI_sI t1]; rfl⟩⟩
theorem deV_able {de : De} (h : deSp de) : ∀ v ∈ deV de, StrAble v := by
  cases de with
  | undo => intro v hv; rw [List.mem_singleton.mp hv]; trivial
  | redo => intro v hv; rw [List.mem_singleton.mp hv]; trivial
  | dd d =>
    cases d with
    | say y =>
      obtain ⟨t1, t2, t3⟩ : Tn y.lo ∧ Tn y.hi ∧ Tn y.n := h
      intro v hv; simp [deV, ddV] at hv
      rcases hv with rfl | rfl | rfl | rfl | rfl
      · trivial
      · exact log40 t1
      · exact log40 t2
      · exact log40 t3
      · trivial
    | amend n y =>
      obtain ⟨t0, t1, t2, t3⟩ : Tn n ∧ Tn y.lo ∧ Tn y.hi ∧ Tn y.n := h
      intro v hv; simp [deV, ddV] at hv
      rcases hv with rfl | rfl | rfl | rfl | rfl | rfl
      · trivial
      · exact log40 t0
      · exact log40 t1
      · exact log40 t2
      · exact log40 t3
      · trivial
    | rem z x m =>
      obtain ⟨t1, t2⟩ : Tn x ∧ Tn m := h
      intro v hv; simp [deV, ddV] at hv
      rcases hv with rfl | rfl | rfl | rfl
      · trivial
      · trivial
      · exact log40 t1
      · exact log40 t2
    | unsay n => intro v hv; simp [deV, ddV] at hv; rcases hv with rfl | rfl; · trivial
                 exact log40 (show Tn n from h)
    | forget n => intro v hv; simp [deV, ddV] at hv; rcases hv with rfl | rfl; · trivial
                  exact log40 (show Tn n from h)
    | longer n => intro v hv; simp [deV, ddV] at hv; rcases hv with rfl | rfl; · trivial
                  exact log40 (show Tn n from h)
    | shorter n => intro v hv; simp [deV, ddV] at hv; rcases hv with rfl | rfl; · trivial
                   exact log40 (show Tn n from h)
theorem deV_len (de : De) : (deV de).length ≤ 6 := by
  cases de with
  | dd d => cases d <;> simp [deV, ddV]
  | undo => simp [deV]
  | redo => simp [deV]
theorem nI_len {i : Int} (h : Tn i) : (nI i).length ≤ 1000 := Nat.le_trans (nS_len h.lt) (by decide)
theorem way_len (t : Bool) : (wayS t).length ≤ 1000 := by cases t <;> decide +kernel
theorem deW_lens {de : De} (h : deSp de) (ok : deOk de) : ∀ z ∈ deW de, z.length ≤ 1000 := by
  cases de with
  | undo => intro z hz; rw [List.mem_singleton.mp hz]; decide +kernel
  | redo => intro z hz; rw [List.mem_singleton.mp hz]; decide +kernel
  | dd d =>
    cases d with
    | say y =>
      obtain ⟨t1, t2, t3⟩ : Tn y.lo ∧ Tn y.hi ∧ Tn y.n := h
      intro v hv; simp [deW] at hv
      rcases hv with rfl | rfl | rfl | rfl | rfl
      · decide +kernel
      · exact nI_len t1
      · exact nI_len t2
      · exact nI_len t3
      · exact way_len _
    | amend n y =>
      obtain ⟨t0, t1, t2, t3⟩ : Tn n ∧ Tn y.lo ∧ Tn y.hi ∧ Tn y.n := h
      intro v hv; simp [deW] at hv
      rcases hv with rfl | rfl | rfl | rfl | rfl | rfl
      · decide +kernel
      · exact nI_len t0
      · exact nI_len t1
      · exact nI_len t2
      · exact nI_len t3
      · exact way_len _
    | rem z x m =>
      obtain ⟨t1, t2⟩ : Tn x ∧ Tn m := h
      intro v hv; simp [deW] at hv
      rcases hv with rfl | rfl | rfl | rfl
      · decide +kernel
      · exact ok
      · exact nI_len t1
      · exact nI_len t2
    | unsay n => intro v hv; simp [deW] at hv; rcases hv with rfl | rfl; · decide +kernel
                 exact nI_len (show Tn n from h)
    | forget n => intro v hv; simp [deW] at hv; rcases hv with rfl | rfl; · decide +kernel
                  exact nI_len (show Tn n from h)
    | longer n => intro v hv; simp [deW] at hv; rcases hv with rfl | rfl; · decide +kernel
                  exact nI_len (show Tn n from h)
    | shorter n => intro v hv; simp [deW] at hv; rcases hv with rfl | rfl; · decide +kernel
                   exact nI_len (show Tn n from h)
theorem sum_few : ∀ (l : List Str) (n : Nat), (∀ z ∈ l, z.length ≤ 1000) → l.length ≤ n → (l.map (·.length)).sum ≤ 1000 * n
  | [], n, _, _ => Nat.zero_le _
  | z :: r, n, h, hl => by
    obtain ⟨k, rfl⟩ : ∃ k, n = k + 1 := ⟨n - 1, by simp at hl; omega⟩
    have h1 := sum_few r k (fun y hy => h y (List.mem_cons_of_mem _ hy)) (by simp at hl; omega)
    have h2 := h z List.mem_cons_self
    show z.length + (r.map (·.length)).sum ≤ _
    omega
def spTxt : Sp := fun vs H Q _ => ∃ (dv : V) (de : De), vs = [dv] ∧ DeAt H dv de ∧ deSp de ∧ deOk de ∧ ∀ H', Same H H' → Q (.str (Txt.join " " (deW de))) H'
abbrev nText : List Str := ["_law_deed_here", "_law_words", "_law_part"]
theorem scText : FnScope nText ["_law_deed_here"] (defScope s_law_deed_text) := ⟨rfl, rfl, rfl, by decide +kernel, rfl, by decide +kernel, by decide +kernel⟩
structure TTx (Pg : Program) (w : World) (K : PySem.W.Frag) (mg : Str → Option Value) (base : Heap) (fW : Addr) (fdW : FuncData) : Prop where
  gW : FnOk Pg w K mg base CX0 7 fW fdW ["_law_turned"] spWay
  bW : Binds K fdW ["_law_turned"] []
  kW : PySem.W.keepIn K (.ref fW) = true
  mW : mg "_law_way_word" = some (.ref fW)
  ms : mg "str" = none
section
variable {Pg : Program} {w : World} {K : PySem.W.Frag} {mg : Str → Option Value} {base : Heap}
theorem ok_text {f fW : Addr} {fd fdW : FuncData} (F : Fun K "_law_deed_text" "_law_deed_text" s_law_deed_text f fd) (T : TTx Pg w K mg base fW fdW) : FnOk Pg w K mg base CX0 8 f fd ["_law_deed_here"] spTxt := by
  refine F.ok scText (fun vs H Q E h => ?_) (fun cdv A outer s H vs Q E hr h => ?_)
  · obtain ⟨dv, de, rfl, _⟩ := h; rfl
  obtain ⟨dv, de, rfl, ⟨td, rfl, hd⟩, sp, ok, q⟩ := h
  have r7 : Room 7 _ := hr
  have hu := hu_of hr
  refine ⟨_, (C8.pss_cut (ps_setLc (i := 1) (own := [("_law_part", 2)]) (g := (gName 2)) (tt := tYes) (te := (tCB rStrA (tCons (tVar 2) tNil))) rfl scText.nd rfl rfl (sw_true rfl rfl rfl (by decide +kernel)) (pi_tup (pv 0)) (blkOk_by (N := nText) (sc := defScope s_law_deed_text) (by decide +kernel)) (fun _ _ _ _ _ => (pg_name (i := 2) scText.nd rfl (.inl rfl))) (fun _ _ _ _ _ => pts_nil) (fun _ _ _ _ _ => (pe_callTy call_str_any (by rfl) T.ms PyProof.Rows.boot_str (pa_cons (pv 2) pa_nil))))
    (C8.pss_cut (ps_if (pt_cmpR op_in_seq (pe_ix ix_tup (pv 0) pe_int (fun _ _ => rfl)) (pe_tup (pa_cons pe_str (pa_cons pe_str pa_nil))) (by rfl)) (pss_one (ps_set (i := 1) scText.nd rfl (.inl rfl) (pe_op op_cat (pe_slice sl_list (pv 1) po_none (po_some (pe_un un_neg pe_int))) (pe_lst (pa_cons (pe_call T.gW r7 (by rfl) T.mW T.kW T.bW .nil pass0 (pa_cons (pe_ix ix_tup (pv 0) (pe_un un_neg pe_int) (fun _ _ => rfl)) pa_nil)) pa_nil))))) pss_nil)
    (C8.pss_cut (ps_asg (pe_dget2 hu (pe_disp (pps_cons pe_str pe_str (pps_cons pe_str pe_str (pps_cons pe_str pe_str pps_nil))) rfl rfl (by simp) (by decide)) (pe_ix ix_tup (pv 0) pe_int (fun _ _ => rfl)) (pe_ix ix_tup (pv 0) pe_int (fun _ _ => rfl)) ⟨rfl, rfl, rfl, rfl⟩) (pg_sub (pv 1) pe_int set_list))
    (pss_one (ps_ret (pe_join pe_str (pv 1))))))), ?_⟩
  obtain ⟨hw, hw', tl, ws, ev, ew, eg, es⟩ := txk sp
  have l6 := deV_len de
  have ab := deV_able sp
  rw [ev] at hd l6 ab
  -- the words
  refine ⟨fun σ' H1 => ∃ a, σ' = [some (.ref td), some (.ref a), none] ∧ Same H H1 ∧ H a = none ∧ H1 a = some (.lst (V.str hw :: tl.map fun x => V.str (strA x))), ?_, ?_⟩
  · refine ⟨.ref td, rfl, td, rfl, ⟨_, .inl (.inl hd)⟩, fun D nD => ?_⟩
    refine lc_tup (xs := .str hw :: tl) (fun i H5 => Same H H5 ∧ H5 D = some (.lst (((V.str hw :: tl).take i).map fun v => V.str (strA v)))) ⟨same_upd nD, upd_same⟩ (fun i H5 _ hP => .inl (.inl (hP.1 _ _ hd))) (fun i v H5 hv hP => ?_) (fun H5 hP => ?_)
    · obtain ⟨sm, eD⟩ := hP
      refine ⟨rfl, ?_⟩
      refine tYes_ok ?_
      refine iteT ?_
      refine ⟨v, rfl, v, rfl, ab v (List.mem_of_getElem? hv), _, eD, ?_, same_over sm nD, ?_⟩
      · rw [List.length_map, List.length_take]
        exact Nat.lt_of_le_of_lt (Nat.le_trans (Nat.min_le_right _ _) l6) (by decide)
      · rw [upd_same, lc_strs hv]
    · obtain ⟨sm, eD⟩ := hP
      rw [List.take_length] at eD
      exact ⟨D, rfl, sm, nD, eD⟩
  rintro σ' H1 ⟨a, rfl, u1, na, ea⟩
  -- the way
  refine ⟨fun σ' H2 => ∃ a, σ' = [some (.ref td), some (.ref a), none] ∧ Same H H2 ∧ H a = none ∧ H2 a = some (.lst (V.str hw :: ws.map V.str)), ?_, ?_⟩
  · have hd1 := u1 _ _ hd
    refine ⟨.ref td, rfl, td, _, _, .str hw, rfl, rfl, .inl (.inl hd1), atI_0 _ _, ?_⟩
    refine ⟨szN 2 rfl, fun tw n_tw => ?_⟩
    generalize e_tw : upd H1 tw _ = H2
    have u2 := new_same e_tw n_tw
    have z2 := new_at e_tw
    clear e_tw
    rcases es with ⟨e1, e2⟩ | ⟨e1, mid, t, e2, e3⟩
    · refine ⟨tw, _, rfl, .inr (.inl (.inl z2)), rfl, rfl, false, by show V.bl (inV _ _) = _; rw [e1], iteF ⟨a, rfl, u1.trans u2, na, ?_⟩⟩
      rw [u2 _ _ ea, ← e2, List.map_map]; rfl
    · refine ⟨tw, _, rfl, .inr (.inl (.inl z2)), rfl, rfl, true, by show V.bl (inV _ _) = _; rw [e1], iteT ?_⟩
      subst e2
      have ea2 : H2 a = some (.lst ((V.str hw :: mid.map fun x => V.str (strA x)) ++ [V.str (strA (.bl t))])) := by rw [u2 _ _ ea, List.map_append]; rfl
      refine ⟨.ref a, rfl, 1, rfl, _, rfl, a, _, rfl, .inl (.inl ea2), ?_⟩
      intro l3 n_l3
      generalize e_l3 : upd H2 l3 _ = H3
      have u3 := new_same e_l3 n_l3
      have z3 := new_at e_l3
      clear e_l3
      have e3' : cutV ((V.str hw :: mid.map fun x => V.str (strA x)) ++ [V.str (strA (.bl t))]) none (some (-1)) = V.str hw :: mid.map fun x => V.str (strA x) := cut_init _ _
      rw [e3'] at z3
      have hd3 : H3 td = some (.tup ((V.str hw :: mid) ++ [.bl t])) := u3 _ _ (u2 _ _ hd1)
      refine ⟨.ref td, rfl, 1, rfl, td, _, _, .bl t, rfl, rfl, .inl (.inl hd3), atI_last _ _, t, rfl, fun H4 u4 => ?_⟩
      refine ⟨szN 1 rfl, fun l5 n_l5 => ?_⟩
      generalize e_l5 : upd H4 l5 _ = H5
      have u5 := new_same e_l5 n_l5
      have z5 := new_at e_l5
      clear e_l5
      refine ⟨l3, l5, _, _, rfl, rfl, u5 _ _ (u4 _ _ z3), z5, Nat.le_trans (show _ ≤ 100 by simp at l6 ⊢; omega) (by decide), ?_⟩
      intro l6_ n_l6_
      generalize e_l6_ : upd H5 l6_ _ = H6
      have u6 := new_same e_l6_ n_l6_
      have z6 := new_at e_l6_
      clear e_l6_
      have u16 := u1.trans (u2.trans (u3.trans (u4.trans u5)))
      refine ⟨l6_, rfl, u16.trans u6, Same.free u16 n_l6_, ?_⟩
      rw [z6, e3, List.map_append, List.map_map]; rfl
  clear u1 ea na
  rintro σ' H2 ⟨a2, rfl, u2, na2, ea2⟩
  have hd2 := u2 _ _ hd
  -- the first word
  refine ⟨fun σ' H3 => σ' = [some (.ref td), some (.ref a2), none] ∧ Same H H3 ∧ H3 a2 = some (.lst (V.str hw' :: ws.map V.str)), ?_, ?_⟩
  · intro m nm
    have s0 := same_upd (o := .dK []) nm
    have zm : upd H2 m (.dK []) m = some (.dK []) := upd_same
    generalize upd H2 m (.dK []) = H3 at s0 zm ⊢
    refine ⟨zm, dctT, rfl, by show 3 ≤ 15; decide, ?_⟩
    have u4 : Same H2 (upd H3 m (.dK (mergeK [] dctT))) := same_over s0 nm
    have z4 : upd H3 m (.dK (mergeK [] dctT)) m = some (.dK (mergeK [] dctT)) := upd_same
    generalize upd H3 m (.dK (mergeK [] dctT)) = H4 at u4 z4 ⊢
    have hd4 := u4 _ _ hd2
    have ea4 := u4 _ _ ea2
    refine ⟨m, rfl, .inl ⟨_, .inl z4⟩, .ref td, rfl, td, _, _, .str hw, rfl, rfl, .inl (.inl hd4), atI_0 _ _, .ref td, rfl, td, _, _, .str hw, rfl, rfl, .inl (.inl hd4), atI_0 _ _, _, .inl ⟨_, .inr hw, .inl z4, rfl, rfl⟩, ?_⟩
    rw [eg]
    refine ⟨.ref a2, rfl, a2, _, 0, 0, rfl, rfl, ea4, by unfold ixN; rw [if_pos (by decide), if_pos (by simp)]; rfl, rfl, same_over (u2.trans u4) na2, upd_same⟩
  rintro σ' H3 ⟨rfl, u3, ea3⟩
  have ls := deW_lens sp ok
  have ln := deW_len de
  refine ⟨⟨_, rfl⟩, .ref a2, rfl, " ", a2, deW de, rfl, rfl, .inl (.inl (.inl (by rw [ea3, ew]; rfl))), ?_, q H3 u3⟩
  have := sum_few (deW de) 6 ls ln
  show _ + (deW de).length * 1 ≤ _
  omega
end
end Rep
namespace Rep
open PySem L2 L2H RepHot
/-! texts of words -/
theorem blank_S : (" " : Str) = SX.S [32] := by decide +kernel
theorem join_S' (ws : List Str) : Txt.join " " ws = SX.S (TL.joinL [32] (ws.map fun z => z.cps.toList)) := by
  rw [blank_S]
  have e : ws = (ws.map fun z => z.cps.toList).map SX.S := by
    rw [List.map_map]
    exact (List.map_id ws).symm.trans (List.map_congr_left fun z _ => (SX.S_tl z).symm)
  conv => lhs; rw [e]
  exact SX.join_S _ _
theorem split_join {ws : List Str} (hne : ws ≠ []) (h : ∀ z ∈ ws, 32 ∉ z.cps.toList) : Txt.split (Txt.join " " ws) " " = ws := by
  rw [join_S', blank_S, SX.split_S (by decide) (by decide), SX.spl_join (by simpa using hne)]
  · rw [List.map_map]
    exact (List.map_congr_left fun z _ => SX.S_tl z).trans (List.map_id ws)
  · intro p hp
    obtain ⟨z, hz, rfl⟩ := List.mem_map.mp hp
    exact h z hz
theorem joinL_len (a : List Nat) : ∀ l : List (List Nat), (TL.joinL a l).length ≤ (l.map List.length).sum + l.length * a.length
  | [] => Nat.zero_le _
  | [p] => by show p.length ≤ p.length + 0 + 1 * a.length; omega
  | p :: q :: r => by
    have ih := joinL_len a (q :: r)
    show (p ++ (a ++ TL.joinL a (q :: r))).length ≤ _
    rw [List.length_append, List.length_append]
    simp only [List.map_cons, List.sum_cons, List.length_cons] at ih ⊢
    rw [Nat.add_mul]
    omega
theorem join_len (ws : List Str) : (Txt.join " " ws).length ≤ (ws.map (·.length)).sum + ws.length := by
  rw [join_S', SX.S_len]
  have := joinL_len [32] (ws.map fun z => z.cps.toList)
  rw [List.map_map, List.length_map] at this
  have e : (ws.map (List.length ∘ fun z : Str => z.cps.toList)) = ws.map (·.length) := List.map_congr_left fun z _ => by simp [Str.length]
  rw [e] at this
  simpa using this
theorem nI_nb (i : Int) : 32 ∉ (nI i).cps.toList := by
  show 32 ∉ (nS i.toNat).cps.toList
  rw [nS_S]
  intro h
  have h : 32 ∈ TL.numL i.toNat := h
  have := TL.numL_digits _ _ h
  omega
theorem nI_ne (i : Int) : nI i ≠ "" := by
  intro h
  have h : nS i.toNat = "" := h
  rw [nS_S] at h
  exact TL.numL_ne i.toNat (congrArg (fun x : Str => x.cps.toList) h)
theorem way_nb (t : Bool) : 32 ∉ (wayS t).cps.toList := by cases t <;> decide +kernel
theorem way_ne (t : Bool) : wayS t ≠ "" := by cases t <;> decide +kernel
/-- a text that is told a desk -/
structure TxtOk (x : Str) (ws : List Str) : Prop where
  s : Txt.split x " " = ws
  n : ("" : Str) ∉ ws
  l : x.length + 2 ≤ sizeLine
theorem txt_ok {ws : List Str} (hne : ws ≠ []) (hl : ws.length ≤ 10) (h : ∀ z ∈ ws, 32 ∉ z.cps.toList ∧ z ≠ "" ∧ z.length ≤ 1000) : TxtOk (Txt.join " " ws) ws := by
  refine ⟨split_join hne fun z hz => (h z hz).1, fun z => (h _ z).2.1 rfl, ?_⟩
  have a := join_len ws
  have b := sum_few ws 10 (fun z hz => (h z hz).2.2) hl
  exact Nat.le_trans (show _ ≤ 20000 by omega) (by decide)
theorem join2 (a b : Str) : Txt.join " " [a, b] = a ++ " " ++ b := rfl
theorem join3 (a b c : Str) : Txt.join " " [a, b, c] = a ++ " " ++ (b ++ " " ++ c) := by rw [TL.join_eq]; rfl
theorem join5 (a b c d e : Str) : Txt.join " " [a, b, c, d, e] = (a ++ " ") ++ Txt.join " " [b, c, d] ++ " " ++ e := by
  rw [TL.join_eq, TL.join_eq]
  apply TL.ext_tl
  show TL.tl (a ++ " " ++ (b ++ " " ++ (c ++ " " ++ (d ++ " " ++ e)))) = TL.tl ((a ++ " ") ++ (b ++ " " ++ (c ++ " " ++ d)) ++ " " ++ e)
  simp only [TL.tl_append, List.append_assoc]
theorem ap_len (a b : Str) : (a ++ b).length = a.length + b.length := by
  rw [← SX.S_tl a, ← SX.S_tl b, SX.S_cat, SX.S_len, SX.S_len, SX.S_len, List.length_append]
theorem fitL {n : Nat} (h : n ≤ 10000) : n ≤ sizeLine := Nat.le_trans h (by decide)
end Rep
namespace Rep
open PySem L2 PyProof.Rows
/-! sorted(xs) of a list of pairs of a number and a text -/
def isD (p : Int × Str) : PyData := .tuple [.int p.1, .str p.2]
def ISat (H : Hp) (v : V) (p : Int × Str) : Prop := ∃ t, v = .ref t ∧ H t = some (.tup [.int p.1, .str p.2])
theorem ISat.ts {H H' : Hp} (h : TS H H') {v : V} {p : Int × Str} (k : ISat H v p) : ISat H' v p := by obtain ⟨t, e, ht⟩ := k; exact ⟨t, e, h _ _ ht⟩
def srtF (ps : List (Int × Str)) : List (Int × Str) := ps.mergeSort (PySem.W.dataLe false isD)
def rSortIS (K : PySem.W.Frag) : List V → Hp → VK → Prop := fun vs H Q => ∃ (a : Addr) (xs : List V) (ps : List (Int × Str)), vs = [V.ref a] ∧ SqL K H a xs ∧ LL ISat H xs ps ∧ ps.length ≤ 1000 ∧ ∀ ys p, LL ISat H ys (srtF ps) → H p = none → Q (.ref p) (upd H p (.lst ys))
theorem isat_each {H : Hp} : ∀ {xs : List V} {us : List Value} {ps : List (Int × Str)}, Vals xs us → LL ISat H xs ps → PySem.W.EachIs (fun u p => ∃ v, RelV v u ∧ ISat H v p) us ps
  | [], [], [], _, _ => .nil
  | [], [], _ :: _, _, h => by have := h.len; simp at this
  | x :: xs, u :: us, [], _, h => by have := h.len; simp at this
  | x :: xs, u :: us, p :: ps, .cons r t, h => .cons ⟨x, r, h.at_ 0 x p rfl rfl⟩ (isat_each t ⟨by have := h.len; simpa using this, fun i w a h1 h2 => h.at_ (i + 1) w a h1 h2⟩)
theorem each_isat {H : Hp} : ∀ {us : List Value} {ps : List (Int × Str)}, PySem.W.EachIs (fun u p => ∃ v, RelV v u ∧ ISat H v p) us ps → ∃ xs, Vals xs us ∧ LL ISat H xs ps
  | [], [], _ => ⟨[], .nil, .nil⟩
  | u :: us, p :: ps, .cons ⟨v, r, i⟩ t => by
    obtain ⟨xs, rv, l⟩ := each_isat t
    refine ⟨v :: xs, .cons r rv, ⟨by simp [l.len], fun j w a h1 h2 => ?_⟩⟩
    cases j with
    | zero => cases h1; cases h2; exact i
    | succ j => exact l.at_ j w a h1 h2
section
variable {X : Cx}
theorem cr_sortedIS (hU : X.A.units + 64 < cLine) : CallR X (.builtin "sorted") (rSortIS X.K) := by
  intro pins s σ H vs us Q I r h
  obtain ⟨a, xs, ps, rfl, hs, hx, hl, q⟩ := h
  obtain ⟨its, rv, hl0, hz⟩ := I.list hs
  obtain ⟨u, rfl, ru⟩ := vals1 r
  obtain rfl : u = Value.ref a := ru
  have ea := isat_each rv hx
  refine PySem.W.sorted_data (enc := isD) (bs := ps) hl0.isList ea (ea.mono fun u p h => ?_) (PySem.W.AllAlike.of fun b b' => rfl) (PySem.W.Sortable.tuples fun b => ⟨_, _, rfl⟩) (Nat.le_trans hl (by decide)) (fun b _ => ?_) fun out ho eo => ?_
  · obtain ⟨v, rr, t, ev, ht⟩ := h
    subst ev
    exact Dp.reads I (isD p) (.ref t) u (.tup (.inl (.inl ht)) (.cons (.int _) (.cons (.str _) .nil))) rr
  · show X.A.units + 2 + (isD b).depth < cLine
    have : (isD b).depth ≤ 2 := by simp [isD, PyData.depth, PyData.depthAll]
    omega
  · obtain ⟨ys, ry, ly⟩ := each_isat eo
    obtain ⟨n, hn⟩ := sortedAll_at s.heap its out.toArray
    refine ⟨.ref (s.heap.objs.size + 1), upd H (s.heap.objs.size + 1) (.lst ys), I.laid (t' := s.toks) (fun b o e => sortedAll_old e) (Nat.le_succ _) ⟨?_, out, n, ry, hn⟩, rfl, q ys _ ly (I.hok.fresh (Nat.le_succ _))⟩
    rw [ry.length, ho]
    exact Nat.le_trans hl (by decide)
end
end Rep
namespace Rep
open PySem L2 L2H RepHot
/-! the page of a book -/
def rowS (r : Rw) : Str := Txt.join " " ["say", sI r.num, sI r.sy.lo, sI r.sy.hi, sI r.sy.n, wayS r.sy.t]
def rowM (m : Me) : Str := Txt.join " " ["note", sI m.num, m.lt, sI m.at_, sI m.n]
def psF (s : Sht) : List (Int × Str) := s.said.map (fun r => (r.num, rowS r)) ++ s.noted.map (fun m => (m.num, rowM m))
def headF (s : Sht) : Str := Txt.join " " ["song", sI s.size, sI s.coming]
def pgF (s : Sht) : Str := Txt.join "\n" (headF s :: (srtF (psF s)).map Prod.snd)
/-- what numbers of a sheet can be told -/
structure Tl (s : Sht) : Prop where
  e : Tn s.size
  c : Tn s.coming
  a : ∀ r ∈ s.said, Tn r.num ∧ Tn r.sy.lo ∧ Tn r.sy.hi ∧ Tn r.sy.n
  b : ∀ m ∈ s.noted, Tn m.num ∧ Tn m.at_ ∧ Tn m.n ∧ m.lt.length ≤ 100
theorem Tl.of {s : Sht} (w : Wf s) (f : Fit s) (c : Tn s.coming) (n1 : ∀ r ∈ s.said, 0 ≤ r.num) (n2 : ∀ m ∈ s.noted, 0 ≤ m.num) : Tl s := by
  have e := w.e
  refine ⟨⟨e.1, e.2⟩, c, fun r hr => ?_, fun m hm => ?_⟩
  · obtain ⟨⟨a1, a2, a3⟩, ⟨_, b2, b3⟩⟩ := f.a r hr
    have := w.c1 r hr
    have := n1 r hr
    have := c.2
    have := e.2
    exact ⟨⟨by omega, by omega⟩, ⟨by omega, by omega⟩, ⟨by omega, by omega⟩, ⟨by omega, by omega⟩⟩
  · obtain ⟨a1, a2, a3⟩ := f.b m hm
    have := w.c2 m hm
    have := n2 m hm
    have := c.2
    have := e.2
    exact ⟨⟨by omega, by omega⟩, ⟨by omega, by omega⟩, ⟨by omega, by omega⟩, by rw [(w.lt m hm).len]; decide⟩
theorem way_le (t : Bool) : (wayS t).length ≤ 8 := by cases t <;> decide +kernel
theorem l_say : ("say " : Str).length = 4 := by decide +kernel
theorem l_note : ("note " : Str).length = 5 := by decide +kernel
theorem l_song : ("song " : Str).length = 5 := by decide +kernel
theorem l_bl : (" " : Str).length = 1 := by decide +kernel
theorem l_emp : (Str.empty).length = 0 := rfl
theorem out_say (r : Rw) : Str.empty ++ "say " ++ sI r.num ++ " " ++ sI r.sy.lo ++ " " ++ sI r.sy.hi ++ " " ++ sI r.sy.n ++ " " ++ wayS r.sy.t = rowS r := by
  unfold rowS
  rw [TL.join_eq]
  apply TL.ext_tl
  show _ = TL.tl ("say" ++ " " ++ (sI r.num ++ " " ++ (sI r.sy.lo ++ " " ++ (sI r.sy.hi ++ " " ++ (sI r.sy.n ++ " " ++ wayS r.sy.t)))))
  have e : TL.tl ("say " : Str) = TL.tl ("say" : Str) ++ TL.tl (" " : Str) := by decide +kernel
  simp only [TL.tl_append, e, List.append_assoc, show TL.tl Str.empty = [] from rfl, List.nil_append]
theorem out_note (m : Me) : Str.empty ++ "note " ++ sI m.num ++ " " ++ m.lt ++ " " ++ sI m.at_ ++ " " ++ sI m.n = rowM m := by
  unfold rowM
  rw [TL.join_eq]
  apply TL.ext_tl
  show _ = TL.tl ("note" ++ " " ++ (sI m.num ++ " " ++ (m.lt ++ " " ++ (sI m.at_ ++ " " ++ sI m.n))))
  have e : TL.tl ("note " : Str) = TL.tl ("note" : Str) ++ TL.tl (" " : Str) := by decide +kernel
  simp only [TL.tl_append, e, List.append_assoc, show TL.tl Str.empty = [] from rfl, List.nil_append]
theorem out_song (s : Sht) : Str.empty ++ "song " ++ sI s.size ++ " " ++ sI s.coming = headF s := by
  unfold headF
  rw [TL.join_eq]
  apply TL.ext_tl
  show _ = TL.tl ("song" ++ " " ++ (sI s.size ++ " " ++ sI s.coming))
  have e : TL.tl ("song " : Str) = TL.tl ("song" : Str) ++ TL.tl (" " : Str) := by decide +kernel
  simp only [TL.tl_append, e, List.append_assoc, show TL.tl Str.empty = [] from rfl, List.nil_append]
theorem pg_lens {s : Sht} (tl : Tl s) : ∀ z ∈ headF s :: (srtF (psF s)).map Prod.snd, z.length ≤ 1000 := by
  have c1 := l_say
  have c2 := l_bl
  have c3 := l_emp
  have c4 := l_note
  have c5 := l_song
  intro z hz
  rcases List.mem_cons.mp hz with rfl | hz
  · have k1 := sI_len tl.e
    have k2 := sI_len tl.c
    rw [← out_song]
    simp only [ap_len]; omega
  · obtain ⟨p, hp, rfl⟩ := List.mem_map.mp hz
    have hp : p ∈ psF s := List.mem_mergeSort.mp hp
    rcases List.mem_append.mp hp with hp | hp
    · obtain ⟨r, hr, rfl⟩ := List.mem_map.mp hp
      obtain ⟨tn, t1, t2, t3⟩ := tl.a r hr
      have k0 := sI_len tn
      have k1 := sI_len t1
      have k2 := sI_len t2
      have k3 := sI_len t3
      have k4 := way_le r.sy.t
      show (rowS r).length ≤ 1000
      rw [← out_say]
      simp only [ap_len]; omega
    · obtain ⟨m, hm, rfl⟩ := List.mem_map.mp hp
      obtain ⟨tn, t1, t2, k5⟩ := tl.b m hm
      have k0 := sI_len tn
      have k1 := sI_len t1
      have k2 := sI_len t2
      show (rowM m).length ≤ 1000
      rw [← out_note]
      simp only [ap_len]; omega
def spWyW : Sp := fun vs H Q _ => ∃ b : Bool, vs = [.bl b] ∧ Q (.str (wayS b)) H
theorem scWyW : FnScope ["turned"] ["turned"] (defScope sWay_word) := ⟨rfl, rfl, rfl, by decide +kernel, rfl, by decide +kernel, by decide +kernel⟩
theorem scPg : FnScope ["book", "rows", "number", "one", "other", "many", "turned", "letter", "at", "row"] ["book"] (defScope sPage) := ⟨rfl, rfl, rfl, by decide +kernel, rfl, by decide +kernel, by decide +kernel⟩
abbrev nPg : List Str := ["book", "rows", "number", "one", "other", "many", "turned", "letter", "at", "row"]
def spPage (BK S : Addr) : Sp := fun vs H Q _ => ∃ (b : Addr) (N : Addr → Prop) (sts : List Sht) (here : Nat) (sv nv : V) (s : Sht), vs = [.ref b] ∧ BkAt BK S N H b sts here sv nv ∧ sts[here]? = some s ∧ Wf s ∧ Tl s ∧ ∀ H', Same H H' → Q (.str (pgF s)) H'
structure TPg (Pg : Program) (w : World) (K : PySem.W.Frag) (mg : Str → Option Value) (base : Heap) (BK S : Addr) (fba fbm fbl fbc fWy : Addr) (fdba fdbm fdbl fdbc fdWy : FuncData) : Prop where
  clB : Cls K BK
  mba : Meth K BK "sayings" fba
  gba : FnOk Pg w K mg base CX0 8 fba fdba ["self"] (spBsay BK S)
  bba : Binds K fdba ["self"] []
  mbm : Meth K BK "memories" fbm
  gbm : FnOk Pg w K mg base CX0 8 fbm fdbm ["self"] (spBmem BK S)
  bbm : Binds K fdbm ["self"] []
  mbl : Meth K BK "length" fbl
  gbl : FnOk Pg w K mg base CX0 8 fbl fdbl ["self"] (spBlen BK S)
  bbl : Binds K fdbl ["self"] []
  mbc : Meth K BK "coming" fbc
  gbc : FnOk Pg w K mg base CX0 8 fbc fdbc ["self"] (spBcom BK S)
  bbc : Binds K fdbc ["self"] []
  gWy : FnOk Pg w K mg base CX0 8 fWy fdWy ["turned"] spWyW
  bWy : Binds K fdWy ["turned"] []
  kWy : PySem.W.keepIn K (.ref fWy) = true
  mWy : mg "way_word" = some (.ref fWy)
  mso : mg "sorted" = none
section
variable {Pg : Program} {w : World} {K : PySem.W.Frag} {mg : Str → Option Value} {base : Heap} {BK S : Addr} {fba fbm fbl fbc fWy : Addr} {fdba fdbm fdbl fdbc fdWy : FuncData}
theorem ok_wyw {f : Addr} {fd : FuncData} {k : Nat} (F : Fun K "way_word" "way_word" sWay_word f fd) : FnOk Pg w K mg base CX0 (k + 1) f fd ["turned"] spWyW := by
  refine F.ok scWyW (fun vs H Q E h => ?_) (fun cdv A outer s H vs Q E hr h => ?_)
  · obtain ⟨b, rfl, _⟩ := h; rfl
  obtain ⟨b, rfl, q⟩ := h
  refine ⟨_, (pss_one (ps_ret (pe_ifExp (pt_val (pv 0)) pe_str pe_str))), ?_⟩
  cases b with
  | true => exact ⟨.bl true, rfl, true, rfl, iteT q⟩
  | false => exact ⟨.bl false, rfl, false, rfl, iteF q⟩
theorem ok_page {f : Addr} {fd : FuncData} (F : Fun K "page" "page" sPage f fd) (T : TPg Pg w K mg base BK S fba fbm fbl fbc fWy fdba fdbm fdbl fdbc fdWy) : FnOk Pg w K mg base CX0 9 f fd ["book"] (spPage BK S) := by
  refine F.ok scPg (fun vs H Q E h => ?_) (fun cdv A outer s H vs Q E hr h => ?_)
  · obtain ⟨b, N, sts, here, sv, nv, s_, rfl, _⟩ := h; rfl
  obtain ⟨b, N, sts, here, sv, nv, s_, rfl, bk, hs, wf, tl, q⟩ := h
  have r8 : Room 8 _ := hr
  refine ⟨_, (C8.pss_cut (ps_setLc (i := 1) (own := [("number", 2), ("one", 3), ("other", 4), ("many", 5), ("turned", 6)]) (g := (gTup K 5 (gCons (gName 2) (gCons (gName 3) (gCons (gName 4) (gCons (gName 5) (gCons (gName 6) gNil))))))) (tt := tYes) (te := (tTup (tCons (tVar 2) (tCons (fun σ H Q => tJs [(tC (.str "say ")), (tFmt (tVar 2)), (tC (.str " ")), (tFmt (tVar 3)), (tC (.str " ")), (tFmt (tVar 4)), (tC (.str " ")), (tFmt (tVar 5)), (tC (.str " ")), (tFmt (tCall spWyW [] E0 (tCons (tVar 6) tNil)))] Str.empty σ H fun out H1 => Q (.str out) H1) tNil)))) rfl scPg.nd rfl rfl (sw_true rfl rfl rfl (by decide +kernel)) (pi_list (pe_meth0 (pv 0) T.clB T.mba T.gba r8 T.bba .nil pass0)) (blkOk_by (N := nPg) (sc := defScope sPage) (by decide +kernel)) (fun _ _ _ _ _ => (pg_tup rfl (pgs_cons (pg_name (i := 2) scPg.nd rfl (.inl rfl)) (pgs_cons (pg_name (i := 3) scPg.nd rfl (.inl rfl)) (pgs_cons (pg_name (i := 4) scPg.nd rfl (.inl rfl)) (pgs_cons (pg_name (i := 5) scPg.nd rfl (.inl rfl)) (pgs_cons (pg_name (i := 6) scPg.nd rfl (.inl rfl)) pgs_nil))))))) (fun _ _ _ _ _ => pts_nil) (fun _ _ _ _ _ => (pe_tup (pa_cons (pv 2) (pa_cons (pe_joined (.cons pe_str (.cons (pe_fmt (pv 2)) (.cons pe_str (.cons (pe_fmt (pv 3)) (.cons pe_str (.cons (pe_fmt (pv 4)) (.cons pe_str (.cons (pe_fmt (pv 5)) (.cons pe_str (.cons (pe_fmt (pe_call T.gWy r8 (by rfl) T.mWy T.kWy T.bWy .nil pass0 (pa_cons (pv 6) pa_nil))) .nil))))))))))) pa_nil)))))
    (C8.pss_cut (ps_aug (i := 1) scPg.nd rfl (.inl rfl) (pe_lc (own := [("number", 2), ("letter", 7), ("at", 8), ("many", 5)]) (g := (gTup K 4 (gCons (gName 2) (gCons (gName 7) (gCons (gName 8) (gCons (gName 5) gNil)))))) (tt := tYes) (te := (tTup (tCons (tVar 2) (tCons (fun σ H Q => tJs [(tC (.str "note ")), (tFmt (tVar 2)), (tC (.str " ")), (tFmt (tVar 7)), (tC (.str " ")), (tFmt (tVar 8)), (tC (.str " ")), (tFmt (tVar 5))] Str.empty σ H fun out H1 => Q (.str out) H1) tNil)))) rfl scPg.nd (pi_list (pe_meth0 (pv 0) T.clB T.mbm T.gbm r8 T.bbm .nil pass0)) (blkOk_by (N := nPg) (sc := defScope sPage) (by decide +kernel)) (fun _ _ _ _ _ => (pg_tup rfl (pgs_cons (pg_name (i := 2) scPg.nd rfl (.inl rfl)) (pgs_cons (pg_name (i := 7) scPg.nd rfl (.inl rfl)) (pgs_cons (pg_name (i := 8) scPg.nd rfl (.inl rfl)) (pgs_cons (pg_name (i := 5) scPg.nd rfl (.inl rfl)) pgs_nil)))))) (fun _ _ _ _ _ => pts_nil) (fun _ _ _ _ _ => (pe_tup (pa_cons (pv 2) (pa_cons (pe_joined (.cons pe_str (.cons (pe_fmt (pv 2)) (.cons pe_str (.cons (pe_fmt (pv 7)) (.cons pe_str (.cons (pe_fmt (pv 8)) (.cons pe_str (.cons (pe_fmt (pv 5)) .nil))))))))) pa_nil))))) iop_ext)
    (pss_one (ps_ret (pe_join pe_str (pe_op op_cat (pe_lst (pa_cons (pe_joined (.cons pe_str (.cons (pe_fmt (pe_meth0 (pv 0) T.clB T.mbl T.gbl r8 T.bbl .nil pass0)) (.cons pe_str (.cons (pe_fmt (pe_meth0 (pv 0) T.clB T.mbc T.gbc r8 T.bbc .nil pass0)) .nil))))) pa_nil)) (pe_lc (own := [("number", 2), ("row", 9)]) (g := (gTup K 2 (gCons (gName 2) (gCons (gName 9) gNil)))) (tt := tYes) (te := (tVar 9)) rfl scPg.nd (pi_list (pe_callB (cr_sortedIS hr.units) (by rfl) T.mso PyProof.Rows.boot_sorted (pa_cons (pv 1) pa_nil))) (blkOk_by (N := nPg) (sc := defScope sPage) (by decide +kernel)) (fun _ _ _ _ _ => (pg_tup rfl (pgs_cons (pg_name (i := 2) scPg.nd rfl (.inl rfl)) (pgs_cons (pg_name (i := 9) scPg.nd rfl (.inl rfl)) pgs_nil)))) (fun _ _ _ _ _ => pts_nil) (fun _ _ _ _ _ => (pv 9))))))))), ?_⟩
  have l1 := wf.l1
  have l2 := wf.l2
  -- sayings
  refine ⟨fun σ' H' => ∃ l xs, σ' = [some (.ref b), some (.ref l), none, none, none, none, none, none, none, none] ∧ Same H H' ∧ H l = none ∧ H' l = some (.lst xs) ∧ LL ISat H' xs (s_.said.map fun r => (r.num, rowS r)), ?_, ?_⟩
  · obtain ⟨dx, fs, hi, hn⟩ := bk.ins (m := "sayings") (by decide +kernel)
    refine ⟨.ref b, rfl, b, dx, _, rfl, hi, hn, b, N, sts, here, sv, nv, rfl, bk, fun s1 H1 l0 us hs1 u1 nl0 el0 rl0 => ?_⟩
    obtain rfl : s_ = s1 := Option.some.inj (hs.symm.trans hs1)
    refine ⟨l0, rfl, ⟨_, .inl (.inl el0)⟩, fun D nD => ?_⟩
    refine lc_list (xs := us) (fun i H3 => Same H1 H3 ∧ ∃ ys, H3 D = some (.lst ys) ∧ LL ISat H3 ys ((s_.said.map fun r => (r.num, rowS r)).take i) ∧ ys.length = i) ⟨same_upd nD, [], upd_same, LL.nil, rfl⟩ (fun i H3 _ hP => .inl (.inl (hP.1 _ _ el0))) (fun i v H3 hv hP => ?_) (fun H3 hP => ?_)
    · obtain ⟨sm, ys, eD, sl, yl⟩ := hP
      obtain ⟨r, hr_, t, rfl, ht⟩ := rl0.get hv
      have hi : i < s_.said.length := (List.getElem?_eq_some_iff.mp hr_).1
      obtain ⟨tn, t1, t2, t3⟩ := tl.a r (List.mem_of_getElem? hr_)
      have k0 := sI_len tn
      have k1 := sI_len t1
      have k2 := sI_len t2
      have k3 := sI_len t3
      have k4 := way_le r.sy.t
      have c1 := l_say
      have c2 := l_bl
      have c3 := l_emp
      refine ⟨t, _, rfl, .inl (.inl (sm _ _ ht)), rfl, _, _, rfl, _, _, rfl, _, _, rfl, _, _, rfl, _, _, rfl, rfl, rfl, ?_⟩
      refine tYes_ok ?_
      refine iteT ?_
      refine ⟨.int r.num, rfl, ?_⟩
      refine ⟨"say ", rfl, fitL (by simp only [ap_len]; omega), .int r.num, rfl, .inr ⟨r.num, rfl, log40 tn, sI r.num, rfl, fitL (by simp only [ap_len]; omega), ?_⟩⟩
      refine ⟨" ", rfl, fitL (by simp only [ap_len]; omega), .int r.sy.lo, rfl, .inr ⟨r.sy.lo, rfl, log40 t1, sI r.sy.lo, rfl, fitL (by simp only [ap_len]; omega), ?_⟩⟩
      refine ⟨" ", rfl, fitL (by simp only [ap_len]; omega), .int r.sy.hi, rfl, .inr ⟨r.sy.hi, rfl, log40 t2, sI r.sy.hi, rfl, fitL (by simp only [ap_len]; omega), ?_⟩⟩
      refine ⟨" ", rfl, fitL (by simp only [ap_len]; omega), .int r.sy.n, rfl, .inr ⟨r.sy.n, rfl, log40 t3, sI r.sy.n, rfl, fitL (by simp only [ap_len]; omega), ?_⟩⟩
      refine ⟨" ", rfl, fitL (by simp only [ap_len]; omega), .bl r.sy.t, rfl, r.sy.t, rfl, .inl ⟨wayS r.sy.t, rfl, fitL (by omega), wayS r.sy.t, rfl, fitL (by simp only [ap_len]; omega), ?_⟩⟩
      rw [out_say]
      refine ⟨szN 2 rfl, fun t2_ n_t2_ => ?_⟩
      generalize e_t2_ : upd H3 t2_ _ = H4
      have s4 := new_same e_t2_ n_t2_
      have z4 := new_at e_t2_
      clear e_t2_
      have eD4 := s4 _ _ eD
      refine ⟨ys, eD4, small1000 (by omega), same_over (sm.trans s4) nD, _, upd_same, ?_, by rw [List.length_append, List.length_singleton, yl]⟩
      rw [List.take_add_one, List.getElem?_map, hr_]
      have tsU : TS H4 (upd H4 D (.lst (ys ++ [.ref t2_]))) := fun t' xs' e => by rw [upd_ne (fun z => by rw [z, eD4] at e; cases e)]; exact e
      exact LL.snoc (sl.tr fun _ _ z => (z.ts (TS.of s4)).ts tsU) ⟨t2_, rfl, tsU _ _ z4⟩
    · obtain ⟨sm, ys, eD, sl, yl⟩ := hP
      rw [rl0.len, List.take_of_length_le (by rw [List.length_map]; exact Nat.le_refl _)] at sl
      exact ⟨D, ys, rfl, u1.trans sm, Same.free u1 nD, eD, sl⟩
  rintro σ' H1 ⟨l, xs, rfl, u1, nl, el, ll⟩
  -- memories
  refine ⟨fun σ' H' => ∃ l xs, σ' = [some (.ref b), some (.ref l), none, none, none, none, none, none, none, none] ∧ Same H H' ∧ H l = none ∧ H' l = some (.lst xs) ∧ LL ISat H' xs (psF s_), ?_, ?_⟩
  · have bk1 := bk.same u1
    obtain ⟨dx, fs, hi, hn⟩ := bk1.ins (m := "memories") (by decide +kernel)
    refine ⟨.ref l, rfl, .ref b, rfl, b, dx, _, rfl, hi, hn, b, N, sts, here, sv, nv, rfl, bk1, fun s1 H2 l0 us hs1 u2 nl0 el0 rl0 => ?_⟩
    obtain rfl : s_ = s1 := Option.some.inj (hs.symm.trans hs1)
    refine ⟨l0, rfl, ⟨_, .inl (.inl el0)⟩, fun D nD => ?_⟩
    refine lc_list (xs := us) (fun i H3 => Same H2 H3 ∧ ∃ ys, H3 D = some (.lst ys) ∧ LL ISat H3 ys ((s_.noted.map fun m => (m.num, rowM m)).take i) ∧ ys.length = i) ⟨same_upd nD, [], upd_same, LL.nil, rfl⟩ (fun i H3 _ hP => .inl (.inl (hP.1 _ _ el0))) (fun i v H3 hv hP => ?_) (fun H3 hP => ?_)
    · obtain ⟨sm, ys, eD, sl, yl⟩ := hP
      obtain ⟨m, hr_, t, rfl, ht⟩ := rl0.get hv
      have hi : i < s_.noted.length := (List.getElem?_eq_some_iff.mp hr_).1
      obtain ⟨tn, t1, t2, k5⟩ := tl.b m (List.mem_of_getElem? hr_)
      have k0 := sI_len tn
      have k1 := sI_len t1
      have k2 := sI_len t2
      have c1 := l_note
      have c2 := l_bl
      have c3 := l_emp
      refine ⟨t, _, rfl, .inl (.inl (sm _ _ ht)), rfl, _, _, rfl, _, _, rfl, _, _, rfl, _, _, rfl, rfl, rfl, ?_⟩
      refine tYes_ok ?_
      refine iteT ?_
      refine ⟨.int m.num, rfl, ?_⟩
      refine ⟨"note ", rfl, fitL (by simp only [ap_len]; omega), .int m.num, rfl, .inr ⟨m.num, rfl, log40 tn, sI m.num, rfl, fitL (by simp only [ap_len]; omega), ?_⟩⟩
      refine ⟨" ", rfl, fitL (by simp only [ap_len]; omega), .str m.lt, rfl, .inl ⟨m.lt, rfl, fitL (by omega), m.lt, rfl, fitL (by simp only [ap_len]; omega), ?_⟩⟩
      refine ⟨" ", rfl, fitL (by simp only [ap_len]; omega), .int m.at_, rfl, .inr ⟨m.at_, rfl, log40 t1, sI m.at_, rfl, fitL (by simp only [ap_len]; omega), ?_⟩⟩
      refine ⟨" ", rfl, fitL (by simp only [ap_len]; omega), .int m.n, rfl, .inr ⟨m.n, rfl, log40 t2, sI m.n, rfl, fitL (by simp only [ap_len]; omega), ?_⟩⟩
      rw [out_note]
      refine ⟨szN 2 rfl, fun t2_ n_t2_ => ?_⟩
      generalize e_t2_ : upd H3 t2_ _ = H4
      have s4 := new_same e_t2_ n_t2_
      have z4 := new_at e_t2_
      clear e_t2_
      have eD4 := s4 _ _ eD
      refine ⟨ys, eD4, small1000 (by omega), same_over (sm.trans s4) nD, _, upd_same, ?_, by rw [List.length_append, List.length_singleton, yl]⟩
      rw [List.take_add_one, List.getElem?_map, hr_]
      have tsU : TS H4 (upd H4 D (.lst (ys ++ [.ref t2_]))) := fun t' xs' e => by rw [upd_ne (fun z => by rw [z, eD4] at e; cases e)]; exact e
      exact LL.snoc (sl.tr fun _ _ z => (z.ts (TS.of s4)).ts tsU) ⟨t2_, rfl, tsU _ _ z4⟩
    · obtain ⟨sm, ys, eD, sl, yl⟩ := hP
      rw [rl0.len, List.take_of_length_le (by rw [List.length_map]; exact Nat.le_refl _)] at sl
      have u23 := u2.trans sm
      have el3 := u23 _ _ el
      have ln : xs.length + ys.length ≤ 48 := by
        have := ll.len
        have := sl.len
        simp only [List.length_map] at *
        omega
      have nDl : D ≠ l := fun z => by rw [z, u2 _ _ el] at nD; cases nD
      refine ⟨l, D, xs, ys, rfl, rfl, el3, eD, Nat.le_trans ln (by decide), l, xs ++ ys, rfl, same_over (u1.trans u23) nl, nl, upd_same, ?_⟩
      have tsU : TS H3 (upd H3 l (.lst (xs ++ ys))) := fun t' xs' e => by rw [upd_ne (fun z => by rw [z, el3] at e; cases e)]; exact e
      exact (ll.tr fun _ _ z => (z.ts (TS.of u23)).ts tsU).app (sl.tr fun _ _ z => z.ts tsU)
  clear el ll nl u1 l xs
  rintro σ' H1 ⟨l, xs, rfl, u1, nl, el, ll⟩
  have bk1 := bk.same u1
  obtain ⟨dx, fs, hi, hn⟩ := bk1.ins (m := "length") (by decide +kernel)
  obtain ⟨dx2, fs2, hi2, hn2⟩ := bk1.ins (m := "coming") (by decide +kernel)
  have c1 := l_song
  have c2 := l_bl
  have c3 := l_emp
  have k1 := sI_len tl.e
  have k2 := sI_len tl.c
  have pl : (psF s_).length ≤ 48 := by unfold psF; rw [List.length_append, List.length_map, List.length_map]; omega
  refine ⟨⟨_, rfl⟩, "song ", rfl, fitL (by simp only [ap_len]; omega), .ref b, rfl, b, dx, _, rfl, hi, hn, b, N, sts, here, sv, nv, rfl, bk1, fun s1 hs1 => ?_⟩
  obtain rfl : s_ = s1 := Option.some.inj (hs.symm.trans hs1)
  refine .inr ⟨s_.size, rfl, log40 tl.e, sI s_.size, rfl, fitL (by simp only [ap_len]; omega), " ", rfl, fitL (by simp only [ap_len]; omega), .ref b, rfl, b, dx2, _, rfl, hi2, hn2, b, N, sts, here, sv, nv, rfl, bk1, fun s2 hs2 => ?_⟩
  obtain rfl : s_ = s2 := Option.some.inj (hs.symm.trans hs2)
  refine .inr ⟨s_.coming, rfl, log40 tl.c, sI s_.coming, rfl, fitL (by simp only [ap_len]; omega), ?_⟩
  rw [out_song]
  refine ⟨szN 1 rfl, fun l1 n_l1 => ?_⟩
  generalize e_l1 : upd H1 l1 _ = H2
  have u2 := new_same e_l1 n_l1
  have z2 := new_at e_l1
  clear e_l1
  refine ⟨.ref l, rfl, l, xs, psF s_, rfl, .inl (.inl (u2 _ _ el)), ll.tr fun _ _ z => z.ts (TS.of u2), by omega, fun ys p ly np => ?_⟩
  have u3 : Same H2 (upd H2 p (.lst ys)) := same_upd np
  have z3 : upd H2 p (.lst ys) p = some (.lst ys) := upd_same
  generalize upd H2 p (.lst ys) = H3 at u3 z3 ⊢
  have sl : (srtF (psF s_)).length = (psF s_).length := List.length_mergeSort _
  refine ⟨p, rfl, ⟨_, .inl (.inl z3)⟩, fun D nD => ?_⟩
  refine lc_list (xs := ys) (fun i H4 => Same H3 H4 ∧ H4 D = some (.lst (((srtF (psF s_)).take i).map fun p => V.str p.2))) ⟨same_upd nD, upd_same⟩ (fun i H4 _ hP => .inl (.inl (hP.1 _ _ z3))) (fun i v H4 hv hP => ?_) (fun H4 hP => ?_)
  · obtain ⟨sm, eD⟩ := hP
    obtain ⟨pr, hp, t, rfl, ht⟩ := ly.get hv
    refine ⟨t, _, rfl, .inl (.inl (sm _ _ (u3 _ _ ht))), rfl, _, _, rfl, _, _, rfl, rfl, rfl, ?_⟩
    refine tYes_ok ?_
    refine iteT ?_
    refine ⟨.str pr.2, rfl, _, eD, ?_, same_over sm nD, ?_⟩
    · rw [List.length_map, List.length_take]
      exact Nat.lt_of_le_of_lt (Nat.min_le_right _ _) (small1000 (by omega))
    · rw [upd_same, List.take_add_one, hp, List.map_append]; rfl
  · obtain ⟨sm, eD⟩ := hP
    rw [ly.len, List.take_of_length_le (Nat.le_refl _)] at eD
    refine ⟨l1, D, _, _, rfl, rfl, sm _ _ (u3 _ _ z2), eD, Nat.le_trans (show _ ≤ 100 by simp only [List.length_map, List.length_cons, List.length_nil]; omega) (by decide), ?_⟩
    intro l6 n_l6
    generalize e_l6 : upd H4 l6 _ = H5
    have u5 := new_same e_l6 n_l6
    have z5 := new_at e_l6
    clear e_l6
    have z5 : H5 l6 = some (.lst ((headF s_ :: (srtF (psF s_)).map Prod.snd).map V.str)) := by rw [z5, List.map_cons, List.map_map]; rfl
    refine ⟨"\n", l6, headF s_ :: (srtF (psF s_)).map Prod.snd, rfl, rfl, .inl (.inl (.inl z5)), ?_, q H5 (u1.trans (u2.trans (u3.trans (sm.trans u5))))⟩
    have b := sum_few (headF s_ :: (srtF (psF s_)).map Prod.snd) 49 (pg_lens tl) (by rw [List.length_cons, List.length_map]; omega)
    have c : (headF s_ :: (srtF (psF s_)).map Prod.snd).length ≤ 49 := by rw [List.length_cons, List.length_map]; omega
    show _ + (headF s_ :: (srtF (psF s_)).map Prod.snd).length * 1 ≤ _
    omega
end
end Rep
namespace Rep
open PySem L2 L2H RepHot
/-! what a deed is answered, by the law -/
def dueT (de : De) : Res → Str
  | .inl j => noW j
  | .inr (o, _, n, _) => ansT de o n
def rw1 : List (Key × V) := [(.inr "BadLength", .str "length"), (.inr "BadStretch", .str "stretch"), (.inr "NoPlace", .str "place"), (.inr "NoNumber", .str "number")]
def rw2 : List (Key × V) := [(.inr "BadLetter", .str "letter"), (.inr "Full", .str "full"), (.inr "InUse", .str "in use"), (.inr "NothingLeft", .str "nothing left")]
def noV : Nat → Str
  | 0 => "length"
  | 1 => "stretch"
  | 2 => "place"
  | 3 => "number"
  | 4 => "letter"
  | 5 => "full"
  | 6 => "in use"
  | _ => "nothing left"
theorem rw_at : ∀ j, j < 8 → valV (mergeK (mergeK [] rw1) (mergeK [] rw2)) (.inr (kinWord j)) = some (.str (noV j)) := by decide +kernel
theorem noW_V : ∀ j, j < 8 → ("no: " : Str) ++ noV j = noW j := by decide +kernel
theorem noV_len : ∀ j, j < 8 → (noV j).length ≤ 100 := by decide +kernel
def spRw : Sp := fun vs H Q _ => ∃ j : Nat, vs = [.str (kinWord j)] ∧ j < 8 ∧ ∀ H', Same H H' → Q (.str (noW j)) H'
theorem scRw : FnScope ["_law_word", "_law_book_here"] ["_law_word"] (defScope s_law_refusal_word) := ⟨rfl, rfl, rfl, by decide +kernel, rfl, by decide +kernel, by decide +kernel⟩
/-- whether the length is told -/
def isLen : De → Prop
  | .dd (.longer _) => True
  | .dd (.shorter _) => True
  | _ => False
def spDa : Sp := fun vs H Q _ => ∃ (dv : V) (de : De) (r : Res) (past : List Sht) (now : Sht) (ahead : List Sht) (len : Int), vs = [dv, .str (wordR r), toldR r, .int len] ∧ DeAt H dv de ∧ RStp past now ahead de r ∧ Tn now.coming ∧ (∀ o p n a, r = .inr (o, p, n, a) → isLen de → len = n.size ∧ Tn n.size) ∧ ∀ H', Same H H' → Q (.str (dueT de r)) H'
theorem scDa : FnScope ["_law_deed_here", "_law_word", "_law_told", "_law_length", "_law_book_here"] ["_law_deed_here", "_law_word", "_law_told", "_law_length"] (defScope s_law_deed_answer) := ⟨rfl, rfl, rfl, by decide +kernel, rfl, by decide +kernel, by decide +kernel⟩
structure TDa (Pg : Program) (w : World) (K : PySem.W.Frag) (mg : Str → Option Value) (base : Heap) (fRw : Addr) (fdRw : FuncData) : Prop where
  gRw : FnOk Pg w K mg base CX0 8 fRw fdRw ["_law_word"] spRw
  bRw : Binds K fdRw ["_law_word"] []
  kRw : PySem.W.keepIn K (.ref fRw) = true
  mRw : mg "_law_refusal_word" = some (.ref fRw)
  mstr : mg "str" = none
def da1 (a b : Str) : List (Key × V) := [(.inr "say", .str a), (.inr "remember", .str b), (.inr "unsay", .str "unsaid"), (.inr "amend", .str "amended")]
def da2 : List (Key × V) := [(.inr "forget", .str "forgotten"), (.inr "undo", .str "undone"), (.inr "redo", .str "redone")]
theorem da_say (a b : Str) : valV (mergeK (mergeK [] (da1 a b)) (mergeK [] da2)) (.inr "say") = some (.str a) := by kernel_rfl
theorem da_rem (a b : Str) : valV (mergeK (mergeK [] (da1 a b)) (mergeK [] da2)) (.inr "remember") = some (.str b) := by kernel_rfl
theorem da_uns (a b : Str) : valV (mergeK (mergeK [] (da1 a b)) (mergeK [] da2)) (.inr "unsay") = some (.str "unsaid") := by kernel_rfl
theorem da_ame (a b : Str) : valV (mergeK (mergeK [] (da1 a b)) (mergeK [] da2)) (.inr "amend") = some (.str "amended") := by kernel_rfl
theorem da_for (a b : Str) : valV (mergeK (mergeK [] (da1 a b)) (mergeK [] da2)) (.inr "forget") = some (.str "forgotten") := by kernel_rfl
theorem da_und (a b : Str) : valV (mergeK (mergeK [] (da1 a b)) (mergeK [] da2)) (.inr "undo") = some (.str "undone") := by kernel_rfl
theorem da_red (a b : Str) : valV (mergeK (mergeK [] (da1 a b)) (mergeK [] da2)) (.inr "redo") = some (.str "redone") := by kernel_rfl
theorem emp_app (a b : Str) : Str.empty ++ a ++ b = a ++ b := by
  apply TL.ext_tl
  simp only [TL.tl_append, show TL.tl Str.empty = [] from rfl, List.nil_append]
/-- the first word of a deed, and its answer in the dict -/
theorem de_head {past ahead : List Sht} {now : Sht} {de : De} {o : Option Int} {p a : List Sht} {n : Sht} (h : RStp past now ahead de (.inr (o, p, n, a))) (nl : ¬ isLen de) (ht : Tn now.coming) :
    ∃ W tl, deV de = .str W :: tl ∧ inV (.str W) [.str "lengthen", .str "shorten"] = false ∧ StrAble (oV' o) ∧ (strA (oV' o)).length ≤ 100 ∧ valV (mergeK (mergeK [] (da1 ("saying " ++ strA (oV' o)) ("note " ++ strA (oV' o)))) (mergeK [] da2)) (.inr W) = some (.str (ansT de o n)) := by
  have non : StrAble (oV' none) ∧ (strA (oV' none)).length ≤ 100 := ⟨trivial, by decide +kernel⟩
  have som : StrAble (oV' (some now.coming)) ∧ (strA (oV' (some now.coming))).length ≤ 100 := ⟨log40 ht, Nat.le_trans (sI_len ht) (by decide)⟩
  cases de with
  | undo =>
    rcases h with ⟨_, z⟩ | ⟨_, _, _, z⟩ <;> cases z
    exact ⟨"undo", [], rfl, by decide +kernel, non.1, non.2, da_und _ _⟩
  | redo =>
    rcases h with ⟨_, z⟩ | ⟨_, _, _, z⟩ <;> cases z
    exact ⟨"redo", [], rfl, by decide +kernel, non.1, non.2, da_red _ _⟩
  | dd d =>
    obtain ⟨r0, h1, h2⟩ := h
    cases r0 with
    | inl j => cases h2
    | inr x =>
      obtain ⟨o', s'⟩ := x
      cases h2
      cases d with
      | say y =>
        rcases h1 with ⟨_, _, z⟩ | ⟨_, _, z⟩ | ⟨_, z⟩ <;> cases z
        exact ⟨"say", _, rfl, by decide +kernel, som.1, som.2, (da_say _ _).trans (congrArg (fun z => some (V.str z)) (emp_app _ _).symm)⟩
      | rem z x m =>
        rcases h1 with ⟨_, _, _, z⟩ | ⟨_, _, _, z⟩ | ⟨_, _, z⟩ | ⟨_, z⟩ <;> cases z
        exact ⟨"remember", _, rfl, by decide +kernel, som.1, som.2, (da_rem _ _).trans (congrArg (fun z => some (V.str z)) (emp_app _ _).symm)⟩
      | unsay n =>
        rcases h1 with ⟨_, _, z⟩ | ⟨_, z⟩ <;> cases z
        exact ⟨"unsay", _, rfl, by decide +kernel, non.1, non.2, da_uns _ _⟩
      | amend n y =>
        rcases h1 with ⟨_, _, _, z⟩ | ⟨_, _, _, z⟩ | ⟨_, z⟩ <;> cases z
        exact ⟨"amend", _, rfl, by decide +kernel, non.1, non.2, da_ame _ _⟩
      | forget n =>
        rcases h1 with ⟨_, _, z⟩ | ⟨_, z⟩ <;> cases z
        exact ⟨"forget", _, rfl, by decide +kernel, non.1, non.2, da_for _ _⟩
      | longer m => exact absurd trivial nl
      | shorter m => exact absurd trivial nl
theorem rstp_kj {past ahead : List Sht} {now : Sht} {de : De} {j : Nat} (h : RStp past now ahead de (.inl j)) : j < 8 ∧ ¬ kinWord j = "" := by
  have k := rstp_j h
  rcases k with rfl | rfl | rfl | rfl | rfl | rfl | rfl <;> exact ⟨by decide, by decide +kernel⟩
section
variable {Pg : Program} {w : World} {K : PySem.W.Frag} {mg : Str → Option Value} {base : Heap}
theorem ok_rw {f : Addr} {fd : FuncData} {k : Nat} (F : Fun K "_law_refusal_word" "_law_refusal_word" s_law_refusal_word f fd) : FnOk Pg w K mg base CX0 (k + 1) f fd ["_law_word"] spRw := by
  refine F.ok scRw (fun vs H Q E h => ?_) (fun cdv A outer s H vs Q E hr h => ?_)
  · obtain ⟨j, rfl, _⟩ := h; rfl
  obtain ⟨j, rfl, hj, q⟩ := h
  have hu := hu_of hr
  refine ⟨_, (C8.pss_cut (ps_set (i := 1) scRw.nd rfl (.inl rfl) (pe_disp (pps_cons pe_str pe_str (pps_cons pe_str pe_str (pps_cons pe_str pe_str (pps_cons pe_str pe_str pps_nil)))) rfl rfl (by simp) (by decide)))
    (C8.pss_cut (ps_expr (pe_bm PySem.F.plainAttrs_dict PySem.F.slot_dict_update PySem.F.type_dict_update mt_updD (pv 1) (pa_cons (pe_disp (pps_cons pe_str pe_str (pps_cons pe_str pe_str (pps_cons pe_str pe_str (pps_cons pe_str pe_str pps_nil)))) rfl rfl (by simp) (by decide)) pa_nil)))
    (pss_one (ps_ret (pe_op op_add_str pe_str (pe_dget hu (pv 1) (pv 0) (fun _ _ => rfl))))))), ?_⟩
  refine ⟨fun σ' H1 => ∃ a, σ' = [some (.str (kinWord j)), some (.ref a)] ∧ Same H H1 ∧ H a = none ∧ H1 a = some (.dK (mergeK [] rw1)), ?_, ?_⟩
  · intro m nm
    have s0 := same_upd (o := .dK []) nm
    refine ⟨upd_same, rw1, rfl, by decide, m, rfl, same_over s0 nm, nm, upd_same⟩
  rintro σ' H1 ⟨a, rfl, u1, na, ea⟩
  refine ⟨fun σ' H2 => σ' = [some (.str (kinWord j)), some (.ref a)] ∧ Same H H2 ∧ H2 a = some (.dK (mergeK (mergeK [] rw1) (mergeK [] rw2))), ?_, ?_⟩
  · refine ⟨.ref a, rfl, ?_, ?_⟩
    · exact .inr (.inr (.inl ⟨rfl, .inl ⟨_, ea⟩⟩))
    · intro m nm
      have s0 := same_upd (o := .dK []) nm
      refine ⟨upd_same, rw2, rfl, by decide, ?_⟩
      have s1 : Same H1 (upd (upd H1 m (.dK [])) m (.dK (mergeK [] rw2))) := same_over s0 nm
      have e1 : upd (upd H1 m (.dK [])) m (.dK (mergeK [] rw2)) m = some (.dK (mergeK [] rw2)) := upd_same
      generalize upd (upd H1 m (.dK [])) m (.dK (mergeK [] rw2)) = H2 at s1 e1 ⊢
      exact ⟨a, m, _, _, rfl, rfl, s1 _ _ ea, e1, (fun z => by rw [z, nm] at ea; cases ea), by decide +kernel, rfl, same_over (u1.trans s1) na, upd_same⟩
  rintro σ' H2 ⟨rfl, u2, ea2⟩
  refine ⟨.ref a, rfl, .str (kinWord j), rfl, a, .str (noV j), rfl, .inl ⟨_, .inr (kinWord j), .inl ea2, rfl, (rw_at j hj).symm⟩, "no: ", noV j, rfl, rfl, fitL (by have := noV_len j hj; have e : ("no: " : Str).length = 4 := (by decide +kernel); omega), ?_⟩
  rw [noW_V j hj]
  exact q H2 u2
theorem ok_da {f fRw : Addr} {fd fdRw : FuncData} (F : Fun K "_law_deed_answer" "_law_deed_answer" s_law_deed_answer f fd) (T : TDa Pg w K mg base fRw fdRw) : FnOk Pg w K mg base CX0 9 f fd ["_law_deed_here", "_law_word", "_law_told", "_law_length"] spDa := by
  refine F.ok scDa (fun vs H Q E h => ?_) (fun cdv A outer s H vs Q E hr h => ?_)
  · obtain ⟨dv, de, r, past, now, ahead, len, rfl, _⟩ := h; rfl
  obtain ⟨dv, de, r, past, now, ahead, len, rfl, ⟨td, rfl, hd⟩, hr0, ht, hl, q⟩ := h
  have r8 : Room 8 _ := hr
  have hu := hu_of hr
  refine ⟨_, (C8.pss_cut (ps_if (pt_cmpR op_ne (pv 1) pe_str (nomark _)) (pss_one (ps_ret (pe_call T.gRw r8 (by rfl) T.mRw T.kRw T.bRw .nil pass0 (pa_cons (pv 1) pa_nil)))) pss_nil)
    (C8.pss_cut (ps_if (pt_cmpR op_in_seq (pe_ix ix_tup (pv 0) pe_int (fun _ _ => rfl)) (pe_tup (pa_cons pe_str (pa_cons pe_str pa_nil))) (by rfl)) (pss_one (ps_ret (pe_op op_add_str pe_str (pe_callTy call_str_any (by rfl) T.mstr PyProof.Rows.boot_str (pa_cons (pv 3) pa_nil))))) pss_nil)
    (C8.pss_cut (ps_set (i := 4) scDa.nd rfl (.inl rfl) (pe_disp (pps_cons pe_str (pe_op op_add_str pe_str (pe_callTy call_str_any (by rfl) T.mstr PyProof.Rows.boot_str (pa_cons (pv 2) pa_nil))) (pps_cons pe_str (pe_op op_add_str pe_str (pe_callTy call_str_any (by rfl) T.mstr PyProof.Rows.boot_str (pa_cons (pv 2) pa_nil))) (pps_cons pe_str pe_str (pps_cons pe_str pe_str pps_nil)))) rfl rfl (by simp) (by decide)))
    (C8.pss_cut (ps_expr (pe_bm PySem.F.plainAttrs_dict PySem.F.slot_dict_update PySem.F.type_dict_update mt_updD (pv 4) (pa_cons (pe_disp (pps_cons pe_str pe_str (pps_cons pe_str pe_str (pps_cons pe_str pe_str pps_nil))) rfl rfl (by simp) (by decide)) pa_nil)))
    (pss_one (ps_ret (pe_dget hu (pv 4) (pe_ix ix_tup (pv 0) pe_int (fun _ _ => rfl)) (fun _ _ => rfl)))))))), ?_⟩
  cases r with
  | inl j =>
    obtain ⟨j8, jn⟩ := rstp_kj hr0
    refine ⟨fun σ' H1 => False, ?_, fun σ' H1 z => z.elim⟩
    refine ⟨.str (kinWord j), rfl, rfl, _, rfl, ite2 (fun _ => ?_) (fun c => absurd (by simpa using jn) c)⟩
    exact ⟨.str (kinWord j), rfl, j, rfl, j8, fun H1 u1 => q H1 u1⟩
  | inr x =>
    obtain ⟨o, p, n, a⟩ := x
    refine ⟨fun σ' H1 => σ' = [some (.ref td), some (.str ""), some (oV' o), some (.int len), none] ∧ H1 = H, ?_, ?_⟩
    · exact ⟨.str "", rfl, rfl, _, rfl, ite2 (fun c => absurd c (by decide +kernel)) (fun _ => ⟨rfl, rfl⟩)⟩
    rintro σ' H1 ⟨rfl, eH⟩
    subst eH
    by_cases il : isLen de
    · -- the length is told
      obtain ⟨el, tz⟩ := hl o p n a rfl il
      subst el
      refine ⟨fun σ' H1 => False, ?_, fun σ' H1 z => z.elim⟩
      have kl := sI_len tz
      have l7 : ("length " : Str).length = 7 := by decide +kernel
      obtain ⟨W, m, eW, eI, eA⟩ : ∃ (W : Str) (m : Int), deV de = [.str W, .int m] ∧ inV (.str W) [.str "lengthen", .str "shorten"] = true ∧ dueT de (.inr (o, p, n, a)) = ("length " : Str) ++ sI n.size := by
        cases de with
        | undo => exact il.elim
        | redo => exact il.elim
        | dd d =>
          cases d with
          | longer m => exact ⟨"lengthen", m, rfl, by decide +kernel, emp_app _ _⟩
          | shorter m => exact ⟨"shorten", m, rfl, by decide +kernel, emp_app _ _⟩
          | say y => exact il.elim
          | unsay y => exact il.elim
          | amend x y => exact il.elim
          | rem x y z => exact il.elim
          | forget y => exact il.elim
      rw [eW] at hd
      refine ⟨.ref td, rfl, td, _, _, .str W, rfl, rfl, .inl (.inl hd), rfl, ?_⟩
      refine ⟨szN 2 rfl, fun tw n_tw => ?_⟩
      generalize e_tw : upd H1 tw _ = H2
      have u2 := new_same e_tw n_tw
      have z2 := new_at e_tw
      clear e_tw
      refine ⟨tw, _, rfl, .inr (.inl (.inl z2)), rfl, rfl, true, by show V.bl (inV _ _) = _; rw [eI], iteT ?_⟩
      refine ⟨.int n.size, rfl, .int n.size, rfl, log40 tz, "length ", sI n.size, rfl, rfl, fitL (by omega), ?_⟩
      rw [← eA]
      exact q H2 u2
    · obtain ⟨W, tl, eW, eI, ab, al, ev⟩ := de_head hr0 il ht
      rw [eW] at hd
      refine ⟨fun σ' H2 => σ' = [some (.ref td), some (.str ""), some (oV' o), some (.int len), none] ∧ Same H1 H2, ?_, ?_⟩
      · refine ⟨.ref td, rfl, td, _, _, .str W, rfl, rfl, .inl (.inl hd), atI_0 _ _, ?_⟩
        refine ⟨szN 2 rfl, fun tw n_tw => ?_⟩
        generalize e_tw : upd H1 tw _ = H2
        have u2 := new_same e_tw n_tw
        have z2 := new_at e_tw
        clear e_tw
        exact ⟨tw, _, rfl, .inr (.inl (.inl z2)), rfl, rfl, false, by show V.bl (inV _ _) = _; rw [eI], iteF ⟨rfl, u2⟩⟩
      rintro σ' H2 ⟨rfl, u2⟩
      have ls : ("saying " : Str).length = 7 := by decide +kernel
      have ln : ("note " : Str).length = 5 := by decide +kernel
      refine ⟨fun σ' H3 => ∃ m, σ' = [some (.ref td), some (.str ""), some (oV' o), some (.int len), some (.ref m)] ∧ Same H1 H3 ∧ H1 m = none ∧ H3 m = some (.dK (mergeK [] (da1 ("saying " ++ strA (oV' o)) ("note " ++ strA (oV' o))))), ?_, ?_⟩
      · intro m nm
        have s0 := same_upd (o := .dK []) nm
        refine ⟨oV' o, rfl, oV' o, rfl, ab, "saying ", strA (oV' o), rfl, rfl, fitL (by omega), oV' o, rfl, oV' o, rfl, ab, "note ", strA (oV' o), rfl, rfl, fitL (by omega), upd_same, da1 ("saying " ++ strA (oV' o)) ("note " ++ strA (oV' o)), rfl, by show 4 ≤ 15; decide, ?_⟩
        exact ⟨m, rfl, u2.trans (same_over s0 nm), Same.free u2 nm, upd_same⟩
      rintro σ' H3 ⟨m, rfl, u3, nm3, e3⟩
      refine ⟨fun σ' H4 => σ' = [some (.ref td), some (.str ""), some (oV' o), some (.int len), some (.ref m)] ∧ Same H1 H4 ∧ H4 m = some (.dK (mergeK (mergeK [] (da1 ("saying " ++ strA (oV' o)) ("note " ++ strA (oV' o)))) (mergeK [] da2))), ?_, ?_⟩
      · refine ⟨.ref m, rfl, .inr (.inr (.inl ⟨rfl, .inl ⟨_, e3⟩⟩)), ?_⟩
        intro m2 nm2
        have s0 := same_upd (o := .dK []) nm2
        refine ⟨upd_same, da2, rfl, by show 3 ≤ 15; decide, ?_⟩
        have s1 : Same H3 (upd (upd H3 m2 (.dK [])) m2 (.dK (mergeK [] da2))) := same_over s0 nm2
        have e1 : upd (upd H3 m2 (.dK [])) m2 (.dK (mergeK [] da2)) m2 = some (.dK (mergeK [] da2)) := upd_same
        generalize upd (upd H3 m2 (.dK [])) m2 (.dK (mergeK [] da2)) = H4 at s1 e1 ⊢
        have lk1 := length_mergeK (da1 ("saying " ++ strA (oV' o)) ("note " ++ strA (oV' o))) []
        have lk2 := length_mergeK da2 []
        have la : (da1 ("saying " ++ strA (oV' o)) ("note " ++ strA (oV' o))).length = 4 := rfl
        have lb : da2.length = 3 := rfl
        have l0 : ([] : List (Key × V)).length = 0 := rfl
        exact ⟨m, m2, _, _, rfl, rfl, s1 _ _ e3, e1, (fun z => by rw [z, nm2] at e3; cases e3), by omega, rfl, same_over (u3.trans s1) nm3, upd_same⟩
      rintro σ' H4 ⟨rfl, u4, e4⟩
      exact ⟨.ref m, rfl, .ref td, rfl, td, _, _, .str W, rfl, rfl, .inl (.inl (u4 _ _ hd)), atI_0 _ _, m, _, rfl, .inl ⟨_, .inr W, .inl e4, rfl, ev.symm⟩, q H4 u4⟩
end
end Rep
namespace Rep
open PySem L2 L2H RepHot
/-! the desk asked for its page -/
def orS2 (a b : Sp) : Sp := fun vs H Q E => a vs H Q E ∨ b vs H Q E
theorem fn_or2 {P : Program} {w : World} {K : PySem.W.Frag} {mg : Str → Option Value} {base : Heap} {CX : CXT} {k : Nat} {f : Addr} {fd : FuncData} {ps : List Str} {a b : Sp} (F : FnOk P w K mg base CX k f fd ps a) (G : FnOk P w K mg base CX k f fd ps b) : FnOk P w K mg base CX k f fd ps (orS2 a b) := by
  refine ⟨fun vs H Q E h => ?_, fun A outer s H args us vs Q E hr e0 hb r h => ?_⟩
  · rcases h with h | h
    · exact F.len _ _ _ _ h
    · exact G.len _ _ _ _ h
  · rcases h with h | h
    · exact F.run A outer s H args us vs Q E hr e0 hb r h
    · exact G.run A outer s H args us vs Q E hr e0 hb r h
def spAnP (BK S : Addr) : Sp := fun vs H Q _ => ∃ (b l : Addr) (N : Addr → Prop) (sts : List Sht) (here : Nat) (sv nv : V) (s : Sht), vs = [.ref b, .ref l] ∧ H l = some (.lst [.str "page"]) ∧ BkAt BK S N H b sts here sv nv ∧ sts[here]? = some s ∧ Wf s ∧ Tl s ∧ ∀ H', Same H H' → Q (.str (pgF s)) H'
abbrev nAnw : List Str := ["book", "words", "place", "one", "other", "many", "way", "saying"]
theorem scAnw : FnScope nAnw ["book", "words"] (defScope sAnswer) := ⟨rfl, rfl, rfl, by decide +kernel, rfl, by decide +kernel, by decide +kernel⟩
structure TAp (Pg : Program) (w : World) (K : PySem.W.Frag) (mg : Str → Option Value) (base : Heap) (BK S : Addr) (fPg : Addr) (fdPg : FuncData) : Prop where
  gPg : FnOk Pg w K mg base CX0 9 fPg fdPg ["book"] (spPage BK S)
  bPg : Binds K fdPg ["book"] []
  kPg : PySem.W.keepIn K (.ref fPg) = true
  mPg : mg "page" = some (.ref fPg)
def spTelP (DK BK S : Addr) : Sp := fun vs H Q _ => ∃ (d b : Addr) (N : Addr → Prop) (sts : List Sht) (here : Nat) (sv nv : V) (s : Sht), vs = [.ref d, .str "page"] ∧ DkAt DK H d b ∧ BkAt BK S N H b sts here sv nv ∧ sts[here]? = some s ∧ Wf s ∧ Tl s ∧ ∀ H', Same H H' → Q (.str (pgF s)) H'
section
variable {Pg : Program} {w : World} {K : PySem.W.Frag} {mg : Str → Option Value} {base : Heap} {BK S : Addr}
theorem ok_anp {f fPg : Addr} {fd fdPg : FuncData} (F : Fun K "answer" "answer" sAnswer f fd) (T : TAp Pg w K mg base BK S fPg fdPg) : FnOk Pg w K mg base (L2N.CX Pg w) 12 f fd ["book", "words"] (spAnP BK S) := by
  refine okN F scAnw (fun vs H Q E h => ?_) (fun cdv A outer s H vs Q E hr h => ?_)
  · obtain ⟨b, l, N, sts, here, sv, nv, s_, rfl, _⟩ := h; rfl
  obtain ⟨b, l, N, sts, here, sv, nv, s_, rfl, el, bk, hs, wf, tl, q⟩ := h
  have r9 : Room 9 _ := hr.mono (by decide)
  refine ⟨_, (pss_one (ps_match (pv 1) (pm_words rfl scAnw.nd pe_str .nil
    pss_never
  (pm_words rfl scAnw.nd pe_str .nil
    pss_never
  (pm_words rfl scAnw.nd pe_str (.cons (i := 2) rfl (.inl rfl) .nil)
    pss_never
  (pm_words rfl scAnw.nd pe_str (.cons (i := 2) rfl (.inl rfl) .nil)
    pss_never
  (pm_words rfl scAnw.nd pe_str (.cons (i := 3) rfl (.inl rfl) (.cons (i := 4) rfl (.inl rfl) (.cons (i := 5) rfl (.inl rfl) (.cons (i := 6) rfl (.inl rfl) .nil))))
    pss_never
  (pm_words rfl scAnw.nd pe_str .nil
    pss_never
  (pm_words rfl scAnw.nd pe_str .nil
    (pss_one (ps_ret (pe_call T.gPg r9 (by rfl) T.mPg T.kPg T.bPg .nil pass0 (pa_cons (pv 0) pa_nil))))
  (pm_any pss_never)))))))))), ?_⟩
  have el' : H l = some (.lst ((["page"] : List Str).map V.str)) := el
  refine ⟨.ref l, rfl, l, ["page"], rfl, el', (by show 1 < 2 ^ 62; decide), ?_⟩
  repeat first
    | refine ⟨fun h => (nohd (by decide +kernel) h).elim, fun _ => ⟨l, ["page"], rfl, el', (by show 1 < 2 ^ 62; decide), ?_⟩⟩
    | refine ⟨fun h => (nohd (by decide +kernel) h).elim, fun _ => ?_⟩
  refine ⟨fun _ => ?_, fun h => absurd ⟨rfl, rfl⟩ h⟩
  exact ⟨.ref b, rfl, b, N, sts, here, sv, nv, s_, rfl, bk, hs, wf, tl, q⟩
variable {cz : Nat → Addr} {fsa fus fam fre ffo fle fso fun_ frd fN fSw fbl fAn : Addr} {fdsa fdus fdam fdre fdfo fdle fdso fdun fdrd fdN fdSw fdbl fdAn : FuncData}
theorem ok_ordP {f : Addr} {fd : FuncData} (F : Fun K "do_order" "do_order" sDo_order f fd) (T : TOr Pg w K mg base BK S cz fsa fus fam fre ffo fle fso fun_ frd fN fSw fbl fAn fdsa fdus fdam fdre fdfo fdle fdso fdun fdrd fdN fdSw fdbl fdAn (spAnP BK S)) : FnOk Pg w K mg base (L2N.CX Pg w) 13 f fd ["book", "words"] (spAnP BK S) := by
  refine okN F scOrd (fun vs H Q E h => ?_) (fun cdv A outer s H vs Q E hr h => ?_)
  · obtain ⟨b, l, N, sts, here, sv, nv, s_, rfl, _⟩ := h; rfl
  have hh := h
  obtain ⟨b, l, N, sts, here, sv, nv, s_, rfl, el, _⟩ := h
  have r12 : Room 12 _ := hr
  have r11 : Room 11 _ := hr.mono (by decide)
  have r9 : Room 9 _ := hr.mono (by decide)
  have r8 : Room 8 _ := hr.mono (by decide)
  refine ⟨_, (pss_one (ps_match (pv 1) (pm_words rfl scOrd.nd pe_str (.cons (i := 2) rfl (.inl rfl) (.cons (i := 3) rfl (.inl rfl) (.cons (i := 4) rfl (.inl rfl) (.cons (i := 5) rfl (.inl rfl) .nil))))
    (pss_cons (ps_set (i := 6) scOrd.nd rfl (.inl rfl) (pe_call T.gSw r9 (by rfl) T.mSw T.kSw T.bSw .nil pass0 (pa_cons (pv 2) (pa_cons (pv 3) (pa_cons (pv 4) (pa_cons (pv 5) pa_nil)))))) (pss_cons (ps_set (i := 7) scOrd.nd rfl (.inl rfl) (pe_methS (pv 0) T.clB T.Bsa (FnOk.raw T.gsa T.bsa .nil) r11 (L2N.passes_call (L2N.takes_of rfl rfl rfl rfl) (fun _ _ _ _ h => h)) (pv 6))) (pss_one (ps_ret (pe_joined (.cons pe_str (.cons (pe_fmt (pv 7)) .nil)))))))
  (pm_words rfl scOrd.nd pe_str (.cons (i := 8) rfl (.inl rfl) .nil)
    (pss_cons (ps_expr (pe_meth (pv 0) T.clB T.mus T.gus r11 T.bus .nil (L2N.passes_call (L2N.takes_of rfl rfl rfl rfl) (fun _ _ _ _ h => h)) (pa_cons (pe_call T.gN r8 (by rfl) T.mN T.kN T.bN .nil pass0 (pa_cons (pv 8) pa_nil)) pa_nil))) (pss_one (ps_ret pe_str)))
  (pm_words rfl scOrd.nd pe_str (.cons (i := 8) rfl (.inl rfl) (.cons (i := 2) rfl (.inl rfl) (.cons (i := 3) rfl (.inl rfl) (.cons (i := 4) rfl (.inl rfl) (.cons (i := 5) rfl (.inl rfl) .nil)))))
    (pss_cons (ps_set (i := 9) scOrd.nd rfl (.inl rfl) (pe_call T.gN r8 (by rfl) T.mN T.kN T.bN .nil pass0 (pa_cons (pv 8) pa_nil))) (pss_cons (ps_set (i := 6) scOrd.nd rfl (.inl rfl) (pe_call T.gSw r9 (by rfl) T.mSw T.kSw T.bSw .nil pass0 (pa_cons (pv 2) (pa_cons (pv 3) (pa_cons (pv 4) (pa_cons (pv 5) pa_nil)))))) (pss_cons (ps_expr (pe_methSB (pv 0) T.clB T.Bam (FnOk.raw T.gam T.bam .nil) r11 (L2N.passes_call (L2N.takes_of rfl rfl rfl rfl) (fun _ _ _ _ h => h)) (pv 9) (pv 6))) (pss_one (ps_ret pe_str)))))
  (pm_words rfl scOrd.nd pe_str (.cons (i := 10) rfl (.inl rfl) (.cons (i := 11) rfl (.inl rfl) (.cons (i := 4) rfl (.inl rfl) .nil)))
    (pss_cons (ps_set (i := 7) scOrd.nd rfl (.inl rfl) (pe_meth (pv 0) T.clB T.mre T.gre r11 T.bre .nil (L2N.passes_call (L2N.takes_of rfl rfl rfl rfl) (fun _ _ _ _ h => h)) (pa_cons (pv 10) (pa_cons (pe_call T.gN r8 (by rfl) T.mN T.kN T.bN .nil pass0 (pa_cons (pv 11) pa_nil)) (pa_cons (pe_call T.gN r8 (by rfl) T.mN T.kN T.bN .nil pass0 (pa_cons (pv 4) pa_nil)) pa_nil))))) (pss_one (ps_ret (pe_joined (.cons pe_str (.cons (pe_fmt (pv 7)) .nil))))))
  (pm_words rfl scOrd.nd pe_str (.cons (i := 8) rfl (.inl rfl) .nil)
    (pss_cons (ps_expr (pe_meth (pv 0) T.clB T.mfo T.gfo r11 T.bfo .nil (L2N.passes_call (L2N.takes_of rfl rfl rfl rfl) (fun _ _ _ _ h => h)) (pa_cons (pe_call T.gN r8 (by rfl) T.mN T.kN T.bN .nil pass0 (pa_cons (pv 8) pa_nil)) pa_nil))) (pss_one (ps_ret pe_str)))
  (pm_words rfl scOrd.nd pe_str (.cons (i := 4) rfl (.inl rfl) .nil)
    (pss_cons (ps_expr (pe_meth (pv 0) T.clB T.mle T.gle r11 T.ble .nil (L2N.passes_call (L2N.takes_of rfl rfl rfl rfl) (fun _ _ _ _ h => h)) (pa_cons (pe_call T.gN r8 (by rfl) T.mN T.kN T.bN .nil pass0 (pa_cons (pv 4) pa_nil)) pa_nil))) (pss_one (ps_ret (pe_joined (.cons pe_str (.cons (pe_fmt (pe_meth0 (pv 0) T.clB T.mbl T.gbl r8 T.bbl .nil pass0)) .nil))))))
  (pm_words rfl scOrd.nd pe_str (.cons (i := 4) rfl (.inl rfl) .nil)
    (pss_cons (ps_expr (pe_meth (pv 0) T.clB T.mso T.gso r11 T.bso .nil (L2N.passes_call (L2N.takes_of rfl rfl rfl rfl) (fun _ _ _ _ h => h)) (pa_cons (pe_call T.gN r8 (by rfl) T.mN T.kN T.bN .nil pass0 (pa_cons (pv 4) pa_nil)) pa_nil))) (pss_one (ps_ret (pe_joined (.cons pe_str (.cons (pe_fmt (pe_meth0 (pv 0) T.clB T.mbl T.gbl r8 T.bbl .nil pass0)) .nil))))))
  (pm_words rfl scOrd.nd pe_str .nil
    (pss_cons (ps_expr (pe_meth0 (pv 0) T.clB T.mun T.gun r11 T.bun .nil (L2N.passes_call (L2N.takes_of rfl rfl rfl rfl) (fun _ _ _ _ h => h)))) (pss_one (ps_ret pe_str)))
  (pm_words rfl scOrd.nd pe_str .nil
    (pss_cons (ps_expr (pe_meth0 (pv 0) T.clB T.mrd T.grd r11 T.brd .nil (L2N.passes_call (L2N.takes_of rfl rfl rfl rfl) (fun _ _ _ _ h => h)))) (pss_one (ps_ret pe_str)))
  (pm_any (pss_one (ps_ret (pe_call T.gAn r12 (by rfl) T.mAn T.kAn T.bAn .nil (L2N.passes_call (L2N.takes_of rfl rfl rfl rfl) (fun _ _ _ _ h => h)) (pa_cons (pv 0) (pa_cons (pv 1) pa_nil))))))))))))))))), ?_⟩
  have el' : H l = some (.lst ((["page"] : List Str).map V.str)) := el
  refine ⟨.ref l, rfl, l, ["page"], rfl, el', (by show 1 < 2 ^ 62; decide), ?_⟩
  repeat first
    | refine ⟨fun h => (nohd (by decide +kernel) h).elim, fun _ => ⟨l, ["page"], rfl, el', (by show 1 < 2 ^ 62; decide), ?_⟩⟩
    | refine ⟨fun h => (nohd (by decide +kernel) h).elim, fun _ => ?_⟩
  exact ⟨.ref b, rfl, .ref l, rfl, hh⟩
structure TTp (Pg : Program) (w : World) (K : PySem.W.Frag) (mg : Str → Option Value) (base : Heap) (DK BK S U : Addr) (cz : Nat → Addr) (fO fW : Addr) (fdO fdW : FuncData) : Prop where
  clD : Cls K DK
  nh : NoAttr K DK "held"
  gO : FnOk Pg w K mg base (L2N.CX Pg w) 13 fO fdO ["book", "words"] (spAnP BK S)
  bO : Binds K fdO ["book", "words"] []
  kO : PySem.W.keepIn K (.ref fO) = true
  mO : mg "do_order" = some (.ref fO)
  gW : FnOk Pg w K mg base CX0 8 fW fdW ["row"] spWds
  bW : Binds K fdW ["row"] []
  kW : PySem.W.keepIn K (.ref fW) = true
  mW : mg "words_of" = some (.ref fW)
  gU : mg "Unfit" = some (.ref U)
  g0 : mg "BadLength" = some (.ref (cz 0))
  g1 : mg "BadStretch" = some (.ref (cz 1))
  g2 : mg "NoPlace" = some (.ref (cz 2))
  g3 : mg "NoNumber" = some (.ref (cz 3))
  g4 : mg "BadLetter" = some (.ref (cz 4))
  g5 : mg "Full" = some (.ref (cz 5))
  g6 : mg "InUse" = some (.ref (cz 6))
  g7 : mg "NothingLeft" = some (.ref (cz 7))
theorem page_split : Txt.split ("page" : Str) " " = (["page"] : List Str) := by decide +kernel
theorem ok_telP {DK U : Addr} {fO fW : Addr} {fdO fdW : FuncData} {f : Addr} {fd : FuncData} (F : Fun K "tell" "Desk.tell" sDeskTell f fd) (T : TTp Pg w K mg base DK BK S U cz fO fW fdO fdW) : FnOk Pg w K mg base CX0 14 f fd ["self", "text"] (spTelP DK BK S) := by
  refine F.ok scTel (fun vs H Q E h => ?_) (fun cdv A outer s H vs Q E hr h => ?_)
  · obtain ⟨d, b, N, sts, here, sv, nv, s_, rfl, _⟩ := h; rfl
  obtain ⟨d, b, N, sts, here, sv, nv, s_, rfl, ⟨dx, hd⟩, bk, hs, wf, tl, q⟩ := h
  have r13 : Room 13 _ := hr
  have r8 : Room 8 _ := hr.mono (by decide)
  refine ⟨_, (pss_one (L2N.ps_try_many rfl rfl takesN (fun W pn xe tk _ => pss_one (ps_ret (pe_callS T.gO r13 (by rfl) T.mO T.kO T.bO (fun σ => L2N.passAt tk σ) (pa_cons (pe_fldK (K := K) rfl (pv 0) rfl) (pa_cons (pe_call T.gW r8 (by rfl) T.mW T.kW T.bW .nil pass0 (pa_cons (pv 1) pa_nil)) pa_nil))))) (.cons ⟨rfl, by decide, .inl T.gU⟩ (fun _ _ _ _ _ _ _ => pss_one (ps_ret pe_str)) (.cons ⟨rfl, by decide, .inl T.g0⟩ (fun _ _ _ _ _ _ _ => pss_one (ps_ret pe_str)) (.cons ⟨rfl, by decide, .inl T.g1⟩ (fun _ _ _ _ _ _ _ => pss_one (ps_ret pe_str)) (.cons ⟨rfl, by decide, .inl T.g2⟩ (fun _ _ _ _ _ _ _ => pss_one (ps_ret pe_str)) (.cons ⟨rfl, by decide, .inl T.g3⟩ (fun _ _ _ _ _ _ _ => pss_one (ps_ret pe_str)) (.cons ⟨rfl, by decide, .inl T.g4⟩ (fun _ _ _ _ _ _ _ => pss_one (ps_ret pe_str)) (.cons ⟨rfl, by decide, .inl T.g5⟩ (fun _ _ _ _ _ _ _ => pss_one (ps_ret pe_str)) (.cons ⟨rfl, by decide, .inl T.g6⟩ (fun _ _ _ _ _ _ _ => pss_one (ps_ret pe_str)) (.cons ⟨rfl, by decide, .inl T.g7⟩ (fun _ _ _ _ _ _ _ => pss_one (ps_ret pe_str)) .nil))))))))))), ?_⟩
  refine ⟨.ref d, rfl, d, DK, dx, _, .ref b, rfl, hd, T.clD, T.nh, rfl, .str "page", rfl, "page", ["page"], rfl, page_split, by decide +kernel, by decide +kernel, fun H1 l s1 nl el => ?_⟩
  exact ⟨b, l, N, sts, here, sv, nv, s_, rfl, el, bk.same s1, hs, wf, tl, fun H2 s2 => q H2 (s1.trans s2)⟩
end
end Rep
namespace Rep
open PySem L2 L2H RepHot
/-! the page of a state, by the law -/
def spLpt : Sp := fun vs H Q _ => ∃ (stv : V) (N : Addr → Prop) (s : Sht), vs = [stv] ∧ StAt N H stv s ∧ Wf s ∧ Tl s ∧ ∀ H', Same H H' → Q (.str (pgF s)) H'
abbrev nLpt : List Str := ["_law_state", "_law_length", "_law_coming", "_law_sayings", "_law_memories", "_law_rows", "_law_number", "_law_one", "_law_other", "_law_many", "_law_turned", "_law_words", "_law_letter_here", "_law_at", "_law_text"]
theorem scLpt : FnScope nLpt ["_law_state"] (defScope s_law_page_text) := ⟨rfl, rfl, rfl, by decide +kernel, rfl, by decide +kernel, by decide +kernel⟩
structure TLpt (mg : Str → Option Value) : Prop where
  mstr : mg "str" = none
  mI : mg "int" = none
  mso : mg "sorted" = none
theorem sum_few' {l : List Str} {n : Nat} (h : ∀ z ∈ l, z.length ≤ 1000) (hl : l.length ≤ n) (hn : n ≤ 100) : (l.map (·.length)).sum + l.length * 1 ≤ 16777216 := by
  have b := sum_few l n h hl
  have : 1000 * n ≤ 100000 := by omega
  omega
section
variable {Pg : Program} {w : World} {K : PySem.W.Frag} {mg : Str → Option Value} {base : Heap}
theorem ok_lpt {f : Addr} {fd : FuncData} {k : Nat} (F : Fun K "_law_page_text" "_law_page_text" s_law_page_text f fd) (T : TLpt mg) : FnOk Pg w K mg base CX0 (k + 1) f fd ["_law_state"] spLpt := by
  refine F.ok scLpt (fun vs H Q E h => ?_) (fun cdv A outer s H vs Q E hr h => ?_)
  · obtain ⟨stv, N, s_, rfl, _⟩ := h; rfl
  obtain ⟨stv, N, s_, rfl, st, wf, tl, q⟩ := h
  refine ⟨_, (C8.pss_cut (ps_asg (pv 0) (pg_tup rfl (pgs_cons (pg_name (i := 1) scLpt.nd rfl (.inl rfl)) (pgs_cons (pg_name (i := 2) scLpt.nd rfl (.inl rfl)) (pgs_cons (pg_name (i := 3) scLpt.nd rfl (.inl rfl)) (pgs_cons (pg_name (i := 4) scLpt.nd rfl (.inl rfl)) pgs_nil))))))
    (C8.pss_cut (ps_set (i := 5) scLpt.nd rfl (.inl rfl) (pe_lst pa_nil))
    (C8.pss_cut (ps_for PassesOwn.never rfl (pi_list (pv 3)) (pg_tup rfl (pgs_cons (pg_name (i := 6) scLpt.nd rfl (.inl rfl)) (pgs_cons (pg_name (i := 7) scLpt.nd rfl (.inl rfl)) (pgs_cons (pg_name (i := 8) scLpt.nd rfl (.inl rfl)) (pgs_cons (pg_name (i := 9) scLpt.nd rfl (.inl rfl)) (pgs_cons (pg_name (i := 10) scLpt.nd rfl (.inl rfl)) pgs_nil))))))
      (pss_cons (ps_set (i := 11) scLpt.nd rfl (.inl rfl) (pe_lst (pa_cons pe_str (pa_cons (pe_callTy call_str_any (by rfl) T.mstr PyProof.Rows.boot_str (pa_cons (pv 6) pa_nil)) (pa_cons (pe_callTy call_str_any (by rfl) T.mstr PyProof.Rows.boot_str (pa_cons (pv 7) pa_nil)) (pa_cons (pe_callTy call_str_any (by rfl) T.mstr PyProof.Rows.boot_str (pa_cons (pv 8) pa_nil)) (pa_cons (pe_callTy call_str_any (by rfl) T.mstr PyProof.Rows.boot_str (pa_cons (pv 9) pa_nil)) (pa_cons (pe_ix ix_list (pe_lst (pa_cons pe_str (pa_cons pe_str pa_nil))) (pe_callTy call_int1 (by rfl) T.mI PyProof.Rows.boot_int (pa_cons (pv 10) pa_nil)) (fun _ _ => rfl)) pa_nil))))))))
    (pss_one (ps_expr (pe_bm PySem.F.plainAttrs_list PySem.F.slot_list_append PySem.F.type_list_append mt_append (pv 5) (pa_cons (pe_tup (pa_cons (pv 6) (pa_cons (pe_join pe_str (pv 11)) pa_nil))) pa_nil))))))
    (C8.pss_cut (ps_for PassesOwn.never rfl (pi_list (pv 4)) (pg_tup rfl (pgs_cons (pg_name (i := 6) scLpt.nd rfl (.inl rfl)) (pgs_cons (pg_name (i := 12) scLpt.nd rfl (.inl rfl)) (pgs_cons (pg_name (i := 13) scLpt.nd rfl (.inl rfl)) (pgs_cons (pg_name (i := 9) scLpt.nd rfl (.inl rfl)) pgs_nil)))))
      (pss_one (ps_expr (pe_bm PySem.F.plainAttrs_list PySem.F.slot_list_append PySem.F.type_list_append mt_append (pv 5) (pa_cons (pe_tup (pa_cons (pv 6) (pa_cons (pe_join pe_str (pe_lst (pa_cons pe_str (pa_cons (pe_callTy call_str_any (by rfl) T.mstr PyProof.Rows.boot_str (pa_cons (pv 6) pa_nil)) (pa_cons (pv 12) (pa_cons (pe_callTy call_str_any (by rfl) T.mstr PyProof.Rows.boot_str (pa_cons (pv 13) pa_nil)) (pa_cons (pe_callTy call_str_any (by rfl) T.mstr PyProof.Rows.boot_str (pa_cons (pv 9) pa_nil)) pa_nil))))))) pa_nil))) pa_nil)))))
    (pss_one (ps_ret (pe_join pe_str (pe_op op_cat (pe_lst (pa_cons (pe_op op_add_str (pe_op op_add_str (pe_op op_add_str pe_str (pe_callTy call_str_any (by rfl) T.mstr PyProof.Rows.boot_str (pa_cons (pv 1) pa_nil))) pe_str) (pe_callTy call_str_any (by rfl) T.mstr PyProof.Rows.boot_str (pa_cons (pv 2) pa_nil))) pa_nil)) (pe_lc (own := [("_law_number", 6), ("_law_text", 14)]) (g := (gTup K 2 (gCons (gName 6) (gCons (gName 14) gNil)))) (tt := tYes) (te := (tVar 14)) rfl scLpt.nd (pi_list (pe_callB (cr_sortedIS hr.units) (by rfl) T.mso PyProof.Rows.boot_sorted (pa_cons (pv 5) pa_nil))) (blkOk_by (N := nLpt) (sc := defScope s_law_page_text) (by decide +kernel)) (fun _ _ _ _ _ => (pg_tup rfl (pgs_cons (pg_name (i := 6) scLpt.nd rfl (.inl rfl)) (pgs_cons (pg_name (i := 14) scLpt.nd rfl (.inl rfl)) pgs_nil)))) (fun _ _ _ _ _ => pts_nil) (fun _ _ _ _ _ => (pv 14))))))))))), ?_⟩
  obtain ⟨t, la, lb, xs, ys, rfl, h2, h3, h4, h5, h6, h7, h8⟩ := st.ex
  have l1 := wf.l1
  have l2 := wf.l2
  have x1 := h4.len
  have y1 := h6.len
  refine ⟨fun σ' H' => σ' = [some (.ref t), some (.int s_.size), some (.int s_.coming), some (.ref la), some (.ref lb), none, none, none, none, none, none, none, none, none, none] ∧ H' = H, ?_, ?_⟩
  · exact ⟨.ref t, rfl, t, _, rfl, .inl (.inl h2), rfl, _, _, rfl, _, _, rfl, _, _, rfl, _, _, rfl, rfl, rfl, rfl⟩
  rintro σ' H' ⟨rfl, eH⟩
  subst eH
  refine ⟨fun σ' H1 => ∃ l, σ' = [some (.ref t), some (.int s_.size), some (.int s_.coming), some (.ref la), some (.ref lb), some (.ref l), none, none, none, none, none, none, none, none, none] ∧ Same H' H1 ∧ H' l = none ∧ H1 l = some (.lst []), ?_, ?_⟩
  · refine ⟨szN 0 rfl, fun l0 n_l0 => ?_⟩
    generalize e_l0 : upd H' l0 _ = H1
    have u1 := new_same e_l0 n_l0
    have z1 := new_at e_l0
    clear e_l0
    exact ⟨l0, rfl, u1, n_l0, z1⟩
  rintro σ' H1 ⟨l, rfl, u1, nl, el⟩
  -- sayings
  have a1 : ("say" : Str).length = 3 := by decide +kernel
  have a2 : ("note" : Str).length = 4 := by decide +kernel
  have a3 : ("song " : Str).length = 5 := by decide +kernel
  have a4 : (" " : Str).length = 1 := by decide +kernel
  refine ⟨fun σ' H2 => ∃ y6 y7 y8 y9 y10 y11 vs, σ' = [some (.ref t), some (.int s_.size), some (.int s_.coming), some (.ref la), some (.ref lb), some (.ref l), y6, y7, y8, y9, y10, y11, none, none, none] ∧ Same H' H2 ∧ H2 l = some (.lst vs) ∧ LL ISat H2 vs (s_.said.map fun r => (r.num, rowS r)), ?_, ?_⟩
  · refine ⟨.ref la, rfl, la, rfl, ⟨_, .inl (.inl (u1 _ _ h3))⟩, for_list (xs := xs) (fun j σ' H2 => ∃ y6 y7 y8 y9 y10 y11 vs, σ' = [some (.ref t), some (.int s_.size), some (.int s_.coming), some (.ref la), some (.ref lb), some (.ref l), y6, y7, y8, y9, y10, y11, none, none, none] ∧ Same H' H2 ∧ H2 l = some (.lst vs) ∧ LL ISat H2 vs ((s_.said.map fun r => (r.num, rowS r)).take j)) ⟨none, none, none, none, none, none, [], rfl, u1, el, LL.nil⟩ (fun j σ' H2 _ hP => ?_) (fun j x σ' H2 hx hP => ?_) (fun σ' H2 hP => ?_)⟩
    · obtain ⟨y6, y7, y8, y9, y10, y11, vs, rfl, u2, el2, ll2⟩ := hP
      exact .inl (.inl (u2 _ _ h3))
    · obtain ⟨y6, y7, y8, y9, y10, y11, vs, rfl, u2, el2, ll2⟩ := hP
      obtain ⟨r, hr_, tr, rfl, htr⟩ := h4.get hx
      have hi : j < s_.said.length := (List.getElem?_eq_some_iff.mp hr_).1
      obtain ⟨tn, t1, t2, t3⟩ := tl.a r (List.mem_of_getElem? hr_)
      have k0 := sI_len tn
      have k1 := sI_len t1
      have k2 := sI_len t2
      have k3 := sI_len t3
      have k4 := way_le r.sy.t
      have vl : vs.length = j := by rw [ll2.len, List.length_take, List.length_map]; omega
      refine ⟨tr, _, rfl, .inl (.inl (u2 _ _ htr)), rfl, _, _, rfl, _, _, rfl, _, _, rfl, _, _, rfl, _, _, rfl, rfl, ?_⟩
      refine ⟨.int r.num, rfl, .int r.num, rfl, log40 tn, .int r.sy.lo, rfl, .int r.sy.lo, rfl, log40 t1, .int r.sy.hi, rfl, .int r.sy.hi, rfl, log40 t2, .int r.sy.n, rfl, .int r.sy.n, rfl, log40 t3, ?_⟩
      refine ⟨szN 2 rfl, fun l9 n_l9 => ?_⟩
      generalize e_l9 : upd H2 l9 _ = H3
      have u3 := new_same e_l9 n_l9
      have z3 := new_at e_l9
      clear e_l9
      refine ⟨.bl r.sy.t, rfl, .inr ⟨r.sy.t, rfl, l9, _, _, .str (wayS r.sy.t), rfl, rfl, .inl (.inl z3), by cases r.sy.t <;> rfl, ?_⟩⟩
      refine ⟨szN 6 rfl, fun lw n_lw => ?_⟩
      generalize e_lw : upd H3 lw _ = H4
      have u4 := new_same e_lw n_lw
      have z4 := new_at e_lw
      clear e_lw
      have u34 := u3.trans u4
      refine ⟨.ref l, rfl, .inl ⟨rfl, _, .inl (.inl (u34 _ _ el2))⟩, .int r.num, rfl, ⟨_, rfl⟩, .ref lw, rfl, " ", lw, ["say", sI r.num, sI r.sy.lo, sI r.sy.hi, sI r.sy.n, wayS r.sy.t], rfl, rfl, .inl (.inl (.inl z4)), ?_, ?_⟩
      · show ("say" : Str).length + ((sI r.num).length + ((sI r.sy.lo).length + ((sI r.sy.hi).length + ((sI r.sy.n).length + ((wayS r.sy.t).length + 0))))) + 6 * 1 ≤ 16777216
        omega
      refine ⟨szN 2 rfl, fun t9 n_t9 => ?_⟩
      generalize e_t9 : upd H4 t9 _ = H5
      have u5 := new_same e_t9 n_t9
      have z5 := new_at e_t9
      clear e_t9
      have u25 := u34.trans u5
      have el5 := u25 _ _ el2
      refine ⟨l, vs, .ref t9, rfl, rfl, el5, small1000 (by omega), ?_⟩
      have tsU : TS H5 (upd H5 l (.lst (vs ++ [.ref t9]))) := fun t' xs' e => by rw [upd_ne (fun z => by rw [z, el5] at e; cases e)]; exact e
      refine ⟨_, _, _, _, _, _, vs ++ [.ref t9], rfl, same_over (u2.trans u25) nl, upd_same, ?_⟩
      rw [List.take_add_one, List.getElem?_map, hr_]
      exact LL.snoc (ll2.tr fun _ _ z => (z.ts (TS.of u25)).ts tsU) ⟨t9, rfl, tsU _ _ z5⟩
    · obtain ⟨y6, y7, y8, y9, y10, y11, vs, rfl, u2, el2, ll2⟩ := hP
      rw [x1, List.take_of_length_le (by rw [List.length_map]; exact Nat.le_refl _)] at ll2
      exact ⟨_, _, _, _, _, _, vs, rfl, u2, el2, ll2⟩
  clear el u1
  rintro σ' H1 ⟨y6, y7, y8, y9, y10, y11, vs, rfl, u1, el, ll⟩
  -- memories
  refine ⟨fun σ' H2 => ∃ y6 y7 y8 y9 y10 y11 y12 y13 vs, σ' = [some (.ref t), some (.int s_.size), some (.int s_.coming), some (.ref la), some (.ref lb), some (.ref l), y6, y7, y8, y9, y10, y11, y12, y13, none] ∧ Same H' H2 ∧ H2 l = some (.lst vs) ∧ LL ISat H2 vs (psF s_), ?_, ?_⟩
  · refine ⟨.ref lb, rfl, lb, rfl, ⟨_, .inl (.inl (u1 _ _ h5))⟩, for_list (xs := ys) (fun j σ' H2 => ∃ y6 y7 y8 y9 y10 y11 y12 y13 vs, σ' = [some (.ref t), some (.int s_.size), some (.int s_.coming), some (.ref la), some (.ref lb), some (.ref l), y6, y7, y8, y9, y10, y11, y12, y13, none] ∧ Same H' H2 ∧ H2 l = some (.lst vs) ∧ LL ISat H2 vs ((s_.said.map fun r => (r.num, rowS r)) ++ (s_.noted.map fun m => (m.num, rowM m)).take j)) ⟨_, _, _, _, _, _, none, none, vs, rfl, u1, el, by rw [List.take_zero, List.append_nil]; exact ll⟩ (fun j σ' H2 _ hP => ?_) (fun j x σ' H2 hx hP => ?_) (fun σ' H2 hP => ?_)⟩
    · obtain ⟨y6, y7, y8, y9, y10, y11, y12, y13, vs, rfl, u2, el2, ll2⟩ := hP
      exact .inl (.inl (u2 _ _ h5))
    · clear ll el u1 vs
      obtain ⟨y6, y7, y8, y9, y10, y11, y12, y13, vs, rfl, u2, el2, ll2⟩ := hP
      obtain ⟨m, hr_, tr, rfl, htr⟩ := h6.get hx
      have hi : j < s_.noted.length := (List.getElem?_eq_some_iff.mp hr_).1
      obtain ⟨tn, t1, t2, k5⟩ := tl.b m (List.mem_of_getElem? hr_)
      have k0 := sI_len tn
      have k1 := sI_len t1
      have k2 := sI_len t2
      have vl : vs.length ≤ 100 := by rw [ll2.len, List.length_append, List.length_take, List.length_map, List.length_map]; omega
      refine ⟨tr, _, rfl, .inl (.inl (u2 _ _ htr)), rfl, _, _, rfl, _, _, rfl, _, _, rfl, _, _, rfl, rfl, ?_⟩
      refine ⟨.ref l, rfl, .inl ⟨rfl, _, .inl (.inl el2)⟩, .int m.num, rfl, ⟨_, rfl⟩, .int m.num, rfl, .int m.num, rfl, log40 tn, .str m.lt, rfl, .int m.at_, rfl, .int m.at_, rfl, log40 t1, .int m.n, rfl, .int m.n, rfl, log40 t2, ?_⟩
      refine ⟨szN 5 rfl, fun lw n_lw => ?_⟩
      generalize e_lw : upd H2 lw _ = H4
      have u4 := new_same e_lw n_lw
      have z4 := new_at e_lw
      clear e_lw
      refine ⟨" ", lw, ["note", sI m.num, m.lt, sI m.at_, sI m.n], rfl, rfl, .inl (.inl (.inl z4)), ?_, ?_⟩
      · show ("note" : Str).length + ((sI m.num).length + ((m.lt).length + ((sI m.at_).length + ((sI m.n).length + 0)))) + 5 * 1 ≤ 16777216
        omega
      refine ⟨szN 2 rfl, fun t9 n_t9 => ?_⟩
      generalize e_t9 : upd H4 t9 _ = H5
      have u5 := new_same e_t9 n_t9
      have z5 := new_at e_t9
      clear e_t9
      have u25 := u4.trans u5
      have el5 := u25 _ _ el2
      refine ⟨l, vs, .ref t9, rfl, rfl, el5, small1000 (by omega), ?_⟩
      have tsU : TS H5 (upd H5 l (.lst (vs ++ [.ref t9]))) := fun t' xs' e => by rw [upd_ne (fun z => by rw [z, el5] at e; cases e)]; exact e
      refine ⟨_, _, _, _, _, _, _, _, vs ++ [.ref t9], rfl, same_over (u2.trans u25) nl, upd_same, ?_⟩
      rw [List.take_add_one, List.getElem?_map, hr_, ← List.append_assoc]
      exact LL.snoc (ll2.tr fun _ _ z => (z.ts (TS.of u25)).ts tsU) ⟨t9, rfl, tsU _ _ z5⟩
    · obtain ⟨y6, y7, y8, y9, y10, y11, y12, y13, vs, rfl, u2, el2, ll2⟩ := hP
      rw [y1, List.take_of_length_le (by rw [List.length_map]; exact Nat.le_refl _)] at ll2
      exact ⟨_, _, _, _, _, _, _, _, vs, rfl, u2, el2, ll2⟩
  clear el u1 ll vs
  rintro σ' H1 ⟨y6, y7, y8, y9, y10, y11, y12, y13, vs, rfl, uZ, el, ll⟩
  have k1 := sI_len tl.e
  have k2 := sI_len tl.c
  have pl : (psF s_).length ≤ 48 := by unfold psF; rw [List.length_append, List.length_map, List.length_map]; omega
  refine ⟨⟨_, rfl⟩, .int s_.size, rfl, .int s_.size, rfl, log40 tl.e, "song ", sI s_.size, rfl, rfl, fitL (by omega), _, " ", rfl, rfl, fitL (by simp only [ap_len]; omega), .int s_.coming, rfl, .int s_.coming, rfl, log40 tl.c, _, sI s_.coming, rfl, rfl, fitL (by simp only [ap_len]; omega), ?_⟩
  have ehd : ("song " : Str) ++ sI s_.size ++ " " ++ sI s_.coming = headF s_ := by
    rw [← out_song]
    apply TL.ext_tl
    simp only [TL.tl_append, show TL.tl Str.empty = [] from rfl, List.nil_append]
  rw [ehd]
  refine ⟨szN 1 rfl, fun l1 n_l1 => ?_⟩
  generalize e_l1 : upd H1 l1 _ = H2
  have u2 := new_same e_l1 n_l1
  have z2 := new_at e_l1
  clear e_l1
  refine ⟨.ref l, rfl, l, vs, psF s_, rfl, .inl (.inl (u2 _ _ el)), ll.tr fun _ _ z => z.ts (TS.of u2), by omega, fun ys p ly np => ?_⟩
  have u3 : Same H2 (upd H2 p (.lst ys)) := same_upd np
  have z3 : upd H2 p (.lst ys) p = some (.lst ys) := upd_same
  generalize upd H2 p (.lst ys) = H3 at u3 z3 ⊢
  have sl : (srtF (psF s_)).length = (psF s_).length := List.length_mergeSort _
  refine ⟨p, rfl, ⟨_, .inl (.inl z3)⟩, fun D nD => ?_⟩
  refine lc_list (xs := ys) (fun i H4 => Same H3 H4 ∧ H4 D = some (.lst (((srtF (psF s_)).take i).map fun p => V.str p.2))) ⟨same_upd nD, upd_same⟩ (fun i H4 _ hP => .inl (.inl (hP.1 _ _ z3))) (fun i v H4 hv hP => ?_) (fun H4 hP => ?_)
  · obtain ⟨sm, eD⟩ := hP
    obtain ⟨pr, hp, t, rfl, ht⟩ := ly.get hv
    refine ⟨t, _, rfl, .inl (.inl (sm _ _ (u3 _ _ ht))), rfl, _, _, rfl, _, _, rfl, rfl, rfl, ?_⟩
    refine tYes_ok ?_
    refine iteT ?_
    refine ⟨.str pr.2, rfl, _, eD, ?_, same_over sm nD, ?_⟩
    · rw [List.length_map, List.length_take]
      exact Nat.lt_of_le_of_lt (Nat.min_le_right _ _) (small1000 (by omega))
    · rw [upd_same, List.take_add_one, hp, List.map_append]; rfl
  · obtain ⟨sm, eD⟩ := hP
    rw [ly.len, List.take_of_length_le (Nat.le_refl _)] at eD
    refine ⟨l1, D, _, _, rfl, rfl, sm _ _ (u3 _ _ z2), eD, Nat.le_trans (show _ ≤ 100 by simp only [List.length_map, List.length_cons, List.length_nil]; omega) (by decide), ?_⟩
    intro l6 n_l6
    generalize e_l6 : upd H4 l6 _ = H5
    have u5 := new_same e_l6 n_l6
    have z5 := new_at e_l6
    clear e_l6
    have z5 : H5 l6 = some (.lst ((headF s_ :: (srtF (psF s_)).map Prod.snd).map V.str)) := by rw [z5, List.map_cons, List.map_map]; rfl
    refine ⟨"\n", l6, headF s_ :: (srtF (psF s_)).map Prod.snd, rfl, rfl, .inl (.inl (.inl z5)), ?_, q H5 (uZ.trans (u2.trans (u3.trans (sm.trans u5))))⟩
    have b := sum_few (headF s_ :: (srtF (psF s_)).map Prod.snd) 49 (pg_lens tl) (by rw [List.length_cons, List.length_map]; omega)
    have c : (headF s_ :: (srtF (psF s_)).map Prod.snd).length ≤ 49 := by rw [List.length_cons, List.length_map]; omega
    show _ + (headF s_ :: (srtF (psF s_)).map Prod.snd).length * 1 ≤ _
    omega
end
end Rep
namespace Rep
open PySem L2 L2H RepHot
/-! a deed, drawn -/
/-- no blank in a word -/
def deNb : De → Prop
  | .dd (.rem z _ _) => 32 ∉ z.cps.toList
  | _ => True
def spDeed (K : PySem.W.Frag) : Sp := fun vs H Q _ => ∃ (a : Addr) (ns : List Int) (k : Int) (stv : V) (N : Addr → Prop) (s : Sht), vs = [.ref a, .int k, stv] ∧ SqL K H a (ns.map V.int) ∧ ns.length ≤ 63 ∧ StAt N H stv s ∧ Wf s ∧ ∀ H' dv de, Same H H' → DeAt H' dv de → deOk de → deNb de → Few s de → Q dv H'
theorem scDeed : FnScope ["_law_script", "_law_k", "_law_state", "_law_length", "_law_coming", "_law_sayings", "_law_memories", "_law_kind", "_law_pick", "_law_odd", "_law_raw_here", "_law_kin_here", "_law_one", "_law_other", "_law_many", "_law_turned", "_law_letter_here", "_law_rows", "_law_number"] ["_law_script", "_law_k", "_law_state"] (defScope s_law_deed) := ⟨rfl, rfl, rfl, by decide +kernel, rfl, by decide +kernel, by decide +kernel⟩
structure TDe (Pg : Program) (w : World) (K : PySem.W.Frag) (mg : Str → Option Value) (base : Heap) (fD fS fL : Addr) (fdD fdS fdL : FuncData) : Prop where
  gD : FnOk Pg w K mg base CX0 7 fD fdD ["_law_script", "_law_k", "_law_sizes"] (spDig K)
  bD : Binds K fdD ["_law_script", "_law_k", "_law_sizes"] []
  kD : PySem.W.keepIn K (.ref fD) = true
  mD : mg "_law_digits" = some (.ref fD)
  gS : FnOk Pg w K mg base CX0 7 fS fdS ["_law_script", "_law_k", "_law_length"] (spSay K)
  bS : Binds K fdS ["_law_script", "_law_k", "_law_length"] []
  kS : PySem.W.keepIn K (.ref fS) = true
  mS : mg "_law_saying" = some (.ref fS)
  gL : FnOk Pg w K mg base CX0 7 fL fdL ["_law_raw_here"] spLl
  bL : Binds K fdL ["_law_raw_here"] []
  kL : PySem.W.keepIn K (.ref fL) = true
  mL : mg "_law_letter" = some (.ref fL)
  mM : mg "max" = none
  mI : mg "int" = none
  ml : mg "len" = none
theorem shapedMe {ms : List Me} (h : ∀ m ∈ ms, Ltr m.lt) : SeqAt.shaped (.list (ms.map meD')) = true := by
  unfold SeqAt.shaped
  have e : PyData.canLay0 (.list (ms.map meD')) = true := canMe' _ h
  rw [e]
  refine decide_eq_true ?_
  show PyData.depthAll (ms.map meD') + 1 ≤ 64
  have := depMe' ms
  omega
theorem p20 : CPow 10 20 := ⟨by decide, by decide, by decide⟩
theorem dg20 : Dg ((10 : Int) ^ (20 : Int).toNat) := ⟨by decide +kernel, by decide +kernel⟩
section
variable {Pg : Program} {w : World} {K : PySem.W.Frag} {mg : Str → Option Value} {base : Heap} {fD fS fL : Addr} {fdD fdS fdL : FuncData}
theorem ok_deed {f : Addr} {fd : FuncData} (F : Fun K "_law_deed" "_law_deed" s_law_deed f fd) (T : TDe Pg w K mg base fD fS fL fdD fdS fdL) : FnOk Pg w K mg base CX0 8 f fd ["_law_script", "_law_k", "_law_state"] (spDeed K) := by
  refine F.ok scDeed (fun vs H Q E h => ?_) (fun cdv A outer s H vs Q E hr h => ?_)
  · obtain ⟨a, ns, k, stv, N, s_, rfl, _⟩ := h; rfl
  obtain ⟨a, ns, k, stv, N, s_, rfl, hS, h63, st, wf, q⟩ := h
  have r7 : Room 7 _ := hr
  have hu := hu_of hr
  refine ⟨_, (C8.pss_cut (ps_asg (pv 2) (pg_tup rfl (pgs_cons (pg_name (i := 3) scDeed.nd rfl (.inl rfl)) (pgs_cons (pg_name (i := 4) scDeed.nd rfl (.inl rfl)) (pgs_cons (pg_name (i := 5) scDeed.nd rfl (.inl rfl)) (pgs_cons (pg_name (i := 6) scDeed.nd rfl (.inl rfl)) pgs_nil))))))
    (C8.pss_cut (ps_asg (pe_call T.gD r7 (by rfl) T.mD T.kD T.bD .nil pass0 (pa_cons (pv 0) (pa_cons (pv 1) (pa_cons (pe_lst (pa_cons pe_int (pa_cons pe_int (pa_cons pe_int (pa_cons (pe_op op_pow pe_int pe_int) (pa_cons pe_int pa_nil)))))) pa_nil)))) (pg_lst rfl (pgs_cons (pg_name (i := 7) scDeed.nd rfl (.inl rfl)) (pgs_cons (pg_name (i := 8) scDeed.nd rfl (.inl rfl)) (pgs_cons (pg_name (i := 9) scDeed.nd rfl (.inl rfl)) (pgs_cons (pg_name (i := 10) scDeed.nd rfl (.inl rfl)) (pgs_cons (pg_name (i := 11) scDeed.nd rfl (.inl rfl)) pgs_nil)))))))
    (C8.pss_cut (ps_asg (pe_call T.gS r7 (by rfl) T.mS T.kS T.bS .nil pass0 (pa_cons (pv 0) (pa_cons (pv 1) (pa_cons (pe_callB (call_max2 rfl) (by rfl) T.mM (by decide +kernel) (pa_cons pe_int (pa_cons (pv 3) pa_nil))) pa_nil)))) (pg_tup rfl (pgs_cons (pg_name (i := 12) scDeed.nd rfl (.inl rfl)) (pgs_cons (pg_name (i := 13) scDeed.nd rfl (.inl rfl)) (pgs_cons (pg_name (i := 14) scDeed.nd rfl (.inl rfl)) (pgs_cons (pg_name (i := 15) scDeed.nd rfl (.inl rfl)) pgs_nil))))))
    (C8.pss_cut (ps_if (pt_cmpR op_eq (pv 9) pe_int (nomark _)) (pss_one (ps_asg (pe_ix ix_list (pe_lst (pa_cons (pe_tup (pa_cons (pe_op op_add (pv 12) (pv 3)) (pa_cons (pv 13) (pa_cons (pv 14) pa_nil)))) (pa_cons (pe_tup (pa_cons (pv 12) (pa_cons (pe_op op_sub (pe_un un_neg pe_int) (pe_op op_mod (pv 10) pe_int)) (pa_cons (pv 14) pa_nil)))) (pa_cons (pe_tup (pa_cons (pv 12) (pa_cons (pv 13) (pa_cons pe_int pa_nil)))) (pa_cons (pe_tup (pa_cons (pv 12) (pa_cons (pe_op op_add (pe_op op_sub (pv 3) (pv 14)) pe_int) (pa_cons (pv 14) pa_nil)))) (pa_cons (pe_tup (pa_cons (pv 12) (pa_cons (pv 13) (pa_cons (pe_op op_add (pe_op op_add (pv 3) pe_int) (pv 10)) pa_nil)))) pa_nil)))))) (pe_op op_mod (pv 8) pe_int) (fun _ _ => rfl)) (pg_tup rfl (pgs_cons (pg_name (i := 12) scDeed.nd rfl (.inl rfl)) (pgs_cons (pg_name (i := 13) scDeed.nd rfl (.inl rfl)) (pgs_cons (pg_name (i := 14) scDeed.nd rfl (.inl rfl)) pgs_nil)))))) pss_nil)
    (C8.pss_cut (ps_set (i := 16) scDeed.nd rfl (.inl rfl) (pe_call T.gL r7 (by rfl) T.mL T.kL T.bL .nil pass0 (pa_cons (pe_op op_add (pe_op op_mul (pe_op op_mod (pv 10) pe_int) pe_int) (pe_op op_mod (pv 11) pe_int)) pa_nil)))
    (C8.pss_cut (ps_if (pt_cmpR op_gt (pv 11) pe_int (nomark _)) (pss_one (ps_set (i := 16) scDeed.nd rfl (.inl rfl) (pe_ix ix_list (pe_lst (pa_cons pe_str (pa_cons pe_str (pa_cons pe_str (pa_cons pe_str (pa_cons pe_str pa_nil)))))) (pe_op op_sub (pv 11) pe_int) (fun _ _ => rfl)))) pss_nil)
    (C8.pss_cut (ps_set (i := 17) scDeed.nd rfl (.inl rfl) (pe_ix ix_list (pe_lst (pa_cons (pv 5) (pa_cons (pv 6) pa_nil))) (pe_callTy call_int1 (by rfl) T.mI PyProof.Rows.boot_int (pa_cons (pe_cmpR op_ne (pe_cmpR op_eq (pv 7) pe_int (nomark _)) (pe_cmpR op_eq (pv 9) pe_int (nomark _)) (nomark _)) pa_nil)) (fun _ _ => rfl)))
    (C8.pss_cut (ps_set (i := 18) scDeed.nd rfl (.inl rfl) (pe_ix ix_list (pe_lst (pa_cons pe_int (pa_cons (pv 4) (pa_cons (pe_op op_add (pv 4) pe_int) (pa_cons (pe_un un_neg pe_int) pa_nil))))) (pe_op op_mod (pv 8) pe_int) (fun _ _ => rfl)))
    (C8.pss_cut (ps_if (PW.pt (pw_and (pt_cmpR (op_neD hr.units) (pv 17) (pe_lst pa_nil) (nomark _)) (pw_and1 (pt_cmpR op_gt (pe_op op_mod (pe_op op_fdivW (pv 8) pe_int) pe_int) pe_int (nomark _))))) (pss_one (ps_set (i := 18) scDeed.nd rfl (.inl rfl) (pe_ix ix_tup (pe_ix ix_list (pv 17) (pe_op op_mod (pv 8) (pe_callB call_len_seq (by rfl) T.ml PySem.boot_len (pa_cons (pv 17) pa_nil))) (fun _ _ => rfl)) pe_int (fun _ _ => rfl)))) pss_nil)
    (pss_cons (ps_if (pt_cmpR op_lt (pv 7) pe_int (nomark _)) (pss_one (ps_ret (pe_tup (pa_cons pe_str (pa_cons (pv 12) (pa_cons (pv 13) (pa_cons (pv 14) (pa_cons (pv 15) pa_nil)))))))) pss_nil)
    (pss_cons (ps_if (pt_cmpR op_eq (pv 7) pe_int (nomark _)) (pss_one (ps_ret (pe_tup (pa_cons pe_str (pa_cons (pv 18) pa_nil))))) pss_nil)
    (pss_cons (ps_if (pt_cmpR op_eq (pv 7) pe_int (nomark _)) (pss_one (ps_ret (pe_tup (pa_cons pe_str (pa_cons (pv 18) (pa_cons (pv 12) (pa_cons (pv 13) (pa_cons (pv 14) (pa_cons (pv 15) pa_nil))))))))) pss_nil)
    (pss_cons (ps_if (pt_cmpR op_lt (pv 7) pe_int (nomark _)) (pss_one (ps_ret (pe_tup (pa_cons pe_str (pa_cons (pv 16) (pa_cons (pv 13) (pa_cons (pv 14) pa_nil))))))) pss_nil)
    (pss_cons (ps_if (pt_cmpR op_eq (pv 7) pe_int (nomark _)) (pss_one (ps_ret (pe_tup (pa_cons pe_str (pa_cons (pv 18) pa_nil))))) pss_nil)
    (pss_cons (ps_if (pt_cmpR op_eq (pv 7) pe_int (nomark _)) (pss_one (ps_ret (pe_tup (pa_cons pe_str (pa_cons (pe_ix ix_list (pe_lst (pa_cons (pe_op op_add pe_int (pe_op op_mod (pv 10) pe_int)) (pa_cons (pe_op op_add pe_int (pe_op op_mod (pv 10) pe_int)) (pa_cons (pe_op op_add pe_int (pe_op op_mod (pv 10) pe_int)) (pa_cons pe_int (pa_cons (pe_op op_sub (pe_un un_neg pe_int) (pv 10)) (pa_cons (pe_op op_sub (pe_op op_pow pe_int pe_int) (pv 3)) pa_nil))))))) (pe_op op_mod (pv 8) pe_int) (fun _ _ => rfl)) pa_nil))))) pss_nil)
    (pss_cons (ps_if (pt_cmpR op_eq (pv 7) pe_int (nomark _)) (pss_one (ps_ret (pe_tup (pa_cons pe_str (pa_cons (pe_ix ix_list (pe_lst (pa_cons (pe_op op_add pe_int (pe_op op_mod (pv 10) pe_int)) (pa_cons (pe_op op_add pe_int (pe_op op_mod (pv 10) pe_int)) (pa_cons (pv 3) (pa_cons (pe_op op_add (pe_op op_add (pv 3) pe_int) (pv 10)) (pa_cons pe_int (pa_cons (pe_op op_sub pe_int (pv 10)) pa_nil))))))) (pe_op op_mod (pv 8) pe_int) (fun _ _ => rfl)) pa_nil))))) pss_nil)
    (pss_one (ps_ret (pe_tup (pa_cons (pe_ix ix_list (pe_lst (pa_cons pe_str (pa_cons pe_str (pa_cons pe_str pa_nil)))) (pe_op op_sub (pv 7) pe_int) (fun _ _ => rfl)) pa_nil)))))))))))))))))))), ?_⟩
  obtain ⟨t, la, lb, xs, ys, rfl, h2, h3, h4, h5, h6, h7, h8⟩ := st.ex
  have l1 := wf.l1
  have l2 := wf.l2
  have x1 := h4.len
  have y1 := h6.len
  have we := wf.e
  refine ⟨fun σ' H' => σ' = [some (.ref a), some (.int k), some (.ref t), some (.int s_.size), some (.int s_.coming), some (.ref la), some (.ref lb), none, none, none, none, none, none, none, none, none, none, none, none] ∧ H' = H, ?_, ?_⟩
  · exact ⟨.ref t, rfl, t, _, rfl, .inl (.inl h2), rfl, _, _, rfl, _, _, rfl, _, _, rfl, _, _, rfl, rfl, rfl, rfl⟩
  rintro σ' H' ⟨rfl, eH⟩
  subst eH
  -- draws
  refine ⟨fun σ' H1 => ∃ kd pk od rw_ kn : Int, σ' = [some (.ref a), some (.int k), some (.ref t), some (.int s_.size), some (.int s_.coming), some (.ref la), some (.ref lb), some (.int kd), some (.int pk), some (.int od), some (.int rw_), some (.int kn), none, none, none, none, none, none, none] ∧ Same H' H1 ∧ 0 ≤ kd ∧ kd < 14 ∧ 0 ≤ pk ∧ 0 ≤ kn ∧ kn < 40 ∧ 0 ≤ rw_, ?_, ?_⟩
  · refine ⟨.ref a, rfl, .int k, rfl, 10, 20, rfl, rfl, p20, ?_⟩
    refine ⟨szN 5 rfl, fun l1_ n_l1_ => ?_⟩
    generalize e_l1_ : upd H' l1_ _ = H1
    have u1 := new_same e_l1_ n_l1_
    have z1 := new_at e_l1_
    clear e_l1_
    refine ⟨a, l1_, ns, [14, 60, 9, (10 : Int) ^ (20 : Int).toNat, 40], k, rfl, u1.seq hS, h63, .inl (.inl z1), by show 5 ≤ 1000; decide, dgc ⟨by decide, by decide⟩ (dgc ⟨by decide, by decide⟩ (dgc ⟨by decide, by decide⟩ (dgc dg20 (dgc ⟨by decide, by decide⟩ dg0)))), fun H2 pd u2 np ep => ?_⟩
    generalize rawF ns k = ra at ep
    have hT0 : (10 : Int) ^ (20 : Int).toNat ≠ 0 := by decide +kernel
    generalize (10 : Int) ^ (20 : Int).toNat = TT at ep hT0
    have ep : H2 pd = some (.lst [.int (ra % 14), .int (ra / 14 % 60), .int (ra / 14 / 60 % 9), .int (ra / 14 / 60 / 9 % TT), .int (ra / 14 / 60 / 9 / TT % 40)]) := ep
    exact ⟨pd, _, rfl, .inl (.inl ep), rfl, _, _, rfl, _, _, rfl, _, _, rfl, _, _, rfl, _, _, rfl, rfl, _, _, _, _, _, rfl, u1.trans u2, Int.emod_nonneg _ (by omega), Int.emod_lt_of_pos _ (by omega), Int.emod_nonneg _ (by omega), Int.emod_nonneg _ (by omega), Int.emod_lt_of_pos _ (by omega), Int.emod_nonneg _ hT0⟩
  rintro σ' H1 ⟨kd, pk, od, rw_, kn, rfl, u1, kd0, kd1, pk0, kn0, kn1, rw0⟩
  -- a saying
  refine ⟨fun σ' H2 => ∃ (p1 p2 p3 : Int) (tb : Bool), σ' = [some (.ref a), some (.int k), some (.ref t), some (.int s_.size), some (.int s_.coming), some (.ref la), some (.ref lb), some (.int kd), some (.int pk), some (.int od), some (.int rw_), some (.int kn), some (.int p1), some (.int p2), some (.int p3), some (.bl tb), none, none, none] ∧ Same H' H2, ?_, ?_⟩
  · refine ⟨.ref a, rfl, .int k, rfl, .int s_.size, rfl, 1, s_.size, rfl, a, ns, k, _, rfl, u1.seq hS, h63, ?_, ?_, fun H2 v y u2 iy gy => ?_⟩
    · split <;> omega
    · have := we.2
      split <;> omega
    · obtain ⟨ty, rfl, hy⟩ := iy
      exact ⟨ty, _, rfl, .inl (.inl hy), rfl, _, _, rfl, _, _, rfl, _, _, rfl, _, _, rfl, rfl, _, _, _, _, rfl, u1.trans u2⟩
  rintro σ' H2 ⟨p1, p2, p3, tb, rfl, u2⟩
  clear u1
  -- spoilt
  refine ⟨fun σ' H3 => ∃ (p1 p2 p3 : Int), σ' = [some (.ref a), some (.int k), some (.ref t), some (.int s_.size), some (.int s_.coming), some (.ref la), some (.ref lb), some (.int kd), some (.int pk), some (.int od), some (.int rw_), some (.int kn), some (.int p1), some (.int p2), some (.int p3), some (.bl tb), none, none, none] ∧ Same H' H3, ?_, ?_⟩
  · refine ⟨.int od, rfl, rfl, _, rfl, ite2 (fun c => ?_) (fun c => ⟨p1, p2, p3, rfl, u2⟩)⟩
    clear c
    refine ⟨.int p1, rfl, .int s_.size, rfl, _, _, rfl, rfl, .int p2, rfl, .int p3, rfl, ?_⟩
    refine ⟨szN 3 rfl, fun t1 n_t1 => ?_⟩
    generalize e_t1 : upd H2 t1 _ = G1
    have v1 := new_same e_t1 n_t1
    have w1 := new_at e_t1
    clear e_t1
    refine ⟨.int p1, rfl, 1, rfl, .int rw_, rfl, _, 9, rfl, rfl, (by show (0 : Int) < 9; decide), _, _, rfl, rfl, .int p3, rfl, ?_⟩
    refine ⟨szN 3 rfl, fun t2 n_t2 => ?_⟩
    generalize e_t2 : upd G1 t2 _ = G2
    have v2 := new_same e_t2 n_t2
    have w2 := new_at e_t2
    clear e_t2
    refine ⟨.int p1, rfl, .int p2, rfl, ?_⟩
    refine ⟨szN 3 rfl, fun t3 n_t3 => ?_⟩
    generalize e_t3 : upd G2 t3 _ = G3
    have v3 := new_same e_t3 n_t3
    have w3 := new_at e_t3
    clear e_t3
    refine ⟨.int p1, rfl, .int s_.size, rfl, .int p3, rfl, _, _, rfl, rfl, _, _, rfl, rfl, .int p3, rfl, ?_⟩
    refine ⟨szN 3 rfl, fun t4 n_t4 => ?_⟩
    generalize e_t4 : upd G3 t4 _ = G4
    have v4 := new_same e_t4 n_t4
    have w4 := new_at e_t4
    clear e_t4
    refine ⟨.int p1, rfl, .int p2, rfl, .int s_.size, rfl, _, _, rfl, rfl, .int rw_, rfl, _, _, rfl, rfl, ?_⟩
    refine ⟨szN 3 rfl, fun t5 n_t5 => ?_⟩
    generalize e_t5 : upd G4 t5 _ = G5
    have v5 := new_same e_t5 n_t5
    have w5 := new_at e_t5
    clear e_t5
    refine ⟨szN 5 rfl, fun l5 n_l5 => ?_⟩
    generalize e_l5 : upd G5 l5 _ = G6
    have v6 := new_same e_l5 n_l5
    have w6 := new_at e_l5
    clear e_l5
    have x4 := (v5.trans v6) _ _ w4
    have x3 := (v4.trans (v5.trans v6)) _ _ w3
    have x2 := (v3.trans (v4.trans (v5.trans v6))) _ _ w2
    have x1 := (v2.trans (v3.trans (v4.trans (v5.trans v6)))) _ _ w1
    have x5 := v6 _ _ w5
    obtain ⟨v, hv, hat⟩ := at_any (xs := [V.ref t1, .ref t2, .ref t3, .ref t4, .ref t5]) (n := 5) (j := pk % 5) rfl (Int.emod_nonneg _ (by omega)) (Int.emod_lt_of_pos _ (by omega))
    obtain ⟨tx, y1, y2, y3, rfl, hx⟩ : ∃ (tx : Addr) (y1 y2 y3 : Int), v = .ref tx ∧ G6 tx = some (.tup [.int y1, .int y2, .int y3]) := by
      simp only [List.mem_cons, List.not_mem_nil, or_false] at hv
      rcases hv with rfl | rfl | rfl | rfl | rfl
      · exact ⟨_, _, _, _, rfl, x1⟩
      · exact ⟨_, _, _, _, rfl, x2⟩
      · exact ⟨_, _, _, _, rfl, x3⟩
      · exact ⟨_, _, _, _, rfl, x4⟩
      · exact ⟨_, _, _, _, rfl, x5⟩
    exact ⟨.int pk, rfl, _, 5, rfl, rfl, (by show (0 : Int) < 5; decide), l5, _, _, .ref tx, rfl, rfl, .inl (.inl w6), hat, tx, _, rfl, .inl (.inl hx), rfl, _, _, rfl, _, _, rfl, _, _, rfl, rfl, y1, y2, y3, rfl, u2.trans (v1.trans (v2.trans (v3.trans (v4.trans (v5.trans v6)))))⟩
  clear p1 p2 p3
  rintro σ' H3 ⟨p1, p2, p3, rfl, u3⟩
  clear u2
  -- a letter
  refine ⟨fun σ' H4 => ∃ (z : Str), σ' = [some (.ref a), some (.int k), some (.ref t), some (.int s_.size), some (.int s_.coming), some (.ref la), some (.ref lb), some (.int kd), some (.int pk), some (.int od), some (.int rw_), some (.int kn), some (.int p1), some (.int p2), some (.int p3), some (.bl tb), some (.str z), none, none] ∧ H4 = H3 ∧ (z.length ≤ 1000 ∧ 32 ∉ z.cps.toList), ?_, ?_⟩
  · refine ⟨.int rw_, rfl, _, 3, rfl, rfl, (by show (0 : Int) < 3; decide), _, _, rfl, rfl, .inr ⟨by decide, by decide⟩, .int kn, rfl, _, 2, rfl, rfl, (by show (0 : Int) < 2; decide), _, _, rfl, rfl, _, rfl, fun z hz => ⟨z, rfl, rfl, by rw [hz.len]; decide, by obtain ⟨c, rfl, c1, c2⟩ := hz; intro h; have h : (32 : Nat) ∈ [c] := h; simp only [List.mem_singleton] at h; omega⟩⟩
  rintro σ' H4 ⟨z0, rfl, eH, hz0⟩
  subst eH
  refine ⟨fun σ' H5 => ∃ (z : Str), σ' = [some (.ref a), some (.int k), some (.ref t), some (.int s_.size), some (.int s_.coming), some (.ref la), some (.ref lb), some (.int kd), some (.int pk), some (.int od), some (.int rw_), some (.int kn), some (.int p1), some (.int p2), some (.int p3), some (.bl tb), some (.str z), none, none] ∧ Same H' H5 ∧ (z.length ≤ 1000 ∧ 32 ∉ z.cps.toList), ?_, ?_⟩
  · refine ⟨.int kn, rfl, _, _, rfl, rfl, _, rfl, ite2 (fun c => ?_) (fun c => ⟨z0, rfl, u3, hz0⟩)⟩
    have c : (34 : Int) < kn := of_decide_eq_true c
    refine ⟨szN 5 rfl, fun l5 n_l5 => ?_⟩
    generalize e_l5 : upd H4 l5 _ = G6
    have v6 := new_same e_l5 n_l5
    have w6 := new_at e_l5
    clear e_l5
    obtain ⟨v, hv, hat⟩ := at_any (xs := [V.str "", .str "ab", .str "A", .str "-", .str "z"]) (n := 5) (j := kn - 35) rfl (by omega) (by omega)
    obtain ⟨z, rfl, hz⟩ : ∃ z : Str, v = .str z ∧ (z.length ≤ 1000 ∧ 32 ∉ z.cps.toList) := by
      simp only [List.mem_cons, List.not_mem_nil, or_false] at hv
      rcases hv with rfl | rfl | rfl | rfl | rfl <;> exact ⟨_, rfl, by decide +kernel, by decide +kernel⟩
    exact ⟨.int kn, rfl, _, _, rfl, rfl, l5, _, _, .str z, rfl, rfl, .inl (.inl w6), hat, z, rfl, u3.trans v6, hz⟩
  clear hz0 z0
  rintro σ' H5 ⟨z, rfl, u5, hz⟩
  clear u3
  -- rows
  refine ⟨fun σ' H6 => ∃ (ro : Addr), σ' = [some (.ref a), some (.int k), some (.ref t), some (.int s_.size), some (.int s_.coming), some (.ref la), some (.ref lb), some (.int kd), some (.int pk), some (.int od), some (.int rw_), some (.int kn), some (.int p1), some (.int p2), some (.int p3), some (.bl tb), some (.str z), some (.ref ro), none] ∧ Same H' H6 ∧ (ro = la ∨ ro = lb), ?_, ?_⟩
  · refine ⟨.ref la, rfl, .ref lb, rfl, ?_⟩
    refine ⟨szN 2 rfl, fun l5 n_l5 => ?_⟩
    generalize e_l5 : upd H5 l5 _ = G6
    have v6 := new_same e_l5 n_l5
    have w6 := new_at e_l5
    clear e_l5
    refine ⟨.int kd, rfl, rfl, .int od, rfl, rfl, rfl, .inr ⟨_, rfl, ?_⟩⟩
    generalize (!decide (V.bl (decide (V.int kd = V.int 8)) = V.bl (decide (V.int od = V.int 1)))) = bb
    cases bb with
    | false => exact ⟨l5, _, _, .ref la, rfl, rfl, .inl (.inl w6), rfl, la, rfl, u5.trans v6, .inl rfl⟩
    | true => exact ⟨l5, _, _, .ref lb, rfl, rfl, .inl (.inl w6), rfl, lb, rfl, u5.trans v6, .inr rfl⟩
  rintro σ' H6 ⟨ro, rfl, u6, hro⟩
  clear u5
  -- a number
  refine ⟨fun σ' H7 => ∃ (nb : Int), σ' = [some (.ref a), some (.int k), some (.ref t), some (.int s_.size), some (.int s_.coming), some (.ref la), some (.ref lb), some (.int kd), some (.int pk), some (.int od), some (.int rw_), some (.int kn), some (.int p1), some (.int p2), some (.int p3), some (.bl tb), some (.str z), some (.ref ro), some (.int nb)] ∧ Same H' H7, ?_, ?_⟩
  · refine ⟨.int s_.coming, rfl, .int s_.coming, rfl, _, _, rfl, rfl, 1, rfl, ?_⟩
    refine ⟨szN 4 rfl, fun l5 n_l5 => ?_⟩
    generalize e_l5 : upd H6 l5 _ = G6
    have v6 := new_same e_l5 n_l5
    have w6 := new_at e_l5
    clear e_l5
    obtain ⟨v, hv, hat⟩ := at_any (xs := [V.int 0, .int s_.coming, .int (s_.coming + 7), .int (-1)]) (n := 4) (j := pk % 4) rfl (Int.emod_nonneg _ (by omega)) (Int.emod_lt_of_pos _ (by omega))
    obtain ⟨nb, rfl⟩ : ∃ nb : Int, v = .int nb := by
      simp only [List.mem_cons, List.not_mem_nil, or_false] at hv
      rcases hv with rfl | rfl | rfl | rfl <;> exact ⟨_, rfl⟩
    exact ⟨.int pk, rfl, _, 4, rfl, rfl, (by show (0 : Int) < 4; decide), l5, _, _, .int nb, rfl, rfl, .inl (.inl w6), hat, nb, rfl, u6.trans v6⟩
  rintro σ' H7 ⟨nb0, rfl, u7⟩
  clear u6
  refine ⟨fun σ' H8 => ∃ (nb : Int), σ' = [some (.ref a), some (.int k), some (.ref t), some (.int s_.size), some (.int s_.coming), some (.ref la), some (.ref lb), some (.int kd), some (.int pk), some (.int od), some (.int rw_), some (.int kn), some (.int p1), some (.int p2), some (.int p3), some (.bl tb), some (.str z), some (.ref ro), some (.int nb)] ∧ Same H' H8, ?_, ?_⟩
  · rcases hro with rfl | rfl
    · refine ⟨.ref ro, rfl, ?_⟩
      refine ⟨szN 0 rfl, fun l0 n_l0 => ?_⟩
      generalize e_l0 : upd H7 l0 _ = G1
      have v1 := new_same e_l0 n_l0
      have w1 := new_at e_l0
      clear e_l0
      have u71 := u7.trans v1
      have rl := RL.ts (TS.of u71) h4
      have er := u71 _ _ h3
      refine ⟨_, .list [], .lst (.inl (.inl er)) (dpAll_rw rl), .lst (.inl (.inl w1)) .nil, shapedRw _, by decide +kernel, _, rfl, ?_⟩
      rw [eqv_nilL, List.isEmpty_map]
      by_cases c : s_.said = []
      · rw [show (s_.said).isEmpty = true from by rw [c]; rfl]
        exact iteF (iteF ⟨nb0, rfl, u71⟩)
      rw [show (s_.said).isEmpty = false from by rw [Bool.eq_false_iff]; exact fun z => c (List.isEmpty_iff.mp z)]
      refine iteT ?_
      have pos : 0 < (xs.length : Int) := by
        have h1 := rl.len
        have h2 := List.length_pos_iff.mpr c
        omega
      refine ⟨.int pk, rfl, _, 4, rfl, rfl, ⟨by decide, by decide⟩, _, 4, rfl, rfl, (by show (0 : Int) < 4; decide), _, _, rfl, rfl, _, rfl, ite2 (fun _ => ?_) (fun _ => ⟨nb0, rfl, u71⟩)⟩
      obtain ⟨v, hv, hat⟩ := at_any (xs := xs) (n := xs.length) (j := pk % xs.length) rfl (Int.emod_nonneg _ (by omega)) (Int.emod_lt_of_pos _ pos)
      obtain ⟨m, _, tr, rfl, htr⟩ := rl.mem hv
      exact ⟨.ref ro, rfl, .int pk, rfl, .ref ro, rfl, ro, xs, rfl, .inl (.inl (.inl er)), _, _, rfl, rfl, pos, ro, xs, _, .ref tr, rfl, rfl, .inl (.inl er), hat, tr, _, _, .int m.num, rfl, rfl, .inl (.inl htr), rfl, m.num, rfl, u71⟩
    · refine ⟨.ref ro, rfl, ?_⟩
      refine ⟨szN 0 rfl, fun l0 n_l0 => ?_⟩
      generalize e_l0 : upd H7 l0 _ = G1
      have v1 := new_same e_l0 n_l0
      have w1 := new_at e_l0
      clear e_l0
      have u71 := u7.trans v1
      have rl := ML.ts (TS.of u71) h6
      have er := u71 _ _ h5
      refine ⟨_, .list [], .lst (.inl (.inl er)) (dpAll_me' rl), .lst (.inl (.inl w1)) .nil, shapedMe wf.lt, by decide +kernel, _, rfl, ?_⟩
      rw [eqv_nilL, List.isEmpty_map]
      by_cases c : s_.noted = []
      · rw [show (s_.noted).isEmpty = true from by rw [c]; rfl]
        exact iteF (iteF ⟨nb0, rfl, u71⟩)
      rw [show (s_.noted).isEmpty = false from by rw [Bool.eq_false_iff]; exact fun z => c (List.isEmpty_iff.mp z)]
      refine iteT ?_
      have pos : 0 < (ys.length : Int) := by
        have h1 := rl.len
        have h2 := List.length_pos_iff.mpr c
        omega
      refine ⟨.int pk, rfl, _, 4, rfl, rfl, ⟨by decide, by decide⟩, _, 4, rfl, rfl, (by show (0 : Int) < 4; decide), _, _, rfl, rfl, _, rfl, ite2 (fun _ => ?_) (fun _ => ⟨nb0, rfl, u71⟩)⟩
      obtain ⟨v, hv, hat⟩ := at_any (xs := ys) (n := ys.length) (j := pk % ys.length) rfl (Int.emod_nonneg _ (by omega)) (Int.emod_lt_of_pos _ pos)
      obtain ⟨m, _, tr, rfl, htr⟩ := rl.mem hv
      exact ⟨.ref ro, rfl, .int pk, rfl, .ref ro, rfl, ro, ys, rfl, .inl (.inl (.inl er)), _, _, rfl, rfl, pos, ro, ys, _, .ref tr, rfl, rfl, .inl (.inl er), hat, tr, _, _, .int m.num, rfl, rfl, .inl (.inl htr), rfl, m.num, rfl, u71⟩
  clear nb0
  rintro σ' H8 ⟨nb, rfl, u8⟩
  clear u7
  refine ⟨.int kd, rfl, _, _, rfl, rfl, _, rfl, ite2 (fun _ => ?_) (fun c1 => ?_)⟩
  · refine ⟨.int p1, rfl, .int p2, rfl, .int p3, rfl, .bl tb, rfl, ?_⟩
    refine ⟨szN 5 rfl, fun tr n_tr => ?_⟩
    generalize e_tr : upd H8 tr _ = H9
    have u9 := new_same e_tr n_tr
    have z9 := new_at e_tr
    clear e_tr
    exact q H9 (.ref tr) (.dd (.say ⟨p1, p2, p3, tb⟩)) (u8.trans u9) ⟨tr, rfl, z9⟩ trivial trivial trivial
  have c1 : ¬ kd < 4 := fun z => c1 (decide_eq_true z)
  refine ⟨.int kd, rfl, rfl, _, rfl, ite2 (fun _ => ?_) (fun c2 => ?_)⟩
  · refine ⟨.int nb, rfl, ?_⟩
    refine ⟨szN 2 rfl, fun tr n_tr => ?_⟩
    generalize e_tr : upd H8 tr _ = H9
    have u9 := new_same e_tr n_tr
    have z9 := new_at e_tr
    clear e_tr
    exact q H9 (.ref tr) (.dd (.unsay nb)) (u8.trans u9) ⟨tr, rfl, z9⟩ trivial trivial trivial
  have c2 : ¬ kd = 4 := fun z => c2 (decide_eq_true (by rw [z]))
  refine ⟨.int kd, rfl, rfl, _, rfl, ite2 (fun _ => ?_) (fun c3 => ?_)⟩
  · refine ⟨.int nb, rfl, .int p1, rfl, .int p2, rfl, .int p3, rfl, .bl tb, rfl, ?_⟩
    refine ⟨szN 6 rfl, fun tr n_tr => ?_⟩
    generalize e_tr : upd H8 tr _ = H9
    have u9 := new_same e_tr n_tr
    have z9 := new_at e_tr
    clear e_tr
    exact q H9 (.ref tr) (.dd (.amend nb ⟨p1, p2, p3, tb⟩)) (u8.trans u9) ⟨tr, rfl, z9⟩ trivial trivial trivial
  have c3 : ¬ kd = 5 := fun z => c3 (decide_eq_true (by rw [z]))
  refine ⟨.int kd, rfl, _, _, rfl, rfl, _, rfl, ite2 (fun _ => ?_) (fun c4 => ?_)⟩
  · refine ⟨.str z, rfl, .int p2, rfl, .int p3, rfl, ?_⟩
    refine ⟨szN 4 rfl, fun tr n_tr => ?_⟩
    generalize e_tr : upd H8 tr _ = H9
    have u9 := new_same e_tr n_tr
    have z9 := new_at e_tr
    clear e_tr
    exact q H9 (.ref tr) (.dd (.rem z p2 p3)) (u8.trans u9) ⟨tr, rfl, z9⟩ hz.1 hz.2 trivial
  have c4 : ¬ kd < 8 := fun z => c4 (decide_eq_true z)
  refine ⟨.int kd, rfl, rfl, _, rfl, ite2 (fun _ => ?_) (fun c5 => ?_)⟩
  · refine ⟨.int nb, rfl, ?_⟩
    refine ⟨szN 2 rfl, fun tr n_tr => ?_⟩
    generalize e_tr : upd H8 tr _ = H9
    have u9 := new_same e_tr n_tr
    have z9 := new_at e_tr
    clear e_tr
    exact q H9 (.ref tr) (.dd (.forget nb)) (u8.trans u9) ⟨tr, rfl, z9⟩ trivial trivial trivial
  have c5 : ¬ kd = 8 := fun z => c5 (decide_eq_true (by rw [z]))
  refine ⟨.int kd, rfl, rfl, _, rfl, ite2 (fun _ => ?_) (fun c6 => ?_)⟩
  · refine ⟨.int rw_, rfl, _, 9, rfl, rfl, (by show (0 : Int) < 9; decide), _, _, rfl, rfl, .int rw_, rfl, _, 3, rfl, rfl, (by show (0 : Int) < 3; decide), _, _, rfl, rfl, .int rw_, rfl, _, 5, rfl, rfl, (by show (0 : Int) < 5; decide), _, _, rfl, rfl, 1, rfl, .int rw_, rfl, _, _, rfl, rfl, 10, 40, rfl, rfl, p40, .int s_.size, rfl, _, _, rfl, rfl, ?_⟩
    refine ⟨szN 6 rfl, fun l6 n_l6 => ?_⟩
    generalize e_l6 : upd H8 l6 _ = G9
    have v9 := new_same e_l6 n_l6
    have w9 := new_at e_l6
    clear e_l6
    have eT : (10 : Int) ^ (40 : Int).toNat = 10 ^ 40 := rfl
    generalize (10 : Int) ^ (40 : Int).toNat = TT at w9 eT
    obtain ⟨v, hv, hat⟩ := at_any (xs := [V.int (1 + rw_ % 9), .int (1 + rw_ % 3), .int (1 + rw_ % 5), .int 0, .int (-1 - rw_), .int (TT - s_.size)]) (n := 6) (j := pk % 6) rfl (Int.emod_nonneg _ (by omega)) (Int.emod_lt_of_pos _ (by omega))
    obtain ⟨m, rfl, fw⟩ : ∃ m : Int, v = .int m ∧ (m ≤ 9 ∨ 10 ^ 40 ≤ s_.size + m) := by
      simp only [List.mem_cons, List.not_mem_nil, or_false] at hv
      rcases hv with rfl | rfl | rfl | rfl | rfl | rfl
      · exact ⟨_, rfl, .inl (by omega)⟩
      · exact ⟨_, rfl, .inl (by omega)⟩
      · exact ⟨_, rfl, .inl (by omega)⟩
      · exact ⟨_, rfl, .inl (by omega)⟩
      · exact ⟨_, rfl, .inl (by omega)⟩
      · exact ⟨_, rfl, .inr (by rw [← eT]; omega)⟩
    refine ⟨.int pk, rfl, _, 6, rfl, rfl, (by show (0 : Int) < 6; decide), l6, _, _, .int m, rfl, rfl, .inl (.inl w9), hat, ?_⟩
    refine ⟨szN 2 rfl, fun tr n_tr => ?_⟩
    generalize e_tr : upd G9 tr _ = H9
    have u9 := new_same e_tr n_tr
    have z9 := new_at e_tr
    clear e_tr
    exact q H9 (.ref tr) (.dd (.longer m)) (u8.trans (v9.trans u9)) ⟨tr, rfl, z9⟩ trivial trivial fw
  have c6 : ¬ kd = 9 := fun z => c6 (decide_eq_true (by rw [z]))
  refine ⟨.int kd, rfl, rfl, _, rfl, ite2 (fun _ => ?_) (fun c7 => ?_)⟩
  · refine ⟨.int rw_, rfl, _, 5, rfl, rfl, (by show (0 : Int) < 5; decide), _, _, rfl, rfl, .int rw_, rfl, _, 3, rfl, rfl, (by show (0 : Int) < 3; decide), _, _, rfl, rfl, .int s_.size, rfl, .int s_.size, rfl, _, _, rfl, rfl, .int rw_, rfl, _, _, rfl, rfl, .int rw_, rfl, _, _, rfl, rfl, ?_⟩
    refine ⟨szN 6 rfl, fun l6 n_l6 => ?_⟩
    generalize e_l6 : upd H8 l6 _ = G9
    have v9 := new_same e_l6 n_l6
    have w9 := new_at e_l6
    clear e_l6
    obtain ⟨v, hv, hat⟩ := at_any (xs := [V.int (1 + rw_ % 5), .int (1 + rw_ % 3), .int s_.size, .int (s_.size + 1 + rw_), .int 0, .int (0 - rw_)]) (n := 6) (j := pk % 6) rfl (Int.emod_nonneg _ (by omega)) (Int.emod_lt_of_pos _ (by omega))
    obtain ⟨m, rfl⟩ : ∃ m : Int, v = .int m := by
      simp only [List.mem_cons, List.not_mem_nil, or_false] at hv
      rcases hv with rfl | rfl | rfl | rfl | rfl | rfl <;> exact ⟨_, rfl⟩
    refine ⟨.int pk, rfl, _, 6, rfl, rfl, (by show (0 : Int) < 6; decide), l6, _, _, .int m, rfl, rfl, .inl (.inl w9), hat, ?_⟩
    refine ⟨szN 2 rfl, fun tr n_tr => ?_⟩
    generalize e_tr : upd G9 tr _ = H9
    have u9 := new_same e_tr n_tr
    have z9 := new_at e_tr
    clear e_tr
    exact q H9 (.ref tr) (.dd (.shorter m)) (u8.trans (v9.trans u9)) ⟨tr, rfl, z9⟩ trivial trivial trivial
  have c7 : ¬ kd = 10 := fun z => c7 (decide_eq_true (by rw [z]))
  refine ⟨szN 3 rfl, fun l6 n_l6 => ?_⟩
  generalize e_l6 : upd H8 l6 _ = G9
  have v9 := new_same e_l6 n_l6
  have w9 := new_at e_l6
  clear e_l6
  obtain ⟨v, hv, hat⟩ := at_any (xs := [V.str "undo", .str "undo", .str "redo"]) (n := 3) (j := kd - 11) rfl (by omega) (by omega)
  obtain ⟨de, ed, ok, nb_, fw⟩ : ∃ de : De, deV de = [v] ∧ deOk de ∧ deNb de ∧ Few s_ de := by
    simp only [List.mem_cons, List.not_mem_nil, or_false] at hv
    rcases hv with rfl | rfl | rfl
    · exact ⟨.undo, rfl, trivial, trivial, trivial⟩
    · exact ⟨.undo, rfl, trivial, trivial, trivial⟩
    · exact ⟨.redo, rfl, trivial, trivial, trivial⟩
  refine ⟨.int kd, rfl, _, _, rfl, rfl, l6, _, _, v, rfl, rfl, .inl (.inl w9), hat, ?_⟩
  refine ⟨szN 1 rfl, fun tr n_tr => ?_⟩
  generalize e_tr : upd G9 tr _ = H9
  have u9 := new_same e_tr n_tr
  have z9 := new_at e_tr
  clear e_tr
  exact q H9 (.ref tr) de (u8.trans (v9.trans u9)) ⟨tr, rfl, by rw [ed]; exact z9⟩ ok nb_ fw
end
end Rep
namespace Rep
open PySem L2 L2H RepHot
/-! two desks, and one model -/
/-- but for a book and its model all stays -/
def FrD (b m pa aa : Addr) (H H' : Hp) : Prop := ∀ c o, H c = some o → c ≠ b → c ≠ m → c ≠ pa → c ≠ aa → H' c = some o
theorem Kp.wide {S : Addr} {N M : Addr → Prop} {H H' : Hp} (k : Kp S N H H') (w : ∀ a, N a → M a) : Kp S M H H' := fun c o e own => k c o e (by
  cases o <;> first | exact own | exact fun z => own (w _ z))
theorem Duo.kp {X : Addr → Prop} {BK S C b m pa aa : Addr} {H H' : Hp} {past ahead : List Sht} {now : Sht} {sv nv : V} (duo : Duo X BK S H b m pa aa past now ahead sv nv) (fr : FrD b m pa aa H H') (n : C ≠ BK) : Kp C (Nn X pa aa) H H' := fun c o e w => by
  obtain ⟨tv, ps, as, h1, h2, h3, h4, h5, h6, h7⟩ := duo.md.ex
  obtain ⟨dxb, lb_, vsb, g1, _⟩ := duo.bk.ex
  refine fr c o e (fun z => ?_) (fun z => ?_) (fun z => ?_) (fun z => ?_)
  · subst z; rw [g1] at e; cases e; exact n (Eq.symm w)
  · subst z; rw [h1] at e; cases e; exact w
  · subst z; rw [h3] at e; cases e; exact w (.inl rfl)
  · subst z; rw [h5] at e; cases e; exact w (.inr (.inl rfl))
/-- what is none of the lists of old is none of the new ones -/
theorem nn_more {X : Addr → Prop} {pa aa aa' : Addr} {H : Hp} (ha : aa' = aa ∨ H aa' = none) : ∀ a us, (Nn X pa aa a ∨ a = aa') → H a = some (HO.lst us) → Nn X pa aa a := fun a us z e => z.elim id fun y => ha.elim (fun w => .inr (.inl (y.trans w))) fun w => by rw [y, w] at e; cases e
theorem nn_less {X : Addr → Prop} {pa aa aa' : Addr} {H : Hp} : ∀ a us, Nn X pa aa' a → H a = some (HO.lst us) → (Nn X pa aa a ∨ a = aa') := fun a us z _ => by
  rcases z with z | z | z
  · exact .inl (.inl z)
  · exact .inr z
  · exact .inl (.inr (.inr z))
/-- book and model behind a deed done in both -/
theorem duo_met {X : Addr → Prop} {BK S b m pa aa aa' : Addr} {H H1 H2 : Hp} {past ahead : List Sht} {now : Sht} {sv nv sv' nv' : V} {r : Res} (duo : Duo X BK S H b m pa aa past now ahead sv nv) (sm : Sam b H H1) (bk1 : BkAt BK S (Nn X pa aa) H1 b (stsOf (resB past now ahead r)) (resB past now ahead r).1.length sv' nv') (f2 : FrM m pa aa H1 H2) (aa2 : ∃ us, H2 aa = some (.lst us)) (ha : aa' = aa ∨ H1 aa' = none) (md2 : MdAt X pa aa' H2 m (resB past now ahead r).1 (resB past now ahead r).2.1 (resB past now ahead r).2.2) :
    Kin H H2 ∧ FrD b m pa aa H H2 ∧ (aa' = aa ∨ H aa' = none) ∧ Duo X BK S H2 b m pa aa' (resB past now ahead r).1 (resB past now ahead r).2.1 (resB past now ahead r).2.2 sv' nv' := by
  obtain ⟨dx, l, vs, g1, _⟩ := duo.bk.ex
  have md1 := duo.md.sam sm g1
  have kin1 : Kin H H1 := fun c us e => ⟨us, sm c _ e (fun z => by rw [z, g1] at e; cases e)⟩
  have bk2 := bk1.frm md1 f2 ha
  obtain ⟨tv, ps, as, h1, h2, h3, h4, h5, h6, h7⟩ := md1.ex
  have kin2 : Kin H1 H2 := fun c us e => by
    by_cases y1 : c = pa
    · subst y1
      obtain ⟨_, ps2, _, _, _, e2, _⟩ := md2.ex
      exact ⟨ps2, e2⟩
    by_cases y2 : c = aa
    · subst y2; exact aa2
    exact ⟨us, f2 c _ e (fun z => by rw [z, h1] at e; cases e) y1 y2⟩
  refine ⟨kin1.trans kin2, fun c o e n1 n2 n3 n4 => f2 c o (sm c o e n1) n2 n3 n4, ha.imp id fun e => ?_, bk2, md2⟩
  cases e0 : H aa' with
  | none => rfl
  | some o =>
    exfalso
    obtain ⟨dx1, l1, vs1, g2, _⟩ := bk1.ex
    by_cases z : aa' = b
    · rw [z, g2] at e; cases e
    · rw [sm _ _ e0 z] at e; cases e
/-- the model first, then the book -/
theorem duo_tem {X : Addr → Prop} {BK S b m pa aa aa' : Addr} {H H1 HA H2 : Hp} {past ahead : List Sht} {now : Sht} {sv nv sv' nv' : V} {r : Res} (duo : Duo X BK S H b m pa aa past now ahead sv nv) (f1 : FrM m pa aa H H1) (aa1 : ∃ us, H1 aa = some (.lst us)) (ha : aa' = aa ∨ H aa' = none) (md1 : MdAt X pa aa' H1 m (resB past now ahead r).1 (resB past now ahead r).2.1 (resB past now ahead r).2.2) (u : Same H1 HA) (sm : Sam b HA H2) (bk2 : BkAt BK S (Nn X pa aa') H2 b (stsOf (resB past now ahead r)) (resB past now ahead r).1.length sv' nv') :
    Kin H H2 ∧ FrD b m pa aa H H2 ∧ Duo X BK S H2 b m pa aa' (resB past now ahead r).1 (resB past now ahead r).2.1 (resB past now ahead r).2.2 sv' nv' := by
  have bk1 := duo.bk.frm duo.md f1 ha
  obtain ⟨dx, l, vs, g1, _⟩ := bk1.ex
  have gA := u _ _ g1
  obtain ⟨tv, ps, as, h1, h2, h3, h4, h5, h6, h7⟩ := duo.md.ex
  have kin1 : Kin H H1 := fun c us e => by
    by_cases y1 : c = pa
    · subst y1
      obtain ⟨_, ps2, _, _, _, e2, _⟩ := md1.ex
      exact ⟨ps2, e2⟩
    by_cases y2 : c = aa
    · subst y2; exact aa1
    exact ⟨us, f1 c _ e (fun z => by rw [z, h1] at e; cases e) y1 y2⟩
  have kin2 : Kin H1 H2 := fun c us e => ⟨us, sm c _ (u _ _ e) (fun z => by rw [z, g1] at e; cases e)⟩
  exact ⟨kin1.trans kin2, fun c o e n1 n2 n3 n4 => sm c o (u _ _ (f1 c o e n2 n3 n4)) n1, bk2, (md1.same u).sam sm gA⟩
/-- another book stays -/
theorem BkAt.frd {X : Addr → Prop} {BK S b b2 m pa aa aa' : Addr} {H H' : Hp} {past ahead : List Sht} {now : Sht} {sv nv sv2 nv2 : V} {sts : List Sht} {here : Nat} (h : BkAt BK S (Nn X pa aa) H b2 sts here sv2 nv2) (duo : Duo X BK S H b m pa aa past now ahead sv nv) (fr : FrD b m pa aa H H') (ha : aa' = aa ∨ H aa' = none) (n : S ≠ BK) (nb : b2 ≠ b) : BkAt BK S (Nn X pa aa') H' b2 sts here sv2 nv2 := by
  obtain ⟨tv, ps, as, h1, h2, h3, h4, h5, h6, h7⟩ := duo.md.ex
  obtain ⟨dx2, l2, vs2, g2, _⟩ := h.ex
  refine (((h.more (nn_more ha)).kp ((duo.kp (C := S) fr n).wide fun _ z => .inl z) fun o e => fr b2 o e nb (fun z => by rw [z, h1] at g2; cases g2) (fun z => by rw [z, h3] at g2; cases g2) (fun z => by rw [z, h5] at g2; cases g2))).more nn_less
/-- a desk through what is done with a book and the model -/
theorem DkAt.frg {X : Addr → Prop} {DK BK S d c b m pa aa : Addr} {H H' : Hp} {past ahead : List Sht} {now : Sht} {sv nv : V} (h : DkAt DK H d c) (duo : Duo X BK S H b m pa aa past now ahead sv nv) (fr : FrD b m pa aa H H') (ne : DK ≠ BK) : DkAt DK H' d c := by
  obtain ⟨dx, e⟩ := h
  obtain ⟨tv, ps, as, h1, h2, h3, h4, h5, h6, h7⟩ := duo.md.ex
  obtain ⟨dxb, lb_, vsb, g1, _⟩ := duo.bk.ex
  refine ⟨dx, fr d _ e (fun z => ?_) (fun z => ?_) (fun z => ?_) (fun z => ?_)⟩
  · rw [z, g1] at e; cases e
  · rw [z, h1] at e; cases e
  · rw [z, h3] at e; cases e
  · rw [z, h5] at e; cases e
structure Ng (j : Int) (s : Sht) : Prop where
  c0 : 1 ≤ s.coming
  c1 : s.coming ≤ 1 + j
  nn : ∀ m ∈ s.noted, 0 ≤ m.num
  ns : ∀ r ∈ s.said, 0 ≤ r.num
theorem Ng.mono {j j' : Int} {s : Sht} (h : Ng j s) (k : j ≤ j') : Ng j' s := ⟨h.c0, by have := h.c1; omega, h.nn, h.ns⟩
theorem Ng.step {j : Int} {s s' : Sht} {d : Dd} {o : Option Int} (w : Ng j s) (h : Stp s d (.inr (o, s'))) : Ng (j + 1) s' := by
  have c0 := w.c0
  have c1 := w.c1
  cases d with
  | say y =>
    rcases h with ⟨h1, h2, h⟩ | ⟨_, _, h⟩ | ⟨_, h⟩ <;> cases h
    refine ⟨by show 1 ≤ s.coming + 1; omega, by show s.coming + 1 ≤ 1 + (j + 1); omega, w.nn, fun r hr => ?_⟩
    rcases List.mem_append.mp hr with hr | hr
    · exact w.ns r hr
    · rw [List.mem_singleton.mp hr]; show 0 ≤ s.coming; omega
  | unsay n =>
    rcases h with ⟨k, h1, h⟩ | ⟨_, h⟩ <;> cases h
    exact ⟨c0, by show s.coming ≤ 1 + (j + 1); omega, w.nn, fun r hr => w.ns r (List.mem_of_mem_eraseIdx hr)⟩
  | amend n y =>
    rcases h with ⟨k, h1, h2, h⟩ | ⟨_, _, _, h⟩ | ⟨_, h⟩ <;> cases h
    refine ⟨c0, by show s.coming ≤ 1 + (j + 1); omega, w.nn, fun r hr => ?_⟩
    rcases List.mem_or_eq_of_mem_set hr with hr | hr
    · exact w.ns r hr
    · rw [hr]
      obtain ⟨r', hr', e⟩ := List.mem_map.mp h1.mem
      show 0 ≤ n
      rw [← e]; exact w.ns r' hr'
  | rem z x m =>
    rcases h with ⟨h0, h1, h2, h⟩ | ⟨_, _, _, h⟩ | ⟨_, _, h⟩ | ⟨_, h⟩ <;> cases h
    refine ⟨by show 1 ≤ s.coming + 1; omega, by show s.coming + 1 ≤ 1 + (j + 1); omega, fun m hm => ?_, w.ns⟩
    rcases List.mem_append.mp hm with hm | hm
    · exact w.nn m hm
    · rw [List.mem_singleton.mp hm]; show 0 ≤ s.coming; omega
  | forget n =>
    rcases h with ⟨k, h1, h⟩ | ⟨_, h⟩ <;> cases h
    exact ⟨c0, by show s.coming ≤ 1 + (j + 1); omega, fun m hm => w.nn m (List.mem_of_mem_eraseIdx hm), w.ns⟩
  | longer m =>
    rcases h with ⟨h1, h2, h⟩ | ⟨_, h⟩ <;> cases h
    exact ⟨c0, by show s.coming ≤ 1 + (j + 1); omega, w.nn, w.ns⟩
  | shorter m =>
    rcases h with ⟨h1, h2, h3, h⟩ | ⟨_, _, _, h⟩ | ⟨_, h⟩ <;> cases h
    exact ⟨c0, by show s.coming ≤ 1 + (j + 1); omega, w.nn, w.ns⟩
/-- what each sheet keeps -/
structure Gs (j : Int) (s : Sht) : Prop where
  w : Wf s
  f : Fit s
  g : Ng j s
theorem Gs.mono {j j' : Int} {s : Sht} (h : Gs j s) (k : j ≤ j') : Gs j' s := ⟨h.w, h.f, h.g.mono k⟩
theorem Gs.tl {j : Int} {s : Sht} (h : Gs j s) (hj : j ≤ 100000) : Tl s := .of h.w h.f ⟨by have := h.g.c0; omega, Int.lt_of_le_of_lt (show s.coming ≤ 100001 by have := h.g.c1; omega) (by decide)⟩ h.g.ns h.g.nn
structure GsA (j : Int) (past : List Sht) (now : Sht) (ahead : List Sht) : Prop where
  n : Gs j now
  p : ∀ s ∈ past, Gs j s
  a : ∀ s ∈ ahead, Gs j s
theorem GsA.mono {j j' : Int} {past ahead : List Sht} {now : Sht} (h : GsA j past now ahead) (k : j ≤ j') : GsA j' past now ahead := ⟨h.n.mono k, fun s hs => (h.p s hs).mono k, fun s hs => (h.a s hs).mono k⟩
theorem GsA.step {j : Int} {past ahead : List Sht} {now : Sht} {de : De} {r : Res} (h : GsA j past now ahead) (hr : RStp past now ahead de r) : GsA (j + 1) (resB past now ahead r).1 (resB past now ahead r).2.1 (resB past now ahead r).2.2 := by
  have up : ∀ s : Sht, Gs j s → Gs (j + 1) s := fun s z => z.mono (by omega)
  obtain ⟨a, b, c⟩ := hr.all (P := Gs (j + 1)) (fun d o s' ed st => ⟨h.n.w.step st, h.n.f.step st, h.n.g.step st⟩) (up _ h.n) (fun s hs => up _ (h.p s hs)) (fun s hs => up _ (h.a s hs))
  exact ⟨a, b, c⟩
structure D42 (DK BK S a1 dk dk2 b b2 m : Addr) (ns : List Int) (wide : Int) (H : Hp) (pa aa : Addr) (past : List Sht) (now : Sht) (ahead : List Sht) (sv nv : V) (n : Nat) : Prop where
  ea : H a1 = some (.lst (ns.map V.int))
  d1 : DkAt DK H dk b
  d2 : DkAt DK H dk2 b2
  duo : Duo (fun c => c = a1) BK S H b m pa aa past now ahead sv nv
  gs : GsA (n : Int) past now ahead
  ln : past.length + ahead.length ≤ n
  x1 : a1 ≠ pa ∧ a1 ≠ aa
  o2 : BkAt BK S (Nn (fun c => c = a1) pa aa) H b2 [⟨wide, 1, [], []⟩] 0 .non .non
  nb : b2 ≠ b
section
variable {DK BK S a1 dk dk2 b b2 m : Addr} {ns : List Int} {wide : Int} {H H' : Hp} {pa aa aa' : Addr} {past ahead : List Sht} {now : Sht} {sv nv sv' nv' : V} {n n' : Nat} {r : Res} {de : De}
theorem D42.same (h : D42 DK BK S a1 dk dk2 b b2 m ns wide H pa aa past now ahead sv nv n) (s : Same H H') : D42 DK BK S a1 dk dk2 b b2 m ns wide H' pa aa past now ahead sv nv n := ⟨s _ _ h.ea, h.d1.same s, h.d2.same s, h.duo.same s, h.gs, h.ln, h.x1, h.o2.same s, h.nb⟩
theorem D42.mono (h : D42 DK BK S a1 dk dk2 b b2 m ns wide H pa aa past now ahead sv nv n) (k : n ≤ n') : D42 DK BK S a1 dk dk2 b b2 m ns wide H pa aa past now ahead sv nv n' := ⟨h.ea, h.d1, h.d2, h.duo, h.gs.mono (by omega), Nat.le_trans h.ln k, h.x1, h.o2, h.nb⟩
theorem D42.nx (h : D42 DK BK S a1 dk dk2 b b2 m ns wide H pa aa past now ahead sv nv n) : NX (fun c => c = a1) H := fun c z => ⟨_, (congrArg H (show c = a1 from z)).trans h.ea⟩
theorem D42.step (h : D42 DK BK S a1 dk dk2 b b2 m ns wide H pa aa past now ahead sv nv n) (nDB : DK ≠ BK) (nSB : S ≠ BK) (fr : FrD b m pa aa H H') (ha : aa' = aa ∨ H aa' = none) (hr : RStp past now ahead de r) (duo : Duo (fun c => c = a1) BK S H' b m pa aa' (resB past now ahead r).1 (resB past now ahead r).2.1 (resB past now ahead r).2.2 sv' nv') : D42 DK BK S a1 dk dk2 b b2 m ns wide H' pa aa' (resB past now ahead r).1 (resB past now ahead r).2.1 (resB past now ahead r).2.2 sv' nv' (n + 1) := by
  obtain ⟨tv, ps, as, h1, h2, h3, h4, h5, h6, h7⟩ := h.duo.md.ex
  obtain ⟨dxb, lb_, vsb, g1, _⟩ := h.duo.bk.ex
  have ea := h.ea
  have g2 := h.gs.step hr
  have w4 := (hr.wf h.gs.n.w (fun s hs => (h.gs.p s hs).w) (fun s hs => (h.gs.a s hs).w)).2.2.2
  have l := h.ln
  have en : ((n + 1 : Nat) : Int) = (n : Int) + 1 := by omega
  refine ⟨fr _ _ ea (fun z => by rw [z, g1] at ea; cases ea) (fun z => by rw [z, h1] at ea; cases ea) h.x1.1 h.x1.2, h.d1.frg h.duo fr nDB, h.d2.frg h.duo fr nDB, duo, by rw [en]; exact g2, by omega, ⟨h.x1.1, fun z => ?_⟩, h.o2.frd h.duo fr ha nSB h.nb, h.nb⟩
  rcases ha with y | y
  · exact h.x1.2 (z.trans y)
  · rw [z, y] at ea; cases ea
theorem D42.tc (h : D42 DK BK S a1 dk dk2 b b2 m ns wide H pa aa past now ahead sv nv n) (k : n ≤ 1000) : Tn now.coming := by
  have c0 := h.gs.n.g.c0
  have c1 := h.gs.n.g.c1
  exact ⟨by omega, Int.lt_of_le_of_lt (show now.coming ≤ 1001 by omega) (by decide)⟩
end
end Rep
namespace Rep
open PySem L2 L2H RepHot
/-! a desk made, and its book -/
def spDkI (DK BK S : Addr) : Sp := fun vs H Q _ => ∃ (d dx : Addr) (X : Addr → Prop) (e : Int), vs = [.ref d, .int e] ∧ H d = some (.ins DK dx []) ∧ NX X H ∧ In40 e ∧ ∀ H' b, Sam d H H' → H b = none → DkAt DK H' d b → BkAt BK S X H' b [⟨e, 1, [], []⟩] 0 .non .non → Q .non H'
def spDkB (DK : Addr) : Sp := fun vs H Q _ => ∃ d b : Addr, vs = [.ref d] ∧ DkAt DK H d b ∧ Q (.ref b) H
theorem scDki : FnScope ["self", "length"] ["self", "length"] (defScope sDeskInit) := ⟨rfl, rfl, rfl, by decide +kernel, rfl, by decide +kernel, by decide +kernel⟩
theorem scDkb : FnScope ["self"] ["self"] (defScope sDeskBook) := ⟨rfl, rfl, rfl, by decide +kernel, rfl, by decide +kernel, by decide +kernel⟩
structure TDki (Pg : Program) (w : World) (K : PySem.W.Frag) (mg : Str → Option Value) (base : Heap) (DK BK S BL : Addr) (fB : Addr) (fdB : FuncData) : Prop where
  clD : Cls K DK
  nh : NoAttr K DK "held"
  ne : DK ≠ S
  MB : Mk K BK fB
  gB : FnOk Pg w K mg base CX0 9 fB fdB ["self", "length"] (fun vs H Q _ => spBinit BK S BL vs H Q (fun _ _ _ => False))
  bB : Binds K fdB ["self", "length"] []
  mB : mg "Book" = some (.ref BK)
section
variable {Pg : Program} {w : World} {K : PySem.W.Frag} {mg : Str → Option Value} {base : Heap} {DK BK S BL : Addr}
theorem ok_dki {f fB : Addr} {fd fdB : FuncData} (F : Fun K "__init__" "Desk.__init__" sDeskInit f fd) (T : TDki Pg w K mg base DK BK S BL fB fdB) : FnOk Pg w K mg base CX0 11 f fd ["self", "length"] (spDkI DK BK S) := by
  refine F.ok scDki (fun vs H Q E h => ?_) (fun cdv A outer s H vs Q E hr h => ?_)
  · obtain ⟨d, dx, X, e, rfl, _⟩ := h; rfl
  obtain ⟨d, dx, X, e, rfl, hd, nx, he, q⟩ := h
  have r10 : Room 10 _ := hr
  refine ⟨_, (pss_one (ps_fld (pv 0) (pe_make T.MB T.gB r10 (by rfl) T.mB T.bB .nil pass0 (pa_cons (pv 1) pa_nil)) rfl)), ?_⟩
  refine ⟨.int e, rfl, fun b dxb np ndx ne => make_bkX nx he np ndx ne (fun H6 s6 nb bk => ?_)⟩
  have hd6 := s6 _ _ hd
  refine ⟨.ref d, rfl, d, DK, dx, _, rfl, hd6, T.clD, T.nh, (by show 0 < 1000; decide), ?_⟩
  have s0 : Sam d H6 H6 := fun b o e _ => e
  have sm := s0.upd (o := .ins DK dx (putF "held" (V.ref b) []))
  have kp := Kp.sam (S := S) (N := X) sm hd6 T.ne
  have nbd : b ≠ d := fun z => by rw [z, hd] at nb; cases nb
  exact q _ b (Sam.pre s6 sm) nb ⟨dx, upd_same⟩ (bk.kp kp fun o e => by rw [upd_ne nbd]; exact e)
theorem ok_dkb {f : Addr} {fd : FuncData} {k : Nat} (F : Fun K "book" "Desk.book" sDeskBook f fd) (clD : Cls K DK) (nh : NoAttr K DK "held") : FnOk Pg w K mg base CX0 (k + 1) f fd ["self"] (spDkB DK) := by
  refine F.ok scDkb (fun vs H Q E h => ?_) (fun cdv A outer s H vs Q E hr h => ?_)
  · obtain ⟨d, b, rfl, _⟩ := h; rfl
  obtain ⟨d, b, rfl, ⟨dx, hd⟩, q⟩ := h
  refine ⟨_, (pss_one (ps_ret (pe_fld (pv 0) rfl))), ?_⟩
  exact ⟨.ref d, rfl, d, DK, dx, _, .ref b, rfl, hd, clD, nh, rfl, q⟩
end
theorem dk_no {b : Addr} {m : Str} (h : ¬ m = "held") : ([("held", V.ref b)] : List (Str × V)).lookup m = none := by
  rw [List.lookup_cons, show (m == "held") = false from by simpa using h]; rfl
/-- a desk through what is done with its book and the model -/
abbrev WdOk (z : Str) : Prop := 32 ∉ z.cps.toList ∧ z ≠ ""
theorem wf0 : ∀ z ∈ ([] : List Str), WdOk z := fun z h => nomatch h
theorem wfc {a : Str} {l : List Str} (h : WdOk a) (k : ∀ z ∈ l, WdOk z) : ∀ z ∈ a :: l, WdOk z := List.forall_mem_cons.mpr ⟨h, k⟩
theorem nI_w (i : Int) : WdOk (nI i) := ⟨nI_nb i, nI_ne i⟩
theorem way_w (t : Bool) : WdOk (wayS t) := ⟨way_nb t, way_ne t⟩
theorem deW_w {de : De} (nb : deNb de) (ne : deNe de) : ∀ z ∈ deW de, WdOk z := by
  cases de with
  | undo => exact wfc (by decide +kernel) wf0
  | redo => exact wfc (by decide +kernel) wf0
  | dd d =>
    cases d with
    | say y => exact wfc (by decide +kernel) (wfc (nI_w _) (wfc (nI_w _) (wfc (nI_w _) (wfc (way_w _) wf0))))
    | unsay n => exact wfc (by decide +kernel) (wfc (nI_w _) wf0)
    | amend n y => exact wfc (by decide +kernel) (wfc (nI_w _) (wfc (nI_w _) (wfc (nI_w _) (wfc (nI_w _) (wfc (way_w _) wf0)))))
    | rem w x m => exact wfc (by decide +kernel) (wfc ⟨nb, ne.1⟩ (wfc (nI_w _) (wfc (nI_w _) wf0)))
    | forget n => exact wfc (by decide +kernel) (wfc (nI_w _) wf0)
    | longer n => exact wfc (by decide +kernel) (wfc (nI_w _) wf0)
    | shorter n => exact wfc (by decide +kernel) (wfc (nI_w _) wf0)
theorem deW_word {de : De} (sp : deSp de) (ok : deOk de) (nb : deNb de) (ne : deNe de) : ∀ z ∈ deW de, 32 ∉ z.cps.toList ∧ z ≠ "" ∧ z.length ≤ 1000 := fun z hz => ⟨(deW_w nb ne z hz).1, (deW_w nb ne z hz).2, deW_lens sp ok z hz⟩
theorem deW_ok {de : De} (sp : deSp de) (ok : deOk de) (nb : deNb de) (ne : deNe de) : TxtOk (Txt.join " " (deW de)) (deW de) := txt_ok (by
  cases de with
  | undo => simp [deW]
  | redo => simp [deW]
  | dd d => cases d <;> simp [deW]) (Nat.le_trans (deW_len de) (by decide)) (deW_word sp ok nb ne)
end Rep
namespace Rep
open PySem L2 L2H RepHot
theorem cut63 {xs : List V} (h : xs.length ≤ 63) : cutV xs none (some 63) = xs := by
  unfold cutV
  rw [show HT.sIx xs.length xs.length (some 63) = min 63 xs.length from HT.sIx_nat xs.length xs.length 63, HT.sIx_none]
  show (xs.take (min 63 xs.length - 0)) = xs
  exact List.take_of_length_le (by omega)
/-! sayings as data -/
def syD (s : Sy) : PyData := .tuple [.int s.lo, .int s.hi, .int s.n, .bool s.t]
section
variable {X : Addr → Prop} {DK BK S b m pa aa aa' : Addr} {H H' : Hp} {past ahead : List Sht} {now : Sht} {sv nv : V}
theorem da_frm {dv : V} {de : De} (duo : Duo X BK S H b m pa aa past now ahead sv nv) (f : FrM m pa aa H H') (da : DeAt H dv de) : DeAt H' dv de := by
  obtain ⟨tv, ps, as, h1, h2, h3, h4, h5, h6, h7⟩ := duo.md.ex
  obtain ⟨t, e, ht⟩ := da
  exact ⟨t, e, f _ _ ht (fun z => by rw [z, h1] at ht; cases ht) (fun z => by rw [z, h3] at ht; cases ht) (fun z => by rw [z, h5] at ht; cases ht)⟩
theorem da_frd {dv : V} {de : De} (duo : Duo X BK S H b m pa aa past now ahead sv nv) (f : FrD b m pa aa H H') (da : DeAt H dv de) : DeAt H' dv de := by
  obtain ⟨tv, ps, as, h1, h2, h3, h4, h5, h6, h7⟩ := duo.md.ex
  obtain ⟨dxb, lb_, vsb, g1, _⟩ := duo.bk.ex
  obtain ⟨t, e, ht⟩ := da
  exact ⟨t, e, f _ _ ht (fun z => by rw [z, g1] at ht; cases ht) (fun z => by rw [z, h1] at ht; cases ht) (fun z => by rw [z, h3] at ht; cases ht) (fun z => by rw [z, h5] at ht; cases ht)⟩
theorem dk_frm {d c : Addr} (duo : Duo X BK S H b m pa aa past now ahead sv nv) (f : FrM m pa aa H H') (h : DkAt DK H d c) : DkAt DK H' d c := by
  obtain ⟨tv, ps, as, h1, h2, h3, h4, h5, h6, h7⟩ := duo.md.ex
  obtain ⟨dx, e⟩ := h
  exact ⟨dx, f _ _ e (fun z => by rw [z, h1] at e; cases e) (fun z => by rw [z, h3] at e; cases e) (fun z => by rw [z, h5] at e; cases e)⟩
theorem nx_frm {past' ahead' : List Sht} {now' : Sht} (duo : Duo X BK S H b m pa aa past now ahead sv nv) (f : FrM m pa aa H H') (aa1 : ∃ us, H' aa = some (.lst us)) (md : MdAt X pa aa' H' m past' now' ahead') (nx : NX X H) : NX X H' := by
  obtain ⟨tv, ps, as, h1, h2, h3, h4, h5, h6, h7⟩ := duo.md.ex
  refine nx.kin fun c us e => ?_
  by_cases y1 : c = pa
  · subst y1
    obtain ⟨_, ps2, _, _, _, e2, _⟩ := md.ex
    exact ⟨ps2, e2⟩
  by_cases y2 : c = aa
  · subst y2; exact aa1
  exact ⟨us, f c _ e (fun z => by rw [z, h1] at e; cases e) y1 y2⟩
end
theorem page0 (W : Int) : pgF ⟨W, 1, [], []⟩ = ("song " : Str) ++ sI W ++ " 1" := by
  have e : srtF (psF ⟨W, 1, [], []⟩) = [] := List.mergeSort_nil
  unfold pgF
  rw [e, TL.join_eq]
  show headF ⟨W, 1, [], []⟩ = _
  rw [← out_song]
  have e1 : sI (1 : Int) = "1" := by decide +kernel
  have e2 : TL.tl (" 1" : Str) = TL.tl (" " : Str) ++ TL.tl ("1" : Str) := by decide +kernel
  apply TL.ext_tl
  simp only [TL.tl_append, show TL.tl Str.empty = [] from rfl, List.nil_append, e1, e2, List.append_assoc]
end Rep
namespace Rep
open PySem L2 L2H RepHot
abbrev nLaw : List Str := ["_law_script", "_law_length", "_law_wide", "_law_crowd", "_law_desk", "_law_other", "_law_model", "_law_held", "_law_k", "_law_deed_here", "_law_word", "_law_told", "_law_text"]
theorem scLaw : FnScope nLaw ["_law_script"] (defScope sLaw) := ⟨rfl, rfl, rfl, by decide +kernel, rfl, by decide +kernel, by decide +kernel⟩
structure TLaw42 (Pg : Program) (w : World) (K : PySem.W.Frag) (mg : Str → Option Value) (base : Heap) (BK S CDesk fD fLb fDm fDe fE fTx fDa fMt fSk fSt fLp fDk fdb fdt : Addr) (fdD fdLb fdDm fdDe fdE fdTx fdDa fdMt fdSk fdSt fdLp fdDk fddb fddt : FuncData) : Prop where
  gD : FnOk Pg w K mg base CX0 7 fD fdD ["_law_script", "_law_k", "_law_sizes"] (spDig K)
  bD : Binds K fdD ["_law_script", "_law_k", "_law_sizes"] []
  kD : PySem.W.keepIn K (.ref fD) = true
  mD : mg "_law_digits" = some (.ref fD)
  gLb : FnOk Pg w K mg base CX0 8 fLb fdLb ["_law_length"] (spLb)
  bLb : Binds K fdLb ["_law_length"] []
  kLb : PySem.W.keepIn K (.ref fLb) = true
  mLb : mg "_law_book" = some (.ref fLb)
  gDm : FnOk Pg w K mg base CX0 10 fDm fdDm ["_law_book_here", "_law_deed_here"] (spDm)
  bDm : Binds K fdDm ["_law_book_here", "_law_deed_here"] []
  kDm : PySem.W.keepIn K (.ref fDm) = true
  mDm : mg "_law_do_model" = some (.ref fDm)
  gDe : FnOk Pg w K mg base CX0 8 fDe fdDe ["_law_script", "_law_k", "_law_state"] (spDeed K)
  bDe : Binds K fdDe ["_law_script", "_law_k", "_law_state"] []
  kDe : PySem.W.keepIn K (.ref fDe) = true
  mDe : mg "_law_deed" = some (.ref fDe)
  gE : FnOk Pg w K mg base CX0 7 fE fdE ["_law_told", "_law_due"] (spSame 7)
  bE : Binds K fdE ["_law_told", "_law_due"] []
  kE : PySem.W.keepIn K (.ref fE) = true
  mE : mg "_law_same" = some (.ref fE)
  gTx : FnOk Pg w K mg base CX0 8 fTx fdTx ["_law_deed_here"] (spTxt)
  bTx : Binds K fdTx ["_law_deed_here"] []
  kTx : PySem.W.keepIn K (.ref fTx) = true
  mTx : mg "_law_deed_text" = some (.ref fTx)
  gDa : FnOk Pg w K mg base CX0 9 fDa fdDa ["_law_deed_here", "_law_word", "_law_told", "_law_length"] (spDa)
  bDa : Binds K fdDa ["_law_deed_here", "_law_word", "_law_told", "_law_length"] []
  kDa : PySem.W.keepIn K (.ref fDa) = true
  mDa : mg "_law_deed_answer" = some (.ref fDa)
  gMt : FnOk Pg w K mg base CX0 13 fMt fdMt ["_law_book_here", "_law_model", "_law_deed_here"] (spMet BK S)
  bMt : Binds K fdMt ["_law_book_here", "_law_model", "_law_deed_here"] []
  kMt : PySem.W.keepIn K (.ref fMt) = true
  mMt : mg "_law_met" = some (.ref fMt)
  gSk : FnOk Pg w K mg base CX0 7 fSk fdSk ["_law_deed_here"] (spSpk)
  bSk : Binds K fdSk ["_law_deed_here"] []
  kSk : PySem.W.keepIn K (.ref fSk) = true
  mSk : mg "_law_spoken" = some (.ref fSk)
  gSt : FnOk Pg w K mg base CX0 9 fSt fdSt ["_law_book_here", "_law_model"] (spStd BK S)
  bSt : Binds K fdSt ["_law_book_here", "_law_model"] []
  kSt : PySem.W.keepIn K (.ref fSt) = true
  mSt : mg "_law_stands" = some (.ref fSt)
  gLp : FnOk Pg w K mg base CX0 8 fLp fdLp ["_law_state"] (spLpt)
  bLp : Binds K fdLp ["_law_state"] []
  kLp : PySem.W.keepIn K (.ref fLp) = true
  mLp : mg "_law_page_text" = some (.ref fLp)
  MDk : Mk K CDesk fDk
  gDk : FnOk Pg w K mg base CX0 11 fDk fdDk ["self", "length"] (spDkI CDesk BK S)
  bDk : Binds K fdDk ["self", "length"] []
  mDk : mg "Desk" = some (.ref CDesk)
  mdb : Meth K CDesk "book" fdb
  gdb : FnOk Pg w K mg base CX0 7 fdb fddb ["self"] (spDkB CDesk)
  bdb : Binds K fddb ["self"] []
  mdt : Meth K CDesk "tell" fdt
  gdt : FnOk Pg w K mg base CX0 14 fdt fddt ["self", "text"] (orS2 (spTel CDesk BK S) (spTelP CDesk BK S))
  bdt : Binds K fddt ["self", "text"] []
  mR : mg "range" = none
  mM : mg "max" = none
  mstr : mg "str" = none
  clD : Cls K CDesk
  nDB : CDesk ≠ BK
  nDS : CDesk ≠ S
  nSB : S ≠ BK
section
variable {Pg : Program} {w : World} {K : PySem.W.Frag} {mg : Str → Option Value} {base : Heap}
theorem ok_law42 {f BK S CDesk fD fLb fDm fDe fE fTx fDa fMt fSk fSt fLp fDk fdb fdt : Addr} {fd fdD fdLb fdDm fdDe fdE fdTx fdDa fdMt fdSk fdSt fdLp fdDk fddb fddt : FuncData} (F : Fun K "law" "law" sLaw f fd) (T : TLaw42 Pg w K mg base BK S CDesk fD fLb fDm fDe fE fTx fDa fMt fSk fSt fLp fDk fdb fdt fdD fdLb fdDm fdDe fdE fdTx fdDa fdMt fdSk fdSt fdLp fdDk fddb fddt) : FnOk Pg w K mg base CX0 15 f fd ["_law_script"] (spLawB K) := by
  refine F.ok scLaw (fun vs H Q E h => ?_) (fun cdv A outer s H vs Q E hr h => ?_)
  · obtain ⟨a, ns, rfl, _⟩ := h; rfl
  obtain ⟨a, ns, rfl, hS, h63, q⟩ := h
  have r14 : Room 14 _ := hr
  have r13 : Room 13 _ := hr.mono (by decide)
  have r12 : Room 12 _ := hr.mono (by decide)
  have r10 : Room 10 _ := hr.mono (by decide)
  have r9 : Room 9 _ := hr.mono (by decide)
  have r8 : Room 8 _ := hr.mono (by decide)
  have r7 : Room 7 _ := hr.mono (by decide)
  have hu := hu_of hr
  refine ⟨_, (C8.pss_cut (ps_set (i := 0) scLaw.nd rfl (.inl rfl) (pe_slice sl_list (pv 0) po_none (po_some pe_int)))
    (C8.pss_cut (ps_asg (pe_call T.gD r7 (by rfl) T.mD T.kD T.bD .nil pass0 (pa_cons (pv 0) (pa_cons pe_int (pa_cons (pe_lst (pa_cons pe_int (pa_cons pe_int (pa_cons pe_int pa_nil)))) pa_nil)))) (pg_lst rfl (pgs_cons (pg_name (i := 1) scLaw.nd rfl (.inl rfl)) (pgs_cons (pg_name (i := 2) scLaw.nd rfl (.inl rfl)) (pgs_cons (pg_name (i := 3) scLaw.nd rfl (.inl rfl)) pgs_nil)))))
    (C8.pss_cut (ps_par (i := 4) (j := 5) (by rfl) scLaw.nd rfl rfl (by decide) rfl rfl (pa_cons (pe_make T.MDk T.gDk r12 (by rfl) T.mDk T.bDk .nil pass0 (pa_cons (pv 1) pa_nil)) (pa_cons (pe_make T.MDk T.gDk r12 (by rfl) T.mDk T.bDk .nil pass0 (pa_cons (pv 2) pa_nil)) pa_nil)) (by rfl))
    (C8.pss_cut (ps_set (i := 6) scLaw.nd rfl (.inl rfl) (pe_call T.gLb r8 (by rfl) T.mLb T.kLb T.bLb .nil pass0 (pa_cons (pv 1) pa_nil)))
    (C8.pss_cut (ps_set (i := 7) scLaw.nd rfl (.inl rfl) (pe_meth0 (pv 4) T.clD T.mdb T.gdb r7 T.bdb .nil pass0))
    (C8.pss_cut (ps_if (pt_cmpR op_lt (pv 3) pe_int (nomark _)) (pss_one (ps_for PassesOwn.never rfl (pi_range1 rfl T.mR (pa_cons pe_int pa_nil)) (pg_name (i := 8) scLaw.nd rfl (.inl rfl))
      (pss_cons (ps_set (i := 9) scLaw.nd rfl (.inl rfl) (pe_ix ix_list (pe_lst (pa_cons (pe_tup (pa_cons pe_str (pa_cons pe_int (pa_cons (pe_op op_mod (pv 8) (pe_callB (call_max2 rfl) (by rfl) T.mM (by decide +kernel) (pa_cons pe_int (pa_cons (pv 1) pa_nil)))) (pa_cons pe_int (pa_cons pe_bl pa_nil)))))) (pa_cons (pe_tup (pa_cons pe_str (pa_cons pe_str (pa_cons pe_int (pa_cons pe_int pa_nil))))) pa_nil))) (pv 3) (fun _ _ => rfl)))
    (pss_cons (ps_asg (pe_call T.gDm r10 (by rfl) T.mDm T.kDm T.bDm .nil pass0 (pa_cons (pv 6) (pa_cons (pv 9) pa_nil))) (pg_tup rfl (pgs_cons (pg_name (i := 10) scLaw.nd rfl (.inl rfl)) (pgs_cons (pg_name (i := 11) scLaw.nd rfl (.inl rfl)) pgs_nil))))
    (pss_one (ps_if (pt_not (pt_val (pe_call T.gE r7 (by rfl) T.mE T.kE T.bE .nil pass0 (pa_cons (pe_meth (pv 4) T.clD T.mdt T.gdt r14 T.bdt .nil pass0 (pa_cons (pe_call T.gTx r8 (by rfl) T.mTx T.kTx T.bTx .nil pass0 (pa_cons (pv 9) pa_nil)) pa_nil)) (pa_cons (pe_call T.gDa r9 (by rfl) T.mDa T.kDa T.bDa .nil pass0 (pa_cons (pv 9) (pa_cons (pv 10) (pa_cons (pv 11) (pa_cons (pv 1) pa_nil))))) pa_nil))))) (pss_one (ps_ret pe_bl)) pss_nil)))))) pss_nil)
    (C8.pss_cut (ps_for PassesOwn.never rfl (pi_range1 rfl T.mR (pa_cons pe_int pa_nil)) (pg_name (i := 8) scLaw.nd rfl (.inl rfl))
      (C8.pss_cut (ps_set (i := 9) scLaw.nd rfl (.inl rfl) (pe_call T.gDe r8 (by rfl) T.mDe T.kDe T.bDe .nil pass0 (pa_cons (pv 0) (pa_cons (pe_op op_add pe_int (pv 8)) (pa_cons (pe_dget hu (pv 6) pe_str (fun _ _ => rfl)) pa_nil)))))
    (C8.pss_cut (ps_if (pt_cmpR op_eq (pe_op op_mod (pv 8) pe_int) pe_int (nomark _)) (pss_one (ps_if (pt_not (pt_val (pe_call T.gMt r13 (by rfl) T.mMt T.kMt T.bMt .nil pass0 (pa_cons (pv 7) (pa_cons (pv 6) (pa_cons (pv 9) pa_nil)))))) (pss_one (ps_ret pe_bl)) pss_nil)) (pss_one (ps_if (pt_val (pe_call T.gSk r7 (by rfl) T.mSk T.kSk T.bSk .nil pass0 (pa_cons (pv 9) pa_nil))) (pss_cons (ps_set (i := 12) scLaw.nd rfl (.inl rfl) (pe_call T.gTx r8 (by rfl) T.mTx T.kTx T.bTx .nil pass0 (pa_cons (pv 9) pa_nil)))
    (pss_cons (ps_asg (pe_call T.gDm r10 (by rfl) T.mDm T.kDm T.bDm .nil pass0 (pa_cons (pv 6) (pa_cons (pv 9) pa_nil))) (pg_tup rfl (pgs_cons (pg_name (i := 10) scLaw.nd rfl (.inl rfl)) (pgs_cons (pg_name (i := 11) scLaw.nd rfl (.inl rfl)) pgs_nil))))
    (pss_one (ps_if (pt_not (pt_val (pe_call T.gE r7 (by rfl) T.mE T.kE T.bE .nil pass0 (pa_cons (pe_meth (pv 4) T.clD T.mdt T.gdt r14 T.bdt .nil pass0 (pa_cons (pv 12) pa_nil)) (pa_cons (pe_call T.gDa r9 (by rfl) T.mDa T.kDa T.bDa .nil pass0 (pa_cons (pv 9) (pa_cons (pv 10) (pa_cons (pv 11) (pa_cons (pe_ix ix_tup (pe_dget hu (pv 6) pe_str (fun _ _ => rfl)) pe_int (fun _ _ => rfl)) pa_nil))))) pa_nil))))) (pss_one (ps_ret pe_bl)) pss_nil)))) pss_nil)))
    (C8.pss_cut (ps_if (PW.pt (pw_or (pt_not (pt_val (pe_call T.gSt r9 (by rfl) T.mSt T.kSt T.bSt .nil pass0 (pa_cons (pv 7) (pa_cons (pv 6) pa_nil))))) (pw_or1 (pt_not (pt_val (pe_call T.gSt r9 (by rfl) T.mSt T.kSt T.bSt .nil pass0 (pa_cons (pe_meth0 (pv 4) T.clD T.mdb T.gdb r7 T.bdb .nil pass0) (pa_cons (pv 6) pa_nil)))))))) (pss_one (ps_ret pe_bl)) pss_nil)
    (pss_one (ps_if (PW.pt (pw_and (pt_cmpR op_eq (pe_op op_mod (pv 8) pe_int) pe_int (nomark _)) (pw_and1 (pt_not (pt_val (pe_call T.gE r7 (by rfl) T.mE T.kE T.bE .nil pass0 (pa_cons (pe_meth (pv 4) T.clD T.mdt T.gdt r14 T.bdt .nil pass0 (pa_cons pe_str pa_nil)) (pa_cons (pe_call T.gLp r8 (by rfl) T.mLp T.kLp T.bLp .nil pass0 (pa_cons (pe_dget hu (pv 6) pe_str (fun _ _ => rfl)) pa_nil)) pa_nil)))))))) (pss_one (ps_ret pe_bl)) pss_nil))))))
    (pss_one (ps_ret (pe_and (pe_call T.gSt r9 (by rfl) T.mSt T.kSt T.bSt .nil pass0 (pa_cons (pe_meth0 (pv 5) T.clD T.mdb T.gdb r7 T.bdb .nil pass0) (pa_cons (pe_call T.gLb r8 (by rfl) T.mLb T.kLb T.bLb .nil pass0 (pa_cons (pv 2) pa_nil)) pa_nil))) (pe_one (pe_call T.gE r7 (by rfl) T.mE T.kE T.bE .nil pass0 (pa_cons (pe_meth (pv 5) T.clD T.mdt T.gdt r14 T.bdt .nil pass0 (pa_cons pe_str pa_nil)) (pa_cons (pe_op op_add_str (pe_op op_add_str pe_str (pe_callTy call_str_any (by rfl) T.mstr PyProof.Rows.boot_str (pa_cons (pv 2) pa_nil))) pe_str) pa_nil)))))))))))))), ?_⟩
  have hlV : (ns.map V.int).length ≤ 63 := by rw [List.length_map]; exact h63
  refine ⟨fun σ' H' => ∃ a1, σ' = [some (.ref a1), none, none, none, none, none, none, none, none, none, none, none, none] ∧ H' a1 = some (.lst (ns.map V.int)), ?_, ?_⟩
  · refine ⟨.ref a, rfl, 63, rfl, a, ns.map V.int, rfl, hS, fun a1 n1 => ?_⟩
    rw [cut63 hlV]
    exact ⟨a1, rfl, upd_same⟩
  rintro σ' H1 ⟨a1, rfl, e1⟩
  -- drawn
  refine ⟨fun σ' H' => ∃ L W c : Int, σ' = [some (.ref a1), some (.int L), some (.int W), some (.int c), none, none, none, none, none, none, none, none, none] ∧ H' a1 = some (.lst (ns.map V.int)) ∧ 0 ≤ L ∧ L < 61 ∧ 0 ≤ W ∧ W < 61 ∧ 0 ≤ c ∧ c < 5, ?_, ?_⟩
  · refine ⟨.ref a1, rfl, ?_⟩
    refine ⟨szN 3 rfl, fun l1 n_l1 => ?_⟩
    generalize e_l1 : upd H1 l1 _ = H2
    have u2 := new_same e_l1 n_l1
    have z2 := new_at e_l1
    clear e_l1
    refine ⟨a1, l1, ns, [61, 61, 5], 0, rfl, .inl (.inl (u2 _ _ e1)), h63, .inl (.inl z2), by show 3 ≤ 1000; decide, dgc ⟨by decide, by decide⟩ (dgc ⟨by decide, by decide⟩ (dgc ⟨by decide, by decide⟩ dg0)), fun H3 pd u3 np ep => ?_⟩
    generalize rawF ns 0 = ra at ep
    have ep : H3 pd = some (.lst [.int (ra % 61), .int (ra / 61 % 61), .int (ra / 61 / 61 % 5)]) := ep
    exact ⟨pd, _, rfl, .inl (.inl ep), rfl, _, _, rfl, _, _, rfl, _, _, rfl, rfl, _, _, _, rfl, u3 _ _ (u2 _ _ e1), Int.emod_nonneg _ (by omega), Int.emod_lt_of_pos _ (by omega), Int.emod_nonneg _ (by omega), Int.emod_lt_of_pos _ (by omega), Int.emod_nonneg _ (by omega), Int.emod_lt_of_pos _ (by omega)⟩
  rintro σ' H3 ⟨L, W, cr, rfl, e3, L0, L1, W0, W1, cr0, cr5⟩
  have hL : In40 L := ⟨L0, Int.lt_trans L1 (by decide)⟩
  have hW : In40 W := ⟨W0, Int.lt_trans W1 (by decide)⟩
  have nx3 : NX (fun c => c = a1) H3 := fun c z => ⟨_, (congrArg H3 (show c = a1 from z)).trans e3⟩
  have nDB := T.nDB
  -- two desks
  refine ⟨fun σ' H' => ∃ dk dk2 b b2, σ' = [some (.ref a1), some (.int L), some (.int W), some (.int cr), some (.ref dk), some (.ref dk2), none, none, none, none, none, none, none] ∧ H' a1 = some (.lst (ns.map V.int)) ∧ DkAt CDesk H' dk b ∧ DkAt CDesk H' dk2 b2 ∧ BkAt BK S (fun c => c = a1) H' b [⟨L, 1, [], []⟩] 0 .non .non ∧ BkAt BK S (fun c => c = a1) H' b2 [⟨W, 1, [], []⟩] 0 .non .non ∧ b2 ≠ b, ?_, ?_⟩
  · refine ⟨.int L, rfl, fun dk dx np ndx ne => ?_⟩
    have np' : upd H3 dx (.own dk) dk = none := by rw [upd_ne ne.symm]; exact np
    have s5 : Same H3 (upd (upd H3 dx (.own dk)) dk (.ins CDesk dx [])) := (same_upd ndx).trans (same_upd np')
    have ed5 : upd (upd H3 dx (.own dk)) dk (.ins CDesk dx []) dk = some (.ins CDesk dx []) := upd_same
    refine ⟨dk, dx, fun c => c = a1, L, rfl, ed5, nx3.same s5, hL, fun H6 b sm nb dkat bk => ⟨rfl, ?_⟩⟩
    have e6 : H6 a1 = some (.lst (ns.map V.int)) := sm _ _ (s5 _ _ e3) (fun z => by rw [z, np] at e3; cases e3)
    have nx6 : NX (fun c => c = a1) H6 := fun c z => ⟨_, (congrArg H6 (show c = a1 from z)).trans e6⟩
    refine ⟨.int W, rfl, fun dk2 dx2 np2 ndx2 ne2 => ?_⟩
    have np2' : upd H6 dx2 (.own dk2) dk2 = none := by rw [upd_ne ne2.symm]; exact np2
    have s7 : Same H6 (upd (upd H6 dx2 (.own dk2)) dk2 (.ins CDesk dx2 [])) := (same_upd ndx2).trans (same_upd np2')
    have ed7 : upd (upd H6 dx2 (.own dk2)) dk2 (.ins CDesk dx2 []) dk2 = some (.ins CDesk dx2 []) := upd_same
    refine ⟨dk2, dx2, fun c => c = a1, W, rfl, ed7, nx6.same s7, hW, fun H8 b2 sm2 nb2 dkat2 bk2 => ⟨rfl, .ref dk, .ref dk2, rfl, dk, dk2, b, b2, rfl, ?_, ?_, dkat2, ?_, bk2, ?_⟩⟩
    · exact sm2 _ _ (s7 _ _ e6) (fun z => by rw [z, np2] at e6; cases e6)
    · obtain ⟨dx6, ed6⟩ := dkat
      exact ⟨dx6, sm2 _ _ (s7 _ _ ed6) (fun z => by rw [z, np2] at ed6; cases ed6)⟩
    · obtain ⟨dxb, lb_, vsb, g1, _⟩ := bk.ex
      have g7 := s7 _ _ g1
      exact (bk.same s7).kp (.sam sm2 ed7 T.nDS) fun o e => sm2 _ _ e (fun z => by rw [z, np2] at g1; cases g1)
    · intro z
      obtain ⟨dxb, lb_, vsb, g1, _⟩ := bk.ex
      rw [z, s7 _ _ g1] at nb2; cases nb2
  rintro σ' H4 ⟨dk, dk2, b, b2, rfl, e4, dk4, dj4, bk4, bj4, nbb⟩
  have nx4 : NX (fun c => c = a1) H4 := fun c z => ⟨_, (congrArg H4 (show c = a1 from z)).trans e4⟩
  -- the model
  refine ⟨fun σ' H' => ∃ m pa aa, σ' = [some (.ref a1), some (.int L), some (.int W), some (.int cr), some (.ref dk), some (.ref dk2), some (.ref m), none, none, none, none, none, none] ∧ D42 CDesk BK S a1 dk dk2 b b2 m ns W H' pa aa [] ⟨L, 1, [], []⟩ [] .non .non 0, ?_, ?_⟩
  · refine ⟨.int L, rfl, L, rfl, fun H5 m pa aa u5 nm np na md => ⟨m, pa, aa, rfl, ?_⟩⟩
    have mo : ∀ {bb : Addr} {e : Int}, BkAt BK S (fun c => c = a1) H4 bb [⟨e, 1, [], []⟩] 0 .non .non → BkAt BK S (Nn (fun c => c = a1) pa aa) H5 bb [⟨e, 1, [], []⟩] 0 .non .non := fun {bb e} bk => (bk.more fun x us z e => by
      rcases z with z | z | z
      · rw [z, np] at e; cases e
      · rw [z, na] at e; cases e
      · exact z).same u5
    have w0_ : Wf ⟨L, 1, [], []⟩ := ⟨List.Pairwise.nil, List.Pairwise.nil, fun r hr => (nomatch hr), fun r hr => (nomatch hr), Nat.zero_le _, Nat.zero_le _, fun r hr => (nomatch hr), hL⟩
    have g0 : GsA ((0 : Nat) : Int) [] ⟨L, 1, [], []⟩ [] := ⟨⟨w0_, fit0, ⟨by show (1 : Int) ≤ 1; omega, by show (1 : Int) ≤ 1 + ((0 : Nat) : Int); omega, fun r hr => (nomatch hr), fun r hr => (nomatch hr)⟩⟩, fun s hs => (nomatch hs), fun s hs => (nomatch hs)⟩
    exact ⟨u5 _ _ e4, dk4.same u5, dj4.same u5, ⟨mo bk4, md _ nx4⟩, g0, Nat.le_refl _, ⟨(fun z => by rw [z, np] at e4; cases e4), (fun z => by rw [z, na] at e4; cases e4)⟩, mo bj4, nbb⟩
  clear e4 dk4 dj4 bk4 bj4 nx4 e3 nx3 e1 nbb
  rintro σ' H5 ⟨m, pa0, aa0, rfl, d5⟩
  -- its book
  refine ⟨fun σ' H' => σ' = [some (.ref a1), some (.int L), some (.int W), some (.int cr), some (.ref dk), some (.ref dk2), some (.ref m), some (.ref b), none, none, none, none, none] ∧ H' = H5, ?_, ?_⟩
  · obtain ⟨dx, hdk⟩ := d5.d1
    exact ⟨.ref dk, rfl, dk, dx, _, rfl, hdk, dk_no (by decide +kernel), dk, b, rfl, ⟨dx, hdk⟩, rfl, rfl⟩
  rintro σ' H' ⟨rfl, eH⟩
  subst eH
  -- crowded
  refine ⟨fun σ' H' => ∃ y8 y9 y10 y11 y12 pa aa past now ahead sv nv, σ' = [some (.ref a1), some (.int L), some (.int W), some (.int cr), some (.ref dk), some (.ref dk2), some (.ref m), some (.ref b), y8, y9, y10, y11, y12] ∧ D42 CDesk BK S a1 dk dk2 b b2 m ns W H' pa aa past now ahead sv nv 26, ?_, ?_⟩
  · refine ⟨.int cr, rfl, _, _, rfl, rfl, _, rfl, ite2 (fun c => ?_) (fun c => ⟨none, none, none, none, none, pa0, aa0, [], _, [], _, _, rfl, d5.mono (by decide)⟩)⟩
    have c2 : cr < 2 := of_decide_eq_true c
    refine ⟨26, rfl, by decide, by decide, for_range (lo := 0) (n := ((26 : Int)).toNat) (fun j σ' H' => ∃ y8 y9 y10 y11 y12 pa aa past now ahead sv nv, σ' = [some (.ref a1), some (.int L), some (.int W), some (.int cr), some (.ref dk), some (.ref dk2), some (.ref m), some (.ref b), y8, y9, y10, y11, y12] ∧ D42 CDesk BK S a1 dk dk2 b b2 m ns W H' pa aa past now ahead sv nv j) ⟨none, none, none, none, none, pa0, aa0, [], _, [], _, _, rfl, d5⟩ (fun j σ' H7 hj hP => ?_) (fun σ' H7 hP => hP)⟩
    clear d5
    obtain ⟨y8, y9, y10, y11, y12, pa, aa, past, now, ahead, sv, nv, rfl, d7⟩ := hP
    have hj26 : j < 26 := hj
    have hm : (0 : Int) < (if L > 1 then L else 1) := by split <;> omega
    have hm2 : (if L > 1 then L else 1) ≤ 61 := by split <;> omega
    refine ⟨.int (0 + (j : Int)), rfl, .int L, rfl, 1, L, rfl, _, _, rfl, rfl, hm, ?_⟩
    generalize (if L > 1 then L else 1) = mm at hm hm2 ⊢
    have q0 := Int.emod_nonneg (0 + (j : Int)) (show mm ≠ 0 by omega)
    have q1 := Int.emod_lt_of_pos (0 + (j : Int)) hm
    obtain ⟨pl, epl⟩ : ∃ pl, pl = (0 + (j : Int)) % mm := ⟨_, rfl⟩
    rw [← epl] at q0 q1
    refine ⟨szN 5 rfl, fun t1 n_t1 => ?_⟩
    generalize e_t1 : upd H7 t1 _ = G1
    have v1 := new_same e_t1 n_t1
    have w1 := new_at e_t1
    clear e_t1
    have w1 : G1 t1 = some (.tup [.str "say", .int 0, .int pl, .int 1, .bl false]) := by rw [epl]; exact w1
    refine ⟨szN 4 rfl, fun t2 n_t2 => ?_⟩
    generalize e_t2 : upd G1 t2 _ = G2
    have v2 := new_same e_t2 n_t2
    have w2 := new_at e_t2
    clear e_t2
    refine ⟨szN 2 rfl, fun l3 n_l3 => ?_⟩
    generalize e_l3 : upd G2 l3 _ = H8
    have v3 := new_same e_l3 n_l3
    have w3 := new_at e_l3
    clear e_l3
    have u8 := v1.trans (v2.trans v3)
    obtain ⟨td, de, hat, da, ok, nb, sp, ne, nl⟩ : ∃ (td : Addr) (de : De), atI [V.ref t1, .ref t2] cr = some (.ref td) ∧ DeAt H8 (.ref td) de ∧ deOk de ∧ deNb de ∧ deSp de ∧ deNe de ∧ ¬ isLen de := by
      have tpl : Tn pl := ⟨q0, Int.lt_of_lt_of_le (show pl < 61 by omega) (by decide)⟩
      have t0 : Tn 0 := ⟨by decide, by decide⟩
      have t1' : Tn 1 := ⟨by decide, by decide⟩
      rcases (show cr = 0 ∨ cr = 1 by omega) with rfl | rfl
      · exact ⟨t1, .dd (.say ⟨0, pl, 1, false⟩), rfl, ⟨t1, rfl, (v2.trans v3) _ _ w1⟩, trivial, trivial, ⟨t0, tpl, t1'⟩, trivial, id⟩
      · exact ⟨t2, .dd (.rem "q" 0 1), rfl, ⟨t2, rfl, v3 _ _ w2⟩, (show ("q" : Str).length ≤ 1000 by decide +kernel), (show 32 ∉ ("q" : Str).cps.toList by decide +kernel), ⟨t0, t1'⟩, (show ("q" : Str) ≠ "" ∧ ("q" : Str) ≠ " " by decide +kernel), id⟩
    refine ⟨.int cr, rfl, l3, _, _, .ref td, rfl, rfl, .inl (.inl w3), hat, ?_⟩
    have d8 := d7.same u8
    have wn := d8.gs.n.w
    refine ⟨.ref m, rfl, .ref td, rfl, _, m, pa, aa, .ref td, past, now, ahead, de, rfl, d8.duo.md, da, ok, wn, (fun s hs => (d8.gs.p s hs).w), (fun s hs => (d8.gs.a s hs).w), by have := d8.ln; omega, d8.nx, fun r1 hr1 H9 t9 aa' f2 aa2 ha md2 z9 => ?_⟩
    refine ⟨t9, _, rfl, .inl (.inl z9), rfl, _, _, rfl, _, _, rfl, rfl, ?_⟩
    have da9 : DeAt H9 (.ref td) de := da_frm d8.duo f2 da
    have d1 := dk_frm d8.duo f2 d8.d1
    obtain ⟨dx, hdk⟩ := d1
    have tx := deW_ok sp ok nb ne
    have bk9 := d8.duo.bk.frm d8.duo.md f2 ha
    have tc := d8.tc (by omega)
    refine ⟨.ref dk, rfl, dk, dx, _, rfl, hdk, dk_no (by decide +kernel), .ref td, rfl, .ref td, de, rfl, da9, sp, ok, fun HA uA => ?_⟩
    refine .inl ⟨dk, b, _, Nn (fun c => c = a1) pa aa', past, now, ahead, sv, nv, de, rfl, ⟨dx, uA _ _ hdk⟩, tx.s, tx.n, tx.l, bk9.same uA, ok, sp, ((md2.na (nx_frm d8.duo f2 aa2 md2 d8.nx)).na).same uA, wn, by have := d8.ln; omega, tc, fun j2 HB hr2 uB => ?_, fun o p n a HB hr2 bkr => ?_⟩
    · obtain rfl := hr1.uniq hr2
      obtain ⟨kin9, fr, duo9⟩ := duo_tem d8.duo f2 aa2 ha md2 (uA.trans uB) (fun c o e _ => e) ((bk9.same uA).same uB)
      have dB := d8.step nDB T.nSB fr ha hr1 duo9
      have daB : DeAt HB (.ref td) de := da_frd d8.duo fr da
      refine ⟨.ref td, rfl, .str _, rfl, _, rfl, .int L, rfl, .ref td, de, _, past, now, ahead, L, rfl, daB, hr1, tc, (fun o p n a _ z => absurd z nl), fun HC uC => ?_⟩
      refine ⟨.str _, .str _, _, rfl, .str _, .str _, fun HD uD => ⟨true, rfl, iteF ?_⟩⟩
      exact ⟨_, _, _, _, _, pa, aa', _, _, _, _, _, rfl, dB.same (uC.trans uD)⟩

    · obtain rfl := hr1.uniq hr2
      obtain ⟨sm, sv', nv', bk1, k1, k2⟩ := bkr
      obtain ⟨kin9, fr, duo9⟩ := duo_tem d8.duo f2 aa2 ha md2 uA sm bk1
      have dB := d8.step nDB T.nSB fr ha hr1 duo9
      have daB : DeAt HB (.ref td) de := da_frd d8.duo fr da
      refine ⟨.ref td, rfl, .str _, rfl, _, rfl, .int L, rfl, .ref td, de, _, past, now, ahead, L, rfl, daB, hr1, tc, (fun o p n a _ z => absurd z nl), fun HC uC => ?_⟩
      refine ⟨.str _, .str _, _, rfl, .str _, .str _, fun HD uD => ⟨true, rfl, iteF ?_⟩⟩
      exact ⟨_, _, _, _, _, pa, aa', _, _, _, _, _, rfl, dB.same (uC.trans uD)⟩

  clear d5
  rintro σ' H5 ⟨y8, y9, y10, y11, y12, pa0, aa0, past0, now0, ahead0, sv0, nv0, rfl, d5⟩
  -- deeds
  refine ⟨fun σ' H' => ∃ y8 y9 y10 y11 y12 pa aa past now ahead sv nv, σ' = [some (.ref a1), some (.int L), some (.int W), some (.int cr), some (.ref dk), some (.ref dk2), some (.ref m), some (.ref b), y8, y9, y10, y11, y12] ∧ D42 CDesk BK S a1 dk dk2 b b2 m ns W H' pa aa past now ahead sv nv 71, ?_, ?_⟩
  · refine ⟨45, rfl, by decide, by decide, for_range (lo := 0) (n := ((45 : Int)).toNat) (fun j σ' H' => ∃ y8 y9 y10 y11 y12 pa aa past now ahead sv nv, σ' = [some (.ref a1), some (.int L), some (.int W), some (.int cr), some (.ref dk), some (.ref dk2), some (.ref m), some (.ref b), y8, y9, y10, y11, y12] ∧ D42 CDesk BK S a1 dk dk2 b b2 m ns W H' pa aa past now ahead sv nv (26 + j)) ⟨_, _, _, _, _, pa0, aa0, past0, now0, ahead0, sv0, nv0, rfl, d5⟩ (fun j σ' H7 hj hP => ?_) (fun σ' H7 hP => hP)⟩
    clear d5
    obtain ⟨y8, y9, y10, y11, y12, pa, aa, past, now, ahead, sv, nv, rfl, d7⟩ := hP
    have hj45 : j < 45 := hj
    refine ⟨fun σ' H' => ∃ dv de, σ' = [some (.ref a1), some (.int L), some (.int W), some (.int cr), some (.ref dk), some (.ref dk2), some (.ref m), some (.ref b), some (.int (0 + (j : Int))), some dv, y10, y11, y12] ∧ Same H7 H' ∧ DeAt H' dv de ∧ deOk de ∧ deNb de, ?_, ?_⟩
    · obtain ⟨tv, ps, as, h1, h2, h3, h4, h5, h6, h7⟩ := d7.duo.md.ex
      exact ⟨.ref a1, rfl, .int (0 + (j : Int)), rfl, _, _, rfl, rfl, .ref m, rfl, m, tv, rfl, .inl ⟨_, .inr "now", .inl h1, rfl, (md_now tv pa aa).symm⟩, a1, ns, _, tv, Nn (fun c => c = a1) pa aa, now, rfl, .inl (.inl d7.ea), h63, h2, d7.gs.n.w, fun H8 dv de u8 da ok nb fw => ⟨dv, de, rfl, u8, da, ok, nb⟩⟩
    rintro σ' H8 ⟨dv, de, rfl, u8, da, ok, nb⟩
    have d8 := d7.same u8
    have wn := d8.gs.n.w
    have wp : ∀ s ∈ past, Wf s := fun s hs => (d8.gs.p s hs).w
    have wa : ∀ s ∈ ahead, Wf s := fun s hs => (d8.gs.a s hs).w
    have ln := d8.ln
    -- done
    refine ⟨fun σ' H' => ∃ y10 y11 y12 pa aa past now ahead sv nv, σ' = [some (.ref a1), some (.int L), some (.int W), some (.int cr), some (.ref dk), some (.ref dk2), some (.ref m), some (.ref b), some (.int (0 + (j : Int))), some dv, y10, y11, y12] ∧ D42 CDesk BK S a1 dk dk2 b b2 m ns W H' pa aa past now ahead sv nv (26 + (j + 1)), ?_, ?_⟩
    · refine ⟨.int (0 + (j : Int)), rfl, _, 9, rfl, rfl, (by show (0 : Int) < 9; decide), rfl, _, rfl, ite2 (fun _ => ?_) (fun _ => ?_)⟩
      · refine ⟨.ref b, rfl, .ref m, rfl, dv, rfl, _, b, m, pa, aa, dv, past, now, ahead, sv, nv, de, rfl, d8.duo, da, ok, wn, wp, wa, by omega, d8.nx, fun r H9 aa' sv' nv' kin hr fr ha duo9 k1 k2 => ⟨true, rfl, iteF ?_⟩⟩
        exact ⟨_, _, _, pa, aa', _, _, _, _, _, rfl, d8.step nDB T.nSB fr ha hr duo9⟩
      · refine ⟨dv, rfl, dv, de, rfl, da, fun H9 b9 u9 hb9 => ?_⟩
        cases b9 with
        | false => exact ⟨false, rfl, iteF ⟨_, _, _, pa, aa, past, now, ahead, sv, nv, rfl, (d8.same u9).mono (by omega)⟩⟩
        | true =>
          obtain ⟨sp, ne⟩ := hb9 rfl
          refine ⟨true, rfl, iteT ?_⟩
          have da9 := da.ts (TS.of u9)
          refine ⟨dv, rfl, dv, de, rfl, da9, sp, ok, fun HT uT => ?_⟩
          have d9 := d8.same (u9.trans uT)
          have daT := da9.ts (TS.of uT)
          refine ⟨.ref m, rfl, dv, rfl, _, m, pa, aa, dv, past, now, ahead, de, rfl, d9.duo.md, daT, ok, wn, wp, wa, by omega, d9.nx, fun r1 hr1 HM t9 aa' f2 aa2 ha md2 z9 => ?_⟩
          refine ⟨t9, _, rfl, .inl (.inl z9), rfl, _, _, rfl, _, _, rfl, rfl, ?_⟩
          obtain ⟨dx, hdk⟩ := dk_frm d9.duo f2 d9.d1
          have tx := deW_ok sp ok nb ne
          have bk9 := d9.duo.bk.frm d9.duo.md f2 ha
          have tc := d9.tc (by omega)
          refine ⟨.ref dk, rfl, dk, dx, _, rfl, hdk, dk_no (by decide +kernel), .str (Txt.join " " (deW de)), rfl, .inl ⟨dk, b, _, Nn (fun c => c = a1) pa aa', past, now, ahead, sv, nv, de, rfl, ⟨dx, hdk⟩, tx.s, tx.n, tx.l, bk9, ok, sp, (md2.na (nx_frm d9.duo f2 aa2 md2 d9.nx)).na, wn, by omega, tc, fun j2 HB hr2 uB => ?_, fun o p n a HB hr2 bkr => ?_⟩⟩
          · obtain rfl := hr1.uniq hr2
            obtain ⟨kin9, fr, duo9⟩ := duo_tem d9.duo f2 aa2 ha md2 uB (fun c o e _ => e) (bk9.same uB)
            have dB := d9.step nDB T.nSB fr ha hr1 duo9
            have daB : DeAt HB dv de := da_frd d9.duo fr daT
            obtain ⟨tv2, ps2, as2, g1, g2, _⟩ := dB.duo.md.ex
            obtain ⟨t2, la2, lb2, xs2, ys2, rfl, j2_, _⟩ := g2.ex
            refine ⟨dv, rfl, .str _, rfl, _, rfl, .ref m, rfl, m, .ref t2, rfl, .inl ⟨_, .inr "now", .inl g1, rfl, (md_now _ _ _).symm⟩, t2, _, _, .int _, rfl, rfl, .inl (.inl j2_), rfl, dv, de, _, past, now, ahead, _, rfl, daB, hr1, tc, (fun o p n a er il => by cases er <;> exact ⟨rfl, (dB.gs.n.w).e⟩), fun HC uC => ?_⟩
            refine ⟨.str _, .str _, _, rfl, .str _, .str _, fun HD uD => ⟨true, rfl, iteF ?_⟩⟩
            exact ⟨_, _, _, pa, aa', _, _, _, _, _, rfl, dB.same (uC.trans uD)⟩

          · obtain rfl := hr1.uniq hr2
            obtain ⟨sm, sv', nv', bk1, k1, k2⟩ := bkr
            obtain ⟨kin9, fr, duo9⟩ := duo_tem d9.duo f2 aa2 ha md2 (Same.refl _) sm bk1
            have dB := d9.step nDB T.nSB fr ha hr1 duo9
            have daB : DeAt HB dv de := da_frd d9.duo fr daT
            obtain ⟨tv2, ps2, as2, g1, g2, _⟩ := dB.duo.md.ex
            obtain ⟨t2, la2, lb2, xs2, ys2, rfl, j2_, _⟩ := g2.ex
            refine ⟨dv, rfl, .str _, rfl, _, rfl, .ref m, rfl, m, .ref t2, rfl, .inl ⟨_, .inr "now", .inl g1, rfl, (md_now _ _ _).symm⟩, t2, _, _, .int _, rfl, rfl, .inl (.inl j2_), rfl, dv, de, _, past, now, ahead, _, rfl, daB, hr1, tc, (fun o p n a er il => by cases er <;> exact ⟨rfl, (dB.gs.n.w).e⟩), fun HC uC => ?_⟩
            refine ⟨.str _, .str _, _, rfl, .str _, .str _, fun HD uD => ⟨true, rfl, iteF ?_⟩⟩
            exact ⟨_, _, _, pa, aa', _, _, _, _, _, rfl, dB.same (uC.trans uD)⟩

    clear d7 d8 wn wp wa ln da ok nb
    clear pa aa past now ahead sv nv
    rintro σ' H9 ⟨y10, y11, y12, pa, aa, past, now, ahead, sv, nv, rfl, d9⟩
    have ln := d9.ln
    have wn := d9.gs.n.w
    -- stands
    refine ⟨fun σ' H' => σ' = [some (.ref a1), some (.int L), some (.int W), some (.int cr), some (.ref dk), some (.ref dk2), some (.ref m), some (.ref b), some (.int (0 + (j : Int))), some dv, y10, y11, y12] ∧ Same H9 H', ?_, ?_⟩
    · refine ⟨.ref b, rfl, .ref m, rfl, _, b, m, pa, aa, past, now, ahead, sv, nv, rfl, d9.duo, wn, by omega, fun HA uA => ⟨true, rfl, iteF ?_⟩⟩
      obtain ⟨dx, hdk⟩ := d9.d1.same uA
      exact ⟨.ref dk, rfl, dk, dx, _, rfl, hdk, dk_no (by decide +kernel), dk, b, rfl, ⟨dx, hdk⟩, .ref m, rfl, _, b, m, pa, aa, past, now, ahead, sv, nv, rfl, (d9.same uA).duo, wn, by omega, fun HB uB => ⟨true, rfl, iteF ⟨rfl, uA.trans uB⟩⟩⟩
    rintro σ' HA ⟨rfl, uA⟩
    have dA := d9.same uA
    have fin : ∀ {HB : Hp}, Same HA HB → ∃ y8 y9 y10_1 y11_1 y12_1 pa aa past now ahead sv nv, ([some (.ref a1), some (.int L), some (.int W), some (.int cr), some (.ref dk), some (.ref dk2), some (.ref m), some (.ref b), some (.int (0 + (j : Int))), some dv, y10, y11, y12] : L2.St) = [some (.ref a1), some (.int L), some (.int W), some (.int cr), some (.ref dk), some (.ref dk2), some (.ref m), some (.ref b), y8, y9, y10_1, y11_1, y12_1] ∧ D42 CDesk BK S a1 dk dk2 b b2 m ns W HB pa aa past now ahead sv nv (26 + (j + 1)) := fun {HB} uB => ⟨_, _, _, _, _, pa, aa, past, now, ahead, sv, nv, rfl, dA.same uB⟩
    -- the page
    refine ⟨.int (0 + (j : Int)), rfl, _, 5, rfl, rfl, (by show (0 : Int) < 5; decide), rfl, _, rfl, ite2 (fun _ => ?_) (fun _ => iteF (fin (Same.refl _)))⟩
    obtain ⟨dx, hdk⟩ := dA.d1
    have tl := dA.gs.n.tl (by omega)
    have sts := (sts_at (past := past) (now := now) (ahead := ahead)).1
    refine ⟨.ref dk, rfl, dk, dx, _, rfl, hdk, dk_no (by decide +kernel), .inr ⟨dk, b, Nn (fun c => c = a1) pa aa, _, _, sv, nv, now, rfl, ⟨dx, hdk⟩, dA.duo.bk, sts, wn, tl, fun HB uB => ?_⟩⟩
    obtain ⟨tv, ps, as, h1, h2, h3, h4, h5, h6, h7⟩ := (dA.same uB).duo.md.ex
    refine ⟨.ref m, rfl, m, tv, rfl, .inl ⟨_, .inr "now", .inl h1, rfl, (md_now tv pa aa).symm⟩, tv, _, now, rfl, h2, wn, tl, fun HC uC => ?_⟩
    exact ⟨.str _, .str _, _, rfl, .str _, .str _, fun HD uD => ⟨true, rfl, iteF (fin (uB.trans (uC.trans uD)))⟩⟩
  clear d5
  rintro σ' H7 ⟨y8, y9, y10, y11, y12, pa, aa, past, now, ahead, sv, nv, rfl, d7⟩
  obtain ⟨dx, hdk⟩ := d7.d2
  have wW : Wf ⟨W, 1, [], []⟩ := ⟨List.Pairwise.nil, List.Pairwise.nil, fun r hr => (nomatch hr), fun r hr => (nomatch hr), Nat.zero_le _, Nat.zero_le _, fun r hr => (nomatch hr), hW⟩
  have tlW : Tl ⟨W, 1, [], []⟩ := ⟨⟨hW.1, hW.2⟩, ⟨by show (0 : Int) ≤ 1; decide, by show (1 : Int) < 10 ^ 40; decide⟩, fun r hr => (nomatch hr), fun r hr => (nomatch hr)⟩
  refine ⟨.ref dk2, rfl, dk2, dx, _, rfl, hdk, dk_no (by decide +kernel), dk2, b2, rfl, ⟨dx, hdk⟩, .int W, rfl, W, rfl, fun H8 m2 pa2 aa2 u8 nm2 np2 na2 md2 => ?_⟩
  have o8 : BkAt BK S (Nn (fun c => c = a1) pa2 aa2) H8 b2 [⟨W, 1, [], []⟩] 0 .non .non := (d7.o2.more fun x us z e => by
    rcases z with z | z | z
    · rw [z, np2] at e; cases e
    · rw [z, na2] at e; cases e
    · exact .inr (.inr z)).same u8
  refine ⟨fun c => c = a1, b2, m2, pa2, aa2, [], ⟨W, 1, [], []⟩, [], .non, .non, rfl, ⟨o8, md2 _ d7.nx⟩, wW, by decide, fun H9 u9 => ?_⟩
  refine ⟨true, rfl, iteT ?_⟩
  have hdk9 := u9 _ _ (u8 _ _ hdk)
  refine ⟨.ref dk2, rfl, dk2, dx, _, rfl, hdk9, dk_no (by decide +kernel), .inr ⟨dk2, b2, _, _, _, .non, .non, ⟨W, 1, [], []⟩, rfl, ⟨dx, hdk9⟩, o8.same u9, rfl, wW, tlW, fun HB uB => ?_⟩⟩
  have kl := sI_len tlW.e
  have l5 : ("song " : Str).length = 5 := by decide +kernel
  have l2 : (" 1" : Str).length = 2 := by decide +kernel
  refine ⟨.int W, rfl, .int W, rfl, log40 tlW.e, "song ", sI W, rfl, rfl, fitL (by have : (sI W).length ≤ 40 := kl; omega), _, " 1", rfl, rfl, fitL (by have : (sI W).length ≤ 40 := kl; simp only [ap_len]; omega), ?_⟩
  rw [page0]
  exact ⟨.str _, .str _, _, rfl, .str _, .str _, fun HD uD => q HD⟩
end
end Rep
namespace Rep
open PySem PySem.Spec PyProof.Rows L2
/-- the end of a law with tables, from what the head knows of the top -/
theorem walk_top {l : PySem.W.OpenLaw} {n k : Nat} {q : Program} {loose : List Str} {XP : (Str → Option Value) → Heap → Prop} {YP : World → Heap → Prop} {d : DefRec} {K : Params → PySem.W.Frag} {CX : World → CXT} {x : Str}
    (hn : l.most = some n) (hn2 : n ≤ sizeLine) (hdf : d.params.defaults = []) (hr : Room k callerA) (hY : ∀ (w : World) (h : Heap), YP w h → (K w.params).In h)
    (F : ∀ (w : World) (mg mb : Str → Option Value) (mean : ExcName → Option Value) (fa : Addr) (h : Heap), (K w.params).In h → Top q (PySem.W.looseW q loose) mean mg mb h → mg d.name = some (.ref fa) → LamX.LawAtS l w (K w.params) (CX w) k n x mg fa h)
    (hCX : ∀ (w : World) (H : Hp) (s : Shared) (e : Value) (s' : Shared), CX w [] H s (fun _ _ _ => False) e s' → False) :
    PySem.W.WalkO q loose XP YP l.row.toRowW d [] (fun f vs => PySem.call f vs) := by
  refine Att.attach_callB hn hdf fun w s₀ s₁ mg mb fa o pm cd doc a vs ns G Y ho hd hcd hmg hobj hints hlen hbits hg => ?_
  have KX := hY w _ Y
  obtain ⟨fd, cs, sp, hT, nT, C, hb, hsp, hF⟩ := F w mg mb _ fa _ KX G.T hmg
  exact LamX.law_callTs KX G.T.g G.T.b G.T.builtins G.T.nolimit hg hT nT C G.T.bmain hobj hints (Nat.le_trans hlen hn2) hr hF hb (fun H hH hS => hsp H a ns hlen hbits hH hS) fun H e s' => hCX w H s₁ e s'
theorem no_tab {K : PySem.W.Frag} {h : Heap} {P : Addr} (X : K.In h) (hK : PySem.W.noTabs K = true) (hP : h.get? P = some (PySem.W.tabObj #[])) : K.lookup P = none := by
  cases e : K.lookup P with
  | none => rfl
  | some o =>
    have e1 := X P o e
    rw [hP] at e1
    cases e1
    have h2 := List.all_eq_true.mp hK (P, _) (PySem.W.mem_of_lookupK e)
    exact absurd (show false = true from h2) Bool.false_ne_true
end Rep
namespace Rep
open PySem PySem.Spec PyProof.Rows L2 L2H RepHot
theorem all_mk {l : PySem.W.OpenLaw} {w : World} {K : PySem.W.Frag} {h : Heap} {q : Program} {loose : List Str} {mean : ExcName → Option Value} {mg mb : Str → Option Value} {fa f1 f2 f3 f4 f5 f6 f7 f8 f9 f10 f11 f12 f13 f14 f15 f16 f17 f18 f19 f20 f21 f22 f23 f24 f25 f26 f27 f28 f29 f30 f31 f32 f33 f34 f35 f36 f37 f38 f39 f40 f41 f42 f43 f44 f45 f46 f47 f48 f49 f50 f51 f52 f53 f54 f55 f56 f57 f58 f59 f60 f61 f62 f63 f64 f65 f66 f67 f68 f69 f70 f71 f72 f73 f74 f75 C_Sheet C_Book C_Desk C_BadLength C_BadStretch C_NoPlace C_NoNumber C_BadLetter C_Full C_InUse C_NothingLeft C_BadPage C_RepriseError C_Unfit : Addr} (X : K.In h) (TT : Top q loose mean mg mb h) (hfa : mg "law" = some (.ref fa))
    {od1 an1 od2 an2 od3 an3 od4 an4 od5 an5 od6 an6 od7 an7 od8 an8 od9 an9 od10 an10 od11 an11 od12 an12 od13 an13 od14 an14 od15 an15 od16 an16 od17 an17 od18 an18 od19 an19 od20 an20 od21 an21 od22 an22 od23 an23 od24 an24 od25 an25 od26 an26 od27 an27 od28 an28 od29 an29 od30 an30 od31 an31 od32 an32 od33 an33 od34 an34 od35 an35 od36 an36 od37 an37 od38 an38 od39 an39 od40 an40 od41 an41 od42 an42 od43 an43 od44 an44 od45 an45 od46 an46 od47 an47 od48 an48 od49 an49 od50 an50 od51 an51 od52 an52 od53 an53 od54 an54 od55 an55 od56 an56 od57 an57 od58 an58 od59 an59 od60 an60 od61 an61 od62 an62 od63 an63 od64 an64 od65 an65 od66 an66 od67 an67 od68 an68 od69 an69 od70 an70 od71 an71 od72 an72 od73 an73 od74 an74 od75 an75 : Option Addr} {sl1 sl2 sl3 sl4 sl5 sl6 sl7 sl8 sl9 sl10 sl11 sl12 sl13 sl14 sl15 sl16 sl17 sl18 sl19 sl20 sl21 sl22 sl23 sl24 sl25 sl26 sl27 sl28 sl29 sl30 sl31 sl32 sl33 sl34 sl35 sl36 sl37 sl38 sl39 sl40 sl41 sl42 sl43 sl44 sl45 sl46 sl47 sl48 sl49 sl50 sl51 sl52 sl53 sl54 sl55 sl56 sl57 sl58 sl59 sl60 sl61 sl62 sl63 sl64 sl65 sl66 sl67 sl68 sl69 sl70 sl71 sl72 sl73 sl74 sl75 : Array (Option Value)} {oc1 kV1 dc1 pm1 cd1 ct1 oc2 kV2 dc2 pm2 cd2 ct2 oc3 kV3 dc3 pm3 cd3 ct3 oc4 kV4 dc4 pm4 cd4 ct4 oc5 kV5 dc5 pm5 cd5 ct5 oc6 kV6 dc6 pm6 cd6 ct6 oc7 kV7 dc7 pm7 cd7 ct7 oc8 kV8 dc8 pm8 cd8 ct8 oc9 kV9 dc9 pm9 cd9 ct9 oc10 kV10 dc10 pm10 cd10 ct10 oc11 kV11 dc11 pm11 cd11 ct11 oc12 kV12 dc12 pm12 cd12 ct12 oc13 kV13 dc13 pm13 cd13 ct13 oc14 kV14 dc14 pm14 cd14 ct14 oc15 kV15 dc15 pm15 cd15 ct15 oc16 kV16 dc16 pm16 cd16 ct16 oc17 kV17 dc17 pm17 cd17 ct17 oc18 kV18 dc18 pm18 cd18 ct18 oc19 kV19 dc19 pm19 cd19 ct19 oc20 kV20 dc20 pm20 cd20 ct20 oc21 kV21 dc21 pm21 cd21 ct21 oc22 kV22 dc22 pm22 cd22 ct22 oc23 kV23 dc23 pm23 cd23 ct23 oc24 kV24 dc24 pm24 cd24 ct24 oc25 kV25 dc25 pm25 cd25 ct25 oc26 kV26 dc26 pm26 cd26 ct26 oc27 kV27 dc27 pm27 cd27 ct27 oc28 kV28 dc28 pm28 cd28 ct28 oc29 kV29 dc29 pm29 cd29 ct29 oc30 kV30 dc30 pm30 cd30 ct30 oc31 kV31 dc31 pm31 cd31 ct31 oc32 kV32 dc32 pm32 cd32 ct32 oc33 kV33 dc33 pm33 cd33 ct33 oc34 kV34 dc34 pm34 cd34 ct34 oc35 kV35 dc35 pm35 cd35 ct35 oc36 kV36 dc36 pm36 cd36 ct36 oc37 kV37 dc37 pm37 cd37 ct37 oc38 kV38 dc38 pm38 cd38 ct38 oc39 kV39 dc39 pm39 cd39 ct39 oc40 kV40 dc40 pm40 cd40 ct40 oc41 kV41 dc41 pm41 cd41 ct41 oc42 kV42 dc42 pm42 cd42 ct42 oc43 kV43 dc43 pm43 cd43 ct43 oc44 kV44 dc44 pm44 cd44 ct44 oc45 kV45 dc45 pm45 cd45 ct45 oc46 kV46 dc46 pm46 cd46 ct46 oc47 kV47 dc47 pm47 cd47 ct47 oc48 kV48 dc48 pm48 cd48 ct48 oc49 kV49 dc49 pm49 cd49 ct49 oc50 kV50 dc50 pm50 cd50 ct50 oc51 kV51 dc51 pm51 cd51 ct51 oc52 kV52 dc52 pm52 cd52 ct52 oc53 kV53 dc53 pm53 cd53 ct53 oc54 kV54 dc54 pm54 cd54 ct54 oc55 kV55 dc55 pm55 cd55 ct55 oc56 kV56 dc56 pm56 cd56 ct56 oc57 kV57 dc57 pm57 cd57 ct57 oc58 kV58 dc58 pm58 cd58 ct58 oc59 kV59 dc59 pm59 cd59 ct59 oc60 kV60 dc60 pm60 cd60 ct60 oc61 kV61 dc61 pm61 cd61 ct61 oc62 kV62 dc62 pm62 cd62 ct62 oc63 kV63 dc63 pm63 cd63 ct63 oc64 kV64 dc64 pm64 cd64 ct64 oc65 kV65 dc65 pm65 cd65 ct65 oc66 kV66 dc66 pm66 cd66 ct66 oc67 kV67 dc67 pm67 cd67 ct67 oc68 kV68 dc68 pm68 cd68 ct68 oc69 kV69 dc69 pm69 cd69 ct69 oc70 kV70 dc70 pm70 cd70 ct70 oc71 kV71 dc71 pm71 cd71 ct71 oc72 kV72 dc72 pm72 cd72 ct72 oc73 kV73 dc73 pm73 cd73 ct73 oc74 kV74 dc74 pm74 cd74 ct74 oc75 kV75 dc75 pm75 cd75 ct75 v_TOO_LONG v_MOST v_MOST_FIGURES : Value}
    (aC_Sheet : PySem.W.nsIn K mainGlobals "Sheet" = some (some (.ref C_Sheet)))
    (aC_Book : PySem.W.nsIn K mainGlobals "Book" = some (some (.ref C_Book)))
    (aC_Desk : PySem.W.nsIn K mainGlobals "Desk" = some (some (.ref C_Desk)))
    (aC_BadLength : PySem.W.nsIn K mainGlobals "BadLength" = some (some (.ref C_BadLength)))
    (aC_BadStretch : PySem.W.nsIn K mainGlobals "BadStretch" = some (some (.ref C_BadStretch)))
    (aC_NoPlace : PySem.W.nsIn K mainGlobals "NoPlace" = some (some (.ref C_NoPlace)))
    (aC_NoNumber : PySem.W.nsIn K mainGlobals "NoNumber" = some (some (.ref C_NoNumber)))
    (aC_BadLetter : PySem.W.nsIn K mainGlobals "BadLetter" = some (some (.ref C_BadLetter)))
    (aC_Full : PySem.W.nsIn K mainGlobals "Full" = some (some (.ref C_Full)))
    (aC_InUse : PySem.W.nsIn K mainGlobals "InUse" = some (some (.ref C_InUse)))
    (aC_NothingLeft : PySem.W.nsIn K mainGlobals "NothingLeft" = some (some (.ref C_NothingLeft)))
    (aC_BadPage : PySem.W.nsIn K mainGlobals "BadPage" = some (some (.ref C_BadPage)))
    (aC_RepriseError : PySem.W.nsIn K mainGlobals "RepriseError" = some (some (.ref C_RepriseError)))
    (aC_Unfit : PySem.W.nsIn K mainGlobals "Unfit" = some (some (.ref C_Unfit)))
    (a1 : PySem.W.nsIn K mainGlobals "check_length" = some (some (.ref f1)))
    (l1 : K.lookup f1 = some ⟨oc1, od1, .func (PySem.W.fnOf "check_length" "check_length" (defArgs sCheck_length) (defBody sCheck_length) (defScope sCheck_length) .none kV1 dc1 pm1 an1 cd1 ct1), sl1⟩)
    (c1 : PySem.W.codeIn K cd1 "check_length" = true)
    (k1 : PySem.W.keepIn K (.ref f1) = true)
    (a2 : PySem.W.nsIn K mainGlobals "check_stretch" = some (some (.ref f2)))
    (l2 : K.lookup f2 = some ⟨oc2, od2, .func (PySem.W.fnOf "check_stretch" "check_stretch" (defArgs sCheck_stretch) (defBody sCheck_stretch) (defScope sCheck_stretch) .none kV2 dc2 pm2 an2 cd2 ct2), sl2⟩)
    (c2 : PySem.W.codeIn K cd2 "check_stretch" = true)
    (k2 : PySem.W.keepIn K (.ref f2) = true)
    (a3 : PySem.W.nsIn K mainGlobals "check_sayings" = some (some (.ref f3)))
    (l3 : K.lookup f3 = some ⟨oc3, od3, .func (PySem.W.fnOf "check_sayings" "check_sayings" (defArgs sCheck_sayings) (defBody sCheck_sayings) (defScope sCheck_sayings) .none kV3 dc3 pm3 an3 cd3 ct3), sl3⟩)
    (c3 : PySem.W.codeIn K cd3 "check_sayings" = true)
    (k3 : PySem.W.keepIn K (.ref f3) = true)
    (a4 : PySem.W.nsIn K mainGlobals "check_letter" = some (some (.ref f4)))
    (l4 : K.lookup f4 = some ⟨oc4, od4, .func (PySem.W.fnOf "check_letter" "check_letter" (defArgs sCheck_letter) (defBody sCheck_letter) (defScope sCheck_letter) .none kV4 dc4 pm4 an4 cd4 ct4), sl4⟩)
    (c4 : PySem.W.codeIn K cd4 "check_letter" = true)
    (k4 : PySem.W.keepIn K (.ref f4) = true)
    (a5 : PySem.W.nsIn K mainGlobals "check_memory" = some (some (.ref f5)))
    (l5 : K.lookup f5 = some ⟨oc5, od5, .func (PySem.W.fnOf "check_memory" "check_memory" (defArgs sCheck_memory) (defBody sCheck_memory) (defScope sCheck_memory) .none kV5 dc5 pm5 an5 cd5 ct5), sl5⟩)
    (c5 : PySem.W.codeIn K cd5 "check_memory" = true)
    (k5 : PySem.W.keepIn K (.ref f5) = true)
    (a6 : PySem.W.nsIn K mainGlobals "place_of" = some (some (.ref f6)))
    (l6 : K.lookup f6 = some ⟨oc6, od6, .func (PySem.W.fnOf "place_of" "place_of" (defArgs sPlace_of) (defBody sPlace_of) (defScope sPlace_of) .none kV6 dc6 pm6 an6 cd6 ct6), sl6⟩)
    (c6 : PySem.W.codeIn K cd6 "place_of" = true)
    (k6 : PySem.W.keepIn K (.ref f6) = true)
    (a7 : PySem.W.nsIn K mainGlobals "without" = some (some (.ref f7)))
    (l7 : K.lookup f7 = some ⟨oc7, od7, .func (PySem.W.fnOf "without" "without" (defArgs sWithout) (defBody sWithout) (defScope sWithout) .none kV7 dc7 pm7 an7 cd7 ct7), sl7⟩)
    (c7 : PySem.W.codeIn K cd7 "without" = true)
    (k7 : PySem.W.keepIn K (.ref f7) = true)
    (a8 : PySem.W.nsIn K mainGlobals "unnumbered" = some (some (.ref f8)))
    (l8 : K.lookup f8 = some ⟨oc8, od8, .func (PySem.W.fnOf "unnumbered" "unnumbered" (defArgs sUnnumbered) (defBody sUnnumbered) (defScope sUnnumbered) .none kV8 dc8 pm8 an8 cd8 ct8), sl8⟩)
    (c8 : PySem.W.codeIn K cd8 "unnumbered" = true)
    (k8 : PySem.W.keepIn K (.ref f8) = true)
    (a9 : PySem.W.nsIn K mainGlobals "check_room" = some (some (.ref f9)))
    (l9 : K.lookup f9 = some ⟨oc9, od9, .func (PySem.W.fnOf "check_room" "check_room" (defArgs sCheck_room) (defBody sCheck_room) (defScope sCheck_room) .none kV9 dc9 pm9 an9 cd9 ct9), sl9⟩)
    (c9 : PySem.W.codeIn K cd9 "check_room" = true)
    (k9 : PySem.W.keepIn K (.ref f9) = true)
    (a10 : PySem.W.nsIn K mainGlobals "check_change" = some (some (.ref f10)))
    (l10 : K.lookup f10 = some ⟨oc10, od10, .func (PySem.W.fnOf "check_change" "check_change" (defArgs sCheck_change) (defBody sCheck_change) (defScope sCheck_change) .none kV10 dc10 pm10 an10 cd10 ct10), sl10⟩)
    (c10 : PySem.W.codeIn K cd10 "check_change" = true)
    (k10 : PySem.W.keepIn K (.ref f10) = true)
    (a11 : PySem.W.nsIn K mainGlobals "words_of" = some (some (.ref f11)))
    (l11 : K.lookup f11 = some ⟨oc11, od11, .func (PySem.W.fnOf "words_of" "words_of" (defArgs sWords_of) (defBody sWords_of) (defScope sWords_of) .none kV11 dc11 pm11 an11 cd11 ct11), sl11⟩)
    (c11 : PySem.W.codeIn K cd11 "words_of" = true)
    (k11 : PySem.W.keepIn K (.ref f11) = true)
    (a12 : PySem.W.nsIn K mainGlobals "number_of" = some (some (.ref f12)))
    (l12 : K.lookup f12 = some ⟨oc12, od12, .func (PySem.W.fnOf "number_of" "number_of" (defArgs sNumber_of) (defBody sNumber_of) (defScope sNumber_of) .none kV12 dc12 pm12 an12 cd12 ct12), sl12⟩)
    (c12 : PySem.W.codeIn K cd12 "number_of" = true)
    (k12 : PySem.W.keepIn K (.ref f12) = true)
    (a13 : PySem.W.nsIn K mainGlobals "turned_of" = some (some (.ref f13)))
    (l13 : K.lookup f13 = some ⟨oc13, od13, .func (PySem.W.fnOf "turned_of" "turned_of" (defArgs sTurned_of) (defBody sTurned_of) (defScope sTurned_of) .none kV13 dc13 pm13 an13 cd13 ct13), sl13⟩)
    (c13 : PySem.W.codeIn K cd13 "turned_of" = true)
    (k13 : PySem.W.keepIn K (.ref f13) = true)
    (a14 : PySem.W.nsIn K mainGlobals "saying_of" = some (some (.ref f14)))
    (l14 : K.lookup f14 = some ⟨oc14, od14, .func (PySem.W.fnOf "saying_of" "saying_of" (defArgs sSaying_of) (defBody sSaying_of) (defScope sSaying_of) .none kV14 dc14 pm14 an14 cd14 ct14), sl14⟩)
    (c14 : PySem.W.codeIn K cd14 "saying_of" = true)
    (k14 : PySem.W.keepIn K (.ref f14) = true)
    (a15 : PySem.W.nsIn K mainGlobals "way_word" = some (some (.ref f15)))
    (l15 : K.lookup f15 = some ⟨oc15, od15, .func (PySem.W.fnOf "way_word" "way_word" (defArgs sWay_word) (defBody sWay_word) (defScope sWay_word) .none kV15 dc15 pm15 an15 cd15 ct15), sl15⟩)
    (c15 : PySem.W.codeIn K cd15 "way_word" = true)
    (k15 : PySem.W.keepIn K (.ref f15) = true)
    (a16 : PySem.W.nsIn K mainGlobals "page" = some (some (.ref f16)))
    (l16 : K.lookup f16 = some ⟨oc16, od16, .func (PySem.W.fnOf "page" "page" (defArgs sPage) (defBody sPage) (defScope sPage) .none kV16 dc16 pm16 an16 cd16 ct16), sl16⟩)
    (c16 : PySem.W.codeIn K cd16 "page" = true)
    (k16 : PySem.W.keepIn K (.ref f16) = true)
    (a17 : PySem.W.nsIn K mainGlobals "do_order" = some (some (.ref f17)))
    (l17 : K.lookup f17 = some ⟨oc17, od17, .func (PySem.W.fnOf "do_order" "do_order" (defArgs sDo_order) (defBody sDo_order) (defScope sDo_order) .none kV17 dc17 pm17 an17 cd17 ct17), sl17⟩)
    (c17 : PySem.W.codeIn K cd17 "do_order" = true)
    (k17 : PySem.W.keepIn K (.ref f17) = true)
    (a18 : PySem.W.nsIn K mainGlobals "answer" = some (some (.ref f18)))
    (l18 : K.lookup f18 = some ⟨oc18, od18, .func (PySem.W.fnOf "answer" "answer" (defArgs sAnswer) (defBody sAnswer) (defScope sAnswer) .none kV18 dc18 pm18 an18 cd18 ct18), sl18⟩)
    (c18 : PySem.W.codeIn K cd18 "answer" = true)
    (k18 : PySem.W.keepIn K (.ref f18) = true)
    (a19 : PySem.W.nsIn K mainGlobals "_law_mix" = some (some (.ref f19)))
    (l19 : K.lookup f19 = some ⟨oc19, od19, .func (PySem.W.fnOf "_law_mix" "_law_mix" (defArgs sMix) (defBody sMix) (defScope sMix) .none kV19 dc19 pm19 an19 cd19 ct19), sl19⟩)
    (c19 : PySem.W.codeIn K cd19 "_law_mix" = true)
    (k19 : PySem.W.keepIn K (.ref f19) = true)
    (a20 : PySem.W.nsIn K mainGlobals "_law_raw" = some (some (.ref f20)))
    (l20 : K.lookup f20 = some ⟨oc20, od20, .func (PySem.W.fnOf "_law_raw" "_law_raw" (defArgs sRaw) (defBody sRaw) (defScope sRaw) .none kV20 dc20 pm20 an20 cd20 ct20), sl20⟩)
    (c20 : PySem.W.codeIn K cd20 "_law_raw" = true)
    (k20 : PySem.W.keepIn K (.ref f20) = true)
    (a21 : PySem.W.nsIn K mainGlobals "_law_digits" = some (some (.ref f21)))
    (l21 : K.lookup f21 = some ⟨oc21, od21, .func (PySem.W.fnOf "_law_digits" "_law_digits" (defArgs sDig) (defBody sDig) (defScope sDig) .none kV21 dc21 pm21 an21 cd21 ct21), sl21⟩)
    (c21 : PySem.W.codeIn K cd21 "_law_digits" = true)
    (k21 : PySem.W.keepIn K (.ref f21) = true)
    (a22 : PySem.W.nsIn K mainGlobals "_law_book" = some (some (.ref f22)))
    (l22 : K.lookup f22 = some ⟨oc22, od22, .func (PySem.W.fnOf "_law_book" "_law_book" (defArgs s_law_book) (defBody s_law_book) (defScope s_law_book) .none kV22 dc22 pm22 an22 cd22 ct22), sl22⟩)
    (c22 : PySem.W.codeIn K cd22 "_law_book" = true)
    (k22 : PySem.W.keepIn K (.ref f22) = true)
    (a23 : PySem.W.nsIn K mainGlobals "_law_length_next" = some (some (.ref f23)))
    (l23 : K.lookup f23 = some ⟨oc23, od23, .func (PySem.W.fnOf "_law_length_next" "_law_length_next" (defArgs s_law_length_next) (defBody s_law_length_next) (defScope s_law_length_next) .none kV23 dc23 pm23 an23 cd23 ct23), sl23⟩)
    (c23 : PySem.W.codeIn K cd23 "_law_length_next" = true)
    (k23 : PySem.W.keepIn K (.ref f23) = true)
    (a24 : PySem.W.nsIn K mainGlobals "_law_good_stretch" = some (some (.ref f24)))
    (l24 : K.lookup f24 = some ⟨oc24, od24, .func (PySem.W.fnOf "_law_good_stretch" "_law_good_stretch" (defArgs s_law_good_stretch) (defBody s_law_good_stretch) (defScope s_law_good_stretch) .none kV24 dc24 pm24 an24 cd24 ct24), sl24⟩)
    (c24 : PySem.W.codeIn K cd24 "_law_good_stretch" = true)
    (k24 : PySem.W.keepIn K (.ref f24) = true)
    (a25 : PySem.W.nsIn K mainGlobals "_law_numbers" = some (some (.ref f25)))
    (l25 : K.lookup f25 = some ⟨oc25, od25, .func (PySem.W.fnOf "_law_numbers" "_law_numbers" (defArgs s_law_numbers) (defBody s_law_numbers) (defScope s_law_numbers) .none kV25 dc25 pm25 an25 cd25 ct25), sl25⟩)
    (c25 : PySem.W.codeIn K cd25 "_law_numbers" = true)
    (k25 : PySem.W.keepIn K (.ref f25) = true)
    (a26 : PySem.W.nsIn K mainGlobals "_law_row_next" = some (some (.ref f26)))
    (l26 : K.lookup f26 = some ⟨oc26, od26, .func (PySem.W.fnOf "_law_row_next" "_law_row_next" (defArgs s_law_row_next) (defBody s_law_row_next) (defScope s_law_row_next) .none kV26 dc26 pm26 an26 cd26 ct26), sl26⟩)
    (c26 : PySem.W.codeIn K cd26 "_law_row_next" = true)
    (k26 : PySem.W.keepIn K (.ref f26) = true)
    (a27 : PySem.W.nsIn K mainGlobals "_law_do_model" = some (some (.ref f27)))
    (l27 : K.lookup f27 = some ⟨oc27, od27, .func (PySem.W.fnOf "_law_do_model" "_law_do_model" (defArgs s_law_do_model) (defBody s_law_do_model) (defScope s_law_do_model) .none kV27 dc27 pm27 an27 cd27 ct27), sl27⟩)
    (c27 : PySem.W.codeIn K cd27 "_law_do_model" = true)
    (k27 : PySem.W.keepIn K (.ref f27) = true)
    (a28 : PySem.W.nsIn K mainGlobals "_law_same" = some (some (.ref f28)))
    (l28 : K.lookup f28 = some ⟨oc28, od28, .func (PySem.W.fnOf "_law_same" "_law_same" (defArgs sSame) (defBody sSame) (defScope sSame) .none kV28 dc28 pm28 an28 cd28 ct28), sl28⟩)
    (c28 : PySem.W.codeIn K cd28 "_law_same" = true)
    (k28 : PySem.W.keepIn K (.ref f28) = true)
    (a29 : PySem.W.nsIn K mainGlobals "_law_way_word" = some (some (.ref f29)))
    (l29 : K.lookup f29 = some ⟨oc29, od29, .func (PySem.W.fnOf "_law_way_word" "_law_way_word" (defArgs s_law_way_word) (defBody s_law_way_word) (defScope s_law_way_word) .none kV29 dc29 pm29 an29 cd29 ct29), sl29⟩)
    (c29 : PySem.W.codeIn K cd29 "_law_way_word" = true)
    (k29 : PySem.W.keepIn K (.ref f29) = true)
    (a30 : PySem.W.nsIn K mainGlobals "_law_deed_text" = some (some (.ref f30)))
    (l30 : K.lookup f30 = some ⟨oc30, od30, .func (PySem.W.fnOf "_law_deed_text" "_law_deed_text" (defArgs s_law_deed_text) (defBody s_law_deed_text) (defScope s_law_deed_text) .none kV30 dc30 pm30 an30 cd30 ct30), sl30⟩)
    (c30 : PySem.W.codeIn K cd30 "_law_deed_text" = true)
    (k30 : PySem.W.keepIn K (.ref f30) = true)
    (a31 : PySem.W.nsIn K mainGlobals "_law_refusal_word" = some (some (.ref f31)))
    (l31 : K.lookup f31 = some ⟨oc31, od31, .func (PySem.W.fnOf "_law_refusal_word" "_law_refusal_word" (defArgs s_law_refusal_word) (defBody s_law_refusal_word) (defScope s_law_refusal_word) .none kV31 dc31 pm31 an31 cd31 ct31), sl31⟩)
    (c31 : PySem.W.codeIn K cd31 "_law_refusal_word" = true)
    (k31 : PySem.W.keepIn K (.ref f31) = true)
    (a32 : PySem.W.nsIn K mainGlobals "_law_deed_answer" = some (some (.ref f32)))
    (l32 : K.lookup f32 = some ⟨oc32, od32, .func (PySem.W.fnOf "_law_deed_answer" "_law_deed_answer" (defArgs s_law_deed_answer) (defBody s_law_deed_answer) (defScope s_law_deed_answer) .none kV32 dc32 pm32 an32 cd32 ct32), sl32⟩)
    (c32 : PySem.W.codeIn K cd32 "_law_deed_answer" = true)
    (k32 : PySem.W.keepIn K (.ref f32) = true)
    (a33 : PySem.W.nsIn K mainGlobals "_law_saying" = some (some (.ref f33)))
    (l33 : K.lookup f33 = some ⟨oc33, od33, .func (PySem.W.fnOf "_law_saying" "_law_saying" (defArgs s_law_saying) (defBody s_law_saying) (defScope s_law_saying) .none kV33 dc33 pm33 an33 cd33 ct33), sl33⟩)
    (c33 : PySem.W.codeIn K cd33 "_law_saying" = true)
    (k33 : PySem.W.keepIn K (.ref f33) = true)
    (a34 : PySem.W.nsIn K mainGlobals "_law_letter" = some (some (.ref f34)))
    (l34 : K.lookup f34 = some ⟨oc34, od34, .func (PySem.W.fnOf "_law_letter" "_law_letter" (defArgs s_law_letter) (defBody s_law_letter) (defScope s_law_letter) .none kV34 dc34 pm34 an34 cd34 ct34), sl34⟩)
    (c34 : PySem.W.codeIn K cd34 "_law_letter" = true)
    (k34 : PySem.W.keepIn K (.ref f34) = true)
    (a35 : PySem.W.nsIn K mainGlobals "_law_deed" = some (some (.ref f35)))
    (l35 : K.lookup f35 = some ⟨oc35, od35, .func (PySem.W.fnOf "_law_deed" "_law_deed" (defArgs s_law_deed) (defBody s_law_deed) (defScope s_law_deed) .none kV35 dc35 pm35 an35 cd35 ct35), sl35⟩)
    (c35 : PySem.W.codeIn K cd35 "_law_deed" = true)
    (k35 : PySem.W.keepIn K (.ref f35) = true)
    (a36 : PySem.W.nsIn K mainGlobals "_law_kin" = some (some (.ref f36)))
    (l36 : K.lookup f36 = some ⟨oc36, od36, .func (PySem.W.fnOf "_law_kin" "_law_kin" (defArgs s_law_kin) (defBody s_law_kin) (defScope s_law_kin) .none kV36 dc36 pm36 an36 cd36 ct36), sl36⟩)
    (c36 : PySem.W.codeIn K cd36 "_law_kin" = true)
    (k36 : PySem.W.keepIn K (.ref f36) = true)
    (a37 : PySem.W.nsIn K mainGlobals "_law_do" = some (some (.ref f37)))
    (l37 : K.lookup f37 = some ⟨oc37, od37, .func (PySem.W.fnOf "_law_do" "_law_do" (defArgs s_law_do) (defBody s_law_do) (defScope s_law_do) .none kV37 dc37 pm37 an37 cd37 ct37), sl37⟩)
    (c37 : PySem.W.codeIn K cd37 "_law_do" = true)
    (k37 : PySem.W.keepIn K (.ref f37) = true)
    (a38 : PySem.W.nsIn K mainGlobals "_law_met" = some (some (.ref f38)))
    (l38 : K.lookup f38 = some ⟨oc38, od38, .func (PySem.W.fnOf "_law_met" "_law_met" (defArgs s_law_met) (defBody s_law_met) (defScope s_law_met) .none kV38 dc38 pm38 an38 cd38 ct38), sl38⟩)
    (c38 : PySem.W.codeIn K cd38 "_law_met" = true)
    (k38 : PySem.W.keepIn K (.ref f38) = true)
    (a39 : PySem.W.nsIn K mainGlobals "_law_spoken" = some (some (.ref f39)))
    (l39 : K.lookup f39 = some ⟨oc39, od39, .func (PySem.W.fnOf "_law_spoken" "_law_spoken" (defArgs s_law_spoken) (defBody s_law_spoken) (defScope s_law_spoken) .none kV39 dc39 pm39 an39 cd39 ct39), sl39⟩)
    (c39 : PySem.W.codeIn K cd39 "_law_spoken" = true)
    (k39 : PySem.W.keepIn K (.ref f39) = true)
    (a40 : PySem.W.nsIn K mainGlobals "_law_stands" = some (some (.ref f40)))
    (l40 : K.lookup f40 = some ⟨oc40, od40, .func (PySem.W.fnOf "_law_stands" "_law_stands" (defArgs s_law_stands) (defBody s_law_stands) (defScope s_law_stands) .none kV40 dc40 pm40 an40 cd40 ct40), sl40⟩)
    (c40 : PySem.W.codeIn K cd40 "_law_stands" = true)
    (k40 : PySem.W.keepIn K (.ref f40) = true)
    (a41 : PySem.W.nsIn K mainGlobals "_law_page_text" = some (some (.ref f41)))
    (l41 : K.lookup f41 = some ⟨oc41, od41, .func (PySem.W.fnOf "_law_page_text" "_law_page_text" (defArgs s_law_page_text) (defBody s_law_page_text) (defScope s_law_page_text) .none kV41 dc41 pm41 an41 cd41 ct41), sl41⟩)
    (c41 : PySem.W.codeIn K cd41 "_law_page_text" = true)
    (k41 : PySem.W.keepIn K (.ref f41) = true)
    (a42 : PySem.W.nsIn K mainGlobals "law" = some (some (.ref f42)))
    (l42 : K.lookup f42 = some ⟨oc42, od42, .func (PySem.W.fnOf "law" "law" (defArgs sLaw) (defBody sLaw) (defScope sLaw) .none kV42 dc42 pm42 an42 cd42 ct42), sl42⟩)
    (c42 : PySem.W.codeIn K cd42 "law" = true)
    (k42 : PySem.W.keepIn K (.ref f42) = true)
    (a43 : PySem.W.findIn K (.ref C_Sheet) "__init__" = some (some (.ref f43)))
    (i43 : PySem.W.isFn K (.ref f43) = true)
    (l43 : K.lookup f43 = some ⟨oc43, od43, .func (PySem.W.fnOf "__init__" "Sheet.__init__" (defArgs sSheetInit) (defBody sSheetInit) (defScope sSheetInit) .none kV43 dc43 pm43 an43 cd43 ct43), sl43⟩)
    (c43 : PySem.W.codeIn K cd43 "Sheet.__init__" = true)
    (k43 : PySem.W.keepIn K (.ref f43) = true)
    (a44 : PySem.W.findIn K (.ref C_Sheet) "with_saying" = some (some (.ref f44)))
    (i44 : PySem.W.isFn K (.ref f44) = true)
    (l44 : K.lookup f44 = some ⟨oc44, od44, .func (PySem.W.fnOf "with_saying" "Sheet.with_saying" (defArgs sSheetWith_saying) (defBody sSheetWith_saying) (defScope sSheetWith_saying) .none kV44 dc44 pm44 an44 cd44 ct44), sl44⟩)
    (c44 : PySem.W.codeIn K cd44 "Sheet.with_saying" = true)
    (k44 : PySem.W.keepIn K (.ref f44) = true)
    (a45 : PySem.W.findIn K (.ref C_Sheet) "with_memory" = some (some (.ref f45)))
    (i45 : PySem.W.isFn K (.ref f45) = true)
    (l45 : K.lookup f45 = some ⟨oc45, od45, .func (PySem.W.fnOf "with_memory" "Sheet.with_memory" (defArgs sSheetWith_memory) (defBody sSheetWith_memory) (defScope sSheetWith_memory) .none kV45 dc45 pm45 an45 cd45 ct45), sl45⟩)
    (c45 : PySem.W.codeIn K cd45 "Sheet.with_memory" = true)
    (k45 : PySem.W.keepIn K (.ref f45) = true)
    (a46 : PySem.W.findIn K (.ref C_Sheet) "counted_on" = some (some (.ref f46)))
    (i46 : PySem.W.isFn K (.ref f46) = true)
    (l46 : K.lookup f46 = some ⟨oc46, od46, .func (PySem.W.fnOf "counted_on" "Sheet.counted_on" (defArgs sSheetCounted_on) (defBody sSheetCounted_on) (defScope sSheetCounted_on) .none kV46 dc46 pm46 an46 cd46 ct46), sl46⟩)
    (c46 : PySem.W.codeIn K cd46 "Sheet.counted_on" = true)
    (k46 : PySem.W.keepIn K (.ref f46) = true)
    (a47 : PySem.W.findIn K (.ref C_Sheet) "without_saying" = some (some (.ref f47)))
    (i47 : PySem.W.isFn K (.ref f47) = true)
    (l47 : K.lookup f47 = some ⟨oc47, od47, .func (PySem.W.fnOf "without_saying" "Sheet.without_saying" (defArgs sSheetWithout_saying) (defBody sSheetWithout_saying) (defScope sSheetWithout_saying) .none kV47 dc47 pm47 an47 cd47 ct47), sl47⟩)
    (c47 : PySem.W.codeIn K cd47 "Sheet.without_saying" = true)
    (k47 : PySem.W.keepIn K (.ref f47) = true)
    (a48 : PySem.W.findIn K (.ref C_Sheet) "without_memory" = some (some (.ref f48)))
    (i48 : PySem.W.isFn K (.ref f48) = true)
    (l48 : K.lookup f48 = some ⟨oc48, od48, .func (PySem.W.fnOf "without_memory" "Sheet.without_memory" (defArgs sSheetWithout_memory) (defBody sSheetWithout_memory) (defScope sSheetWithout_memory) .none kV48 dc48 pm48 an48 cd48 ct48), sl48⟩)
    (c48 : PySem.W.codeIn K cd48 "Sheet.without_memory" = true)
    (k48 : PySem.W.keepIn K (.ref f48) = true)
    (a49 : PySem.W.findIn K (.ref C_Sheet) "amended" = some (some (.ref f49)))
    (i49 : PySem.W.isFn K (.ref f49) = true)
    (l49 : K.lookup f49 = some ⟨oc49, od49, .func (PySem.W.fnOf "amended" "Sheet.amended" (defArgs sSheetAmended) (defBody sSheetAmended) (defScope sSheetAmended) .none kV49 dc49 pm49 an49 cd49 ct49), sl49⟩)
    (c49 : PySem.W.codeIn K cd49 "Sheet.amended" = true)
    (k49 : PySem.W.keepIn K (.ref f49) = true)
    (a50 : PySem.W.findIn K (.ref C_Sheet) "resized" = some (some (.ref f50)))
    (i50 : PySem.W.isFn K (.ref f50) = true)
    (l50 : K.lookup f50 = some ⟨oc50, od50, .func (PySem.W.fnOf "resized" "Sheet.resized" (defArgs sSheetResized) (defBody sSheetResized) (defScope sSheetResized) .none kV50 dc50 pm50 an50 cd50 ct50), sl50⟩)
    (c50 : PySem.W.codeIn K cd50 "Sheet.resized" = true)
    (k50 : PySem.W.keepIn K (.ref f50) = true)
    (a51 : PySem.W.findIn K (.ref C_Sheet) "lengthened" = some (some (.ref f51)))
    (i51 : PySem.W.isFn K (.ref f51) = true)
    (l51 : K.lookup f51 = some ⟨oc51, od51, .func (PySem.W.fnOf "lengthened" "Sheet.lengthened" (defArgs sSheetLengthened) (defBody sSheetLengthened) (defScope sSheetLengthened) .none kV51 dc51 pm51 an51 cd51 ct51), sl51⟩)
    (c51 : PySem.W.codeIn K cd51 "Sheet.lengthened" = true)
    (k51 : PySem.W.keepIn K (.ref f51) = true)
    (a52 : PySem.W.findIn K (.ref C_Sheet) "shortened" = some (some (.ref f52)))
    (i52 : PySem.W.isFn K (.ref f52) = true)
    (l52 : K.lookup f52 = some ⟨oc52, od52, .func (PySem.W.fnOf "shortened" "Sheet.shortened" (defArgs sSheetShortened) (defBody sSheetShortened) (defScope sSheetShortened) .none kV52 dc52 pm52 an52 cd52 ct52), sl52⟩)
    (c52 : PySem.W.codeIn K cd52 "Sheet.shortened" = true)
    (k52 : PySem.W.keepIn K (.ref f52) = true)
    (a53 : PySem.W.findIn K (.ref C_Sheet) "used" = some (some (.ref f53)))
    (i53 : PySem.W.isFn K (.ref f53) = true)
    (l53 : K.lookup f53 = some ⟨oc53, od53, .func (PySem.W.fnOf "used" "Sheet.used" (defArgs sSheetUsed) (defBody sSheetUsed) (defScope sSheetUsed) .none kV53 dc53 pm53 an53 cd53 ct53), sl53⟩)
    (c53 : PySem.W.codeIn K cd53 "Sheet.used" = true)
    (k53 : PySem.W.keepIn K (.ref f53) = true)
    (a54 : PySem.W.findIn K (.ref C_Book) "__init__" = some (some (.ref f54)))
    (i54 : PySem.W.isFn K (.ref f54) = true)
    (l54 : K.lookup f54 = some ⟨oc54, od54, .func (PySem.W.fnOf "__init__" "Book.__init__" (defArgs sBookInit) (defBody sBookInit) (defScope sBookInit) .none kV54 dc54 pm54 an54 cd54 ct54), sl54⟩)
    (c54 : PySem.W.codeIn K cd54 "Book.__init__" = true)
    (k54 : PySem.W.keepIn K (.ref f54) = true)
    (a55 : PySem.W.findIn K (.ref C_Book) "sheet" = some (some (.ref f55)))
    (i55 : PySem.W.isFn K (.ref f55) = true)
    (l55 : K.lookup f55 = some ⟨oc55, od55, .func (PySem.W.fnOf "sheet" "Book.sheet" (defArgs sBookSheet) (defBody sBookSheet) (defScope sBookSheet) .none kV55 dc55 pm55 an55 cd55 ct55), sl55⟩)
    (c55 : PySem.W.codeIn K cd55 "Book.sheet" = true)
    (k55 : PySem.W.keepIn K (.ref f55) = true)
    (a56 : PySem.W.findIn K (.ref C_Book) "length" = some (some (.ref f56)))
    (i56 : PySem.W.isFn K (.ref f56) = true)
    (l56 : K.lookup f56 = some ⟨oc56, od56, .func (PySem.W.fnOf "length" "Book.length" (defArgs sBookLength) (defBody sBookLength) (defScope sBookLength) .none kV56 dc56 pm56 an56 cd56 ct56), sl56⟩)
    (c56 : PySem.W.codeIn K cd56 "Book.length" = true)
    (k56 : PySem.W.keepIn K (.ref f56) = true)
    (a57 : PySem.W.findIn K (.ref C_Book) "coming" = some (some (.ref f57)))
    (i57 : PySem.W.isFn K (.ref f57) = true)
    (l57 : K.lookup f57 = some ⟨oc57, od57, .func (PySem.W.fnOf "coming" "Book.coming" (defArgs sBookComing) (defBody sBookComing) (defScope sBookComing) .none kV57 dc57 pm57 an57 cd57 ct57), sl57⟩)
    (c57 : PySem.W.codeIn K cd57 "Book.coming" = true)
    (k57 : PySem.W.keepIn K (.ref f57) = true)
    (a58 : PySem.W.findIn K (.ref C_Book) "sayings" = some (some (.ref f58)))
    (i58 : PySem.W.isFn K (.ref f58) = true)
    (l58 : K.lookup f58 = some ⟨oc58, od58, .func (PySem.W.fnOf "sayings" "Book.sayings" (defArgs sBookSayings) (defBody sBookSayings) (defScope sBookSayings) .none kV58 dc58 pm58 an58 cd58 ct58), sl58⟩)
    (c58 : PySem.W.codeIn K cd58 "Book.sayings" = true)
    (k58 : PySem.W.keepIn K (.ref f58) = true)
    (a59 : PySem.W.findIn K (.ref C_Book) "memories" = some (some (.ref f59)))
    (i59 : PySem.W.isFn K (.ref f59) = true)
    (l59 : K.lookup f59 = some ⟨oc59, od59, .func (PySem.W.fnOf "memories" "Book.memories" (defArgs sBookMemories) (defBody sBookMemories) (defScope sBookMemories) .none kV59 dc59 pm59 an59 cd59 ct59), sl59⟩)
    (c59 : PySem.W.codeIn K cd59 "Book.memories" = true)
    (k59 : PySem.W.keepIn K (.ref f59) = true)
    (a60 : PySem.W.findIn K (.ref C_Book) "say" = some (some (.ref f60)))
    (i60 : PySem.W.isFn K (.ref f60) = true)
    (l60 : K.lookup f60 = some ⟨oc60, od60, .func (PySem.W.fnOf "say" "Book.say" (defArgs sBookSay) (defBody sBookSay) (defScope sBookSay) .none kV60 dc60 pm60 an60 cd60 ct60), sl60⟩)
    (c60 : PySem.W.codeIn K cd60 "Book.say" = true)
    (k60 : PySem.W.keepIn K (.ref f60) = true)
    (a61 : PySem.W.findIn K (.ref C_Book) "unsay" = some (some (.ref f61)))
    (i61 : PySem.W.isFn K (.ref f61) = true)
    (l61 : K.lookup f61 = some ⟨oc61, od61, .func (PySem.W.fnOf "unsay" "Book.unsay" (defArgs sBookUnsay) (defBody sBookUnsay) (defScope sBookUnsay) .none kV61 dc61 pm61 an61 cd61 ct61), sl61⟩)
    (c61 : PySem.W.codeIn K cd61 "Book.unsay" = true)
    (k61 : PySem.W.keepIn K (.ref f61) = true)
    (a62 : PySem.W.findIn K (.ref C_Book) "amend" = some (some (.ref f62)))
    (i62 : PySem.W.isFn K (.ref f62) = true)
    (l62 : K.lookup f62 = some ⟨oc62, od62, .func (PySem.W.fnOf "amend" "Book.amend" (defArgs sBookAmend) (defBody sBookAmend) (defScope sBookAmend) .none kV62 dc62 pm62 an62 cd62 ct62), sl62⟩)
    (c62 : PySem.W.codeIn K cd62 "Book.amend" = true)
    (k62 : PySem.W.keepIn K (.ref f62) = true)
    (a63 : PySem.W.findIn K (.ref C_Book) "remember" = some (some (.ref f63)))
    (i63 : PySem.W.isFn K (.ref f63) = true)
    (l63 : K.lookup f63 = some ⟨oc63, od63, .func (PySem.W.fnOf "remember" "Book.remember" (defArgs sBookRemember) (defBody sBookRemember) (defScope sBookRemember) .none kV63 dc63 pm63 an63 cd63 ct63), sl63⟩)
    (c63 : PySem.W.codeIn K cd63 "Book.remember" = true)
    (k63 : PySem.W.keepIn K (.ref f63) = true)
    (a64 : PySem.W.findIn K (.ref C_Book) "forget" = some (some (.ref f64)))
    (i64 : PySem.W.isFn K (.ref f64) = true)
    (l64 : K.lookup f64 = some ⟨oc64, od64, .func (PySem.W.fnOf "forget" "Book.forget" (defArgs sBookForget) (defBody sBookForget) (defScope sBookForget) .none kV64 dc64 pm64 an64 cd64 ct64), sl64⟩)
    (c64 : PySem.W.codeIn K cd64 "Book.forget" = true)
    (k64 : PySem.W.keepIn K (.ref f64) = true)
    (a65 : PySem.W.findIn K (.ref C_Book) "lengthen" = some (some (.ref f65)))
    (i65 : PySem.W.isFn K (.ref f65) = true)
    (l65 : K.lookup f65 = some ⟨oc65, od65, .func (PySem.W.fnOf "lengthen" "Book.lengthen" (defArgs sBookLengthen) (defBody sBookLengthen) (defScope sBookLengthen) .none kV65 dc65 pm65 an65 cd65 ct65), sl65⟩)
    (c65 : PySem.W.codeIn K cd65 "Book.lengthen" = true)
    (k65 : PySem.W.keepIn K (.ref f65) = true)
    (a66 : PySem.W.findIn K (.ref C_Book) "shorten" = some (some (.ref f66)))
    (i66 : PySem.W.isFn K (.ref f66) = true)
    (l66 : K.lookup f66 = some ⟨oc66, od66, .func (PySem.W.fnOf "shorten" "Book.shorten" (defArgs sBookShorten) (defBody sBookShorten) (defScope sBookShorten) .none kV66 dc66 pm66 an66 cd66 ct66), sl66⟩)
    (c66 : PySem.W.codeIn K cd66 "Book.shorten" = true)
    (k66 : PySem.W.keepIn K (.ref f66) = true)
    (a67 : PySem.W.findIn K (.ref C_Book) "go_on" = some (some (.ref f67)))
    (i67 : PySem.W.isFn K (.ref f67) = true)
    (l67 : K.lookup f67 = some ⟨oc67, od67, .func (PySem.W.fnOf "go_on" "Book.go_on" (defArgs sBookGo_on) (defBody sBookGo_on) (defScope sBookGo_on) .none kV67 dc67 pm67 an67 cd67 ct67), sl67⟩)
    (c67 : PySem.W.codeIn K cd67 "Book.go_on" = true)
    (k67 : PySem.W.keepIn K (.ref f67) = true)
    (a68 : PySem.W.findIn K (.ref C_Book) "turn" = some (some (.ref f68)))
    (i68 : PySem.W.isFn K (.ref f68) = true)
    (l68 : K.lookup f68 = some ⟨oc68, od68, .func (PySem.W.fnOf "turn" "Book.turn" (defArgs sBookTurn) (defBody sBookTurn) (defScope sBookTurn) .none kV68 dc68 pm68 an68 cd68 ct68), sl68⟩)
    (c68 : PySem.W.codeIn K cd68 "Book.turn" = true)
    (k68 : PySem.W.keepIn K (.ref f68) = true)
    (a69 : PySem.W.findIn K (.ref C_Book) "undo" = some (some (.ref f69)))
    (i69 : PySem.W.isFn K (.ref f69) = true)
    (l69 : K.lookup f69 = some ⟨oc69, od69, .func (PySem.W.fnOf "undo" "Book.undo" (defArgs sBookUndo) (defBody sBookUndo) (defScope sBookUndo) .none kV69 dc69 pm69 an69 cd69 ct69), sl69⟩)
    (c69 : PySem.W.codeIn K cd69 "Book.undo" = true)
    (k69 : PySem.W.keepIn K (.ref f69) = true)
    (a70 : PySem.W.findIn K (.ref C_Book) "redo" = some (some (.ref f70)))
    (i70 : PySem.W.isFn K (.ref f70) = true)
    (l70 : K.lookup f70 = some ⟨oc70, od70, .func (PySem.W.fnOf "redo" "Book.redo" (defArgs sBookRedo) (defBody sBookRedo) (defScope sBookRedo) .none kV70 dc70 pm70 an70 cd70 ct70), sl70⟩)
    (c70 : PySem.W.codeIn K cd70 "Book.redo" = true)
    (k70 : PySem.W.keepIn K (.ref f70) = true)
    (a71 : PySem.W.findIn K (.ref C_Book) "undoable" = some (some (.ref f71)))
    (i71 : PySem.W.isFn K (.ref f71) = true)
    (l71 : K.lookup f71 = some ⟨oc71, od71, .func (PySem.W.fnOf "undoable" "Book.undoable" (defArgs sBookUndoable) (defBody sBookUndoable) (defScope sBookUndoable) .none kV71 dc71 pm71 an71 cd71 ct71), sl71⟩)
    (c71 : PySem.W.codeIn K cd71 "Book.undoable" = true)
    (k71 : PySem.W.keepIn K (.ref f71) = true)
    (a72 : PySem.W.findIn K (.ref C_Book) "redoable" = some (some (.ref f72)))
    (i72 : PySem.W.isFn K (.ref f72) = true)
    (l72 : K.lookup f72 = some ⟨oc72, od72, .func (PySem.W.fnOf "redoable" "Book.redoable" (defArgs sBookRedoable) (defBody sBookRedoable) (defScope sBookRedoable) .none kV72 dc72 pm72 an72 cd72 ct72), sl72⟩)
    (c72 : PySem.W.codeIn K cd72 "Book.redoable" = true)
    (k72 : PySem.W.keepIn K (.ref f72) = true)
    (a73 : PySem.W.findIn K (.ref C_Desk) "__init__" = some (some (.ref f73)))
    (i73 : PySem.W.isFn K (.ref f73) = true)
    (l73 : K.lookup f73 = some ⟨oc73, od73, .func (PySem.W.fnOf "__init__" "Desk.__init__" (defArgs sDeskInit) (defBody sDeskInit) (defScope sDeskInit) .none kV73 dc73 pm73 an73 cd73 ct73), sl73⟩)
    (c73 : PySem.W.codeIn K cd73 "Desk.__init__" = true)
    (k73 : PySem.W.keepIn K (.ref f73) = true)
    (a74 : PySem.W.findIn K (.ref C_Desk) "book" = some (some (.ref f74)))
    (i74 : PySem.W.isFn K (.ref f74) = true)
    (l74 : K.lookup f74 = some ⟨oc74, od74, .func (PySem.W.fnOf "book" "Desk.book" (defArgs sDeskBook) (defBody sDeskBook) (defScope sDeskBook) .none kV74 dc74 pm74 an74 cd74 ct74), sl74⟩)
    (c74 : PySem.W.codeIn K cd74 "Desk.book" = true)
    (k74 : PySem.W.keepIn K (.ref f74) = true)
    (a75 : PySem.W.findIn K (.ref C_Desk) "tell" = some (some (.ref f75)))
    (i75 : PySem.W.isFn K (.ref f75) = true)
    (l75 : K.lookup f75 = some ⟨oc75, od75, .func (PySem.W.fnOf "tell" "Desk.tell" (defArgs sDeskTell) (defBody sDeskTell) (defScope sDeskTell) .none kV75 dc75 pm75 an75 cd75 ct75), sl75⟩)
    (c75 : PySem.W.codeIn K cd75 "Desk.tell" = true)
    (k75 : PySem.W.keepIn K (.ref f75) = true)
    (pg_Sheet : PySem.W.plainGet K C_Sheet Str.empty = true)
    (hd_Sheet : PySem.W.hasDictIn K C_Sheet = true)
    (po_Sheet : PySem.W.plainOver K C_Sheet = true)
    (sa_Sheet : PySem.W.findIn K (.ref C_Sheet) "__setattr__" = some (some (.builtin "object.__setattr__")))
    (mk_Sheet : PySem.W.makesIn K C_Sheet = true)
    (kc_Sheet : PySem.W.keepIn K (.ref C_Sheet) = true)
    (pg_Book : PySem.W.plainGet K C_Book Str.empty = true)
    (hd_Book : PySem.W.hasDictIn K C_Book = true)
    (po_Book : PySem.W.plainOver K C_Book = true)
    (sa_Book : PySem.W.findIn K (.ref C_Book) "__setattr__" = some (some (.builtin "object.__setattr__")))
    (mk_Book : PySem.W.makesIn K C_Book = true)
    (kc_Book : PySem.W.keepIn K (.ref C_Book) = true)
    (pg_Desk : PySem.W.plainGet K C_Desk Str.empty = true)
    (hd_Desk : PySem.W.hasDictIn K C_Desk = true)
    (po_Desk : PySem.W.plainOver K C_Desk = true)
    (sa_Desk : PySem.W.findIn K (.ref C_Desk) "__setattr__" = some (some (.builtin "object.__setattr__")))
    (mk_Desk : PySem.W.makesIn K C_Desk = true)
    (kc_Desk : PySem.W.keepIn K (.ref C_Desk) = true)
    (n_Sheet_size : PySem.W.findIn K (.ref C_Sheet) "size" = some none)
    (n_Sheet_upcoming : PySem.W.findIn K (.ref C_Sheet) "upcoming" = some none)
    (n_Sheet_said : PySem.W.findIn K (.ref C_Sheet) "said" = some none)
    (n_Sheet_noted : PySem.W.findIn K (.ref C_Sheet) "noted" = some none)
    (n_Book_sheets : PySem.W.findIn K (.ref C_Book) "sheets" = some none)
    (n_Book_here : PySem.W.findIn K (.ref C_Book) "here" = some none)
    (n_Book_song : PySem.W.findIn K (.ref C_Book) "song" = some none)
    (n_Book_notes : PySem.W.findIn K (.ref C_Book) "notes" = some none)
    (n_Desk_held : PySem.W.findIn K (.ref C_Desk) "held" = some none)
    (aI_TOO_LONG : PySem.W.nsIn K mainGlobals "TOO_LONG" = some (some v_TOO_LONG))
    (aI_MOST : PySem.W.nsIn K mainGlobals "MOST" = some (some v_MOST))
    (aI_MOST_FIGURES : PySem.W.nsIn K mainGlobals "MOST_FIGURES" = some (some v_MOST_FIGURES))
    (y_len : PySem.W.nsIn K mainGlobals "len" = some none)
    (y_range : PySem.W.nsIn K mainGlobals "range" = some none)
    (y_list : PySem.W.nsIn K mainGlobals "list" = some none)
    (y_isinstance : PySem.W.nsIn K mainGlobals "isinstance" = some none)
    (y_bool : PySem.W.nsIn K mainGlobals "bool" = some none)
    (y_int : PySem.W.nsIn K mainGlobals "int" = some none)
    (y_tuple : PySem.W.nsIn K mainGlobals "tuple" = some none)
    (y_str : PySem.W.nsIn K mainGlobals "str" = some none)
    (y_all : PySem.W.nsIn K mainGlobals "all" = some none)
    (y_zip : PySem.W.nsIn K mainGlobals "zip" = some none)
    (y_min : PySem.W.nsIn K mainGlobals "min" = some none)
    (y_max : PySem.W.nsIn K mainGlobals "max" = some none)
    (y_enumerate : PySem.W.nsIn K mainGlobals "enumerate" = some none)
    (y_ValueError : PySem.W.nsIn K mainGlobals "ValueError" = some none)
    (y_sorted : PySem.W.nsIn K mainGlobals "sorted" = some none)
    (r_TOO_LONG : RelV (.int (10 ^ 40)) v_TOO_LONG)
    (r_MOST : RelV (.int (24)) v_MOST)
    (r_MOST_FIGURES : RelV (.int (40)) v_MOST_FIGURES)
    (re_b : PySem.W.subIn K (.ref C_RepriseError) (.type "BaseException") = some true)
    (re_d : PySem.W.hasDictIn K C_RepriseError = true)
    (re_t : PySem.W.typeIn K (.ref C_RepriseError) = some (.type "type"))
    (x_BadLength : PySem.W.excIn K C_BadLength [.type "ValueError", .type "Exception", .type "BaseException", .type "object"] "ValueError.__new__" = true)
    (k_BadLength : PySem.W.keepIn K (.ref C_BadLength) = true)
    (b_BadLength : PySem.W.subIn K (.ref C_BadLength) (.type "BaseException") = some true)
    (t_BadLength : PySem.W.typeIn K (.ref C_BadLength) = some (.type "type"))
    (s_BadLength : PySem.W.subIn K (.ref C_BadLength) (.ref C_RepriseError) = some true)
    (e1_BadLength : PySem.W.findIn K (.ref C_BadLength) "__getattribute__" = some (some (.builtin "BaseException.__getattribute__")))
    (e2_BadLength : PySem.W.findIn K (.ref C_BadLength) "__getattr__" = some none)
    (e4_BadLength : PySem.W.hasDictIn K C_BadLength = true)
    (e5_BadLength : PySem.W.findIn K (.ref C_BadLength) "__class__" = some (some (.builtin "object.__class__")))
    (e8_BadLength : PySem.W.mroIn K C_BadLength (.type "object") = some true)
    (q0_BadLength : PySem.W.kitOne K (.ref C_BadLength) (.ref C_BadLength) = some true)
    (q1_BadLength : PySem.W.kitOne K (.ref C_BadLength) (.ref C_BadStretch) = some false)
    (q2_BadLength : PySem.W.kitOne K (.ref C_BadLength) (.ref C_NoPlace) = some false)
    (q3_BadLength : PySem.W.kitOne K (.ref C_BadLength) (.ref C_NoNumber) = some false)
    (q4_BadLength : PySem.W.kitOne K (.ref C_BadLength) (.ref C_BadLetter) = some false)
    (q5_BadLength : PySem.W.kitOne K (.ref C_BadLength) (.ref C_Full) = some false)
    (q6_BadLength : PySem.W.kitOne K (.ref C_BadLength) (.ref C_InUse) = some false)
    (q7_BadLength : PySem.W.kitOne K (.ref C_BadLength) (.ref C_NothingLeft) = some false)
    (q8_BadLength : PySem.W.kitOne K (.ref C_BadLength) (.ref C_BadPage) = some false)
    (qV_BadLength : PySem.W.kitOne K (.ref C_BadLength) (.type "ValueError") = some true)
    (x_BadStretch : PySem.W.excIn K C_BadStretch [.type "ValueError", .type "Exception", .type "BaseException", .type "object"] "ValueError.__new__" = true)
    (k_BadStretch : PySem.W.keepIn K (.ref C_BadStretch) = true)
    (b_BadStretch : PySem.W.subIn K (.ref C_BadStretch) (.type "BaseException") = some true)
    (t_BadStretch : PySem.W.typeIn K (.ref C_BadStretch) = some (.type "type"))
    (s_BadStretch : PySem.W.subIn K (.ref C_BadStretch) (.ref C_RepriseError) = some true)
    (e1_BadStretch : PySem.W.findIn K (.ref C_BadStretch) "__getattribute__" = some (some (.builtin "BaseException.__getattribute__")))
    (e2_BadStretch : PySem.W.findIn K (.ref C_BadStretch) "__getattr__" = some none)
    (e4_BadStretch : PySem.W.hasDictIn K C_BadStretch = true)
    (e5_BadStretch : PySem.W.findIn K (.ref C_BadStretch) "__class__" = some (some (.builtin "object.__class__")))
    (e8_BadStretch : PySem.W.mroIn K C_BadStretch (.type "object") = some true)
    (q0_BadStretch : PySem.W.kitOne K (.ref C_BadStretch) (.ref C_BadLength) = some false)
    (q1_BadStretch : PySem.W.kitOne K (.ref C_BadStretch) (.ref C_BadStretch) = some true)
    (q2_BadStretch : PySem.W.kitOne K (.ref C_BadStretch) (.ref C_NoPlace) = some false)
    (q3_BadStretch : PySem.W.kitOne K (.ref C_BadStretch) (.ref C_NoNumber) = some false)
    (q4_BadStretch : PySem.W.kitOne K (.ref C_BadStretch) (.ref C_BadLetter) = some false)
    (q5_BadStretch : PySem.W.kitOne K (.ref C_BadStretch) (.ref C_Full) = some false)
    (q6_BadStretch : PySem.W.kitOne K (.ref C_BadStretch) (.ref C_InUse) = some false)
    (q7_BadStretch : PySem.W.kitOne K (.ref C_BadStretch) (.ref C_NothingLeft) = some false)
    (q8_BadStretch : PySem.W.kitOne K (.ref C_BadStretch) (.ref C_BadPage) = some false)
    (qV_BadStretch : PySem.W.kitOne K (.ref C_BadStretch) (.type "ValueError") = some true)
    (x_NoNumber : PySem.W.excIn K C_NoNumber [.type "ValueError", .type "Exception", .type "BaseException", .type "object"] "ValueError.__new__" = true)
    (k_NoNumber : PySem.W.keepIn K (.ref C_NoNumber) = true)
    (b_NoNumber : PySem.W.subIn K (.ref C_NoNumber) (.type "BaseException") = some true)
    (t_NoNumber : PySem.W.typeIn K (.ref C_NoNumber) = some (.type "type"))
    (s_NoNumber : PySem.W.subIn K (.ref C_NoNumber) (.ref C_RepriseError) = some true)
    (e1_NoNumber : PySem.W.findIn K (.ref C_NoNumber) "__getattribute__" = some (some (.builtin "BaseException.__getattribute__")))
    (e2_NoNumber : PySem.W.findIn K (.ref C_NoNumber) "__getattr__" = some none)
    (e4_NoNumber : PySem.W.hasDictIn K C_NoNumber = true)
    (e5_NoNumber : PySem.W.findIn K (.ref C_NoNumber) "__class__" = some (some (.builtin "object.__class__")))
    (e8_NoNumber : PySem.W.mroIn K C_NoNumber (.type "object") = some true)
    (q0_NoNumber : PySem.W.kitOne K (.ref C_NoNumber) (.ref C_BadLength) = some false)
    (q1_NoNumber : PySem.W.kitOne K (.ref C_NoNumber) (.ref C_BadStretch) = some false)
    (q2_NoNumber : PySem.W.kitOne K (.ref C_NoNumber) (.ref C_NoPlace) = some false)
    (q3_NoNumber : PySem.W.kitOne K (.ref C_NoNumber) (.ref C_NoNumber) = some true)
    (q4_NoNumber : PySem.W.kitOne K (.ref C_NoNumber) (.ref C_BadLetter) = some false)
    (q5_NoNumber : PySem.W.kitOne K (.ref C_NoNumber) (.ref C_Full) = some false)
    (q6_NoNumber : PySem.W.kitOne K (.ref C_NoNumber) (.ref C_InUse) = some false)
    (q7_NoNumber : PySem.W.kitOne K (.ref C_NoNumber) (.ref C_NothingLeft) = some false)
    (q8_NoNumber : PySem.W.kitOne K (.ref C_NoNumber) (.ref C_BadPage) = some false)
    (qV_NoNumber : PySem.W.kitOne K (.ref C_NoNumber) (.type "ValueError") = some true)
    (x_BadLetter : PySem.W.excIn K C_BadLetter [.type "ValueError", .type "Exception", .type "BaseException", .type "object"] "ValueError.__new__" = true)
    (k_BadLetter : PySem.W.keepIn K (.ref C_BadLetter) = true)
    (b_BadLetter : PySem.W.subIn K (.ref C_BadLetter) (.type "BaseException") = some true)
    (t_BadLetter : PySem.W.typeIn K (.ref C_BadLetter) = some (.type "type"))
    (s_BadLetter : PySem.W.subIn K (.ref C_BadLetter) (.ref C_RepriseError) = some true)
    (e1_BadLetter : PySem.W.findIn K (.ref C_BadLetter) "__getattribute__" = some (some (.builtin "BaseException.__getattribute__")))
    (e2_BadLetter : PySem.W.findIn K (.ref C_BadLetter) "__getattr__" = some none)
    (e4_BadLetter : PySem.W.hasDictIn K C_BadLetter = true)
    (e5_BadLetter : PySem.W.findIn K (.ref C_BadLetter) "__class__" = some (some (.builtin "object.__class__")))
    (e8_BadLetter : PySem.W.mroIn K C_BadLetter (.type "object") = some true)
    (q0_BadLetter : PySem.W.kitOne K (.ref C_BadLetter) (.ref C_BadLength) = some false)
    (q1_BadLetter : PySem.W.kitOne K (.ref C_BadLetter) (.ref C_BadStretch) = some false)
    (q2_BadLetter : PySem.W.kitOne K (.ref C_BadLetter) (.ref C_NoPlace) = some false)
    (q3_BadLetter : PySem.W.kitOne K (.ref C_BadLetter) (.ref C_NoNumber) = some false)
    (q4_BadLetter : PySem.W.kitOne K (.ref C_BadLetter) (.ref C_BadLetter) = some true)
    (q5_BadLetter : PySem.W.kitOne K (.ref C_BadLetter) (.ref C_Full) = some false)
    (q6_BadLetter : PySem.W.kitOne K (.ref C_BadLetter) (.ref C_InUse) = some false)
    (q7_BadLetter : PySem.W.kitOne K (.ref C_BadLetter) (.ref C_NothingLeft) = some false)
    (q8_BadLetter : PySem.W.kitOne K (.ref C_BadLetter) (.ref C_BadPage) = some false)
    (qV_BadLetter : PySem.W.kitOne K (.ref C_BadLetter) (.type "ValueError") = some true)
    (x_Full : PySem.W.excIn K C_Full [.type "ValueError", .type "Exception", .type "BaseException", .type "object"] "ValueError.__new__" = true)
    (k_Full : PySem.W.keepIn K (.ref C_Full) = true)
    (b_Full : PySem.W.subIn K (.ref C_Full) (.type "BaseException") = some true)
    (t_Full : PySem.W.typeIn K (.ref C_Full) = some (.type "type"))
    (s_Full : PySem.W.subIn K (.ref C_Full) (.ref C_RepriseError) = some true)
    (e1_Full : PySem.W.findIn K (.ref C_Full) "__getattribute__" = some (some (.builtin "BaseException.__getattribute__")))
    (e2_Full : PySem.W.findIn K (.ref C_Full) "__getattr__" = some none)
    (e4_Full : PySem.W.hasDictIn K C_Full = true)
    (e5_Full : PySem.W.findIn K (.ref C_Full) "__class__" = some (some (.builtin "object.__class__")))
    (e8_Full : PySem.W.mroIn K C_Full (.type "object") = some true)
    (q0_Full : PySem.W.kitOne K (.ref C_Full) (.ref C_BadLength) = some false)
    (q1_Full : PySem.W.kitOne K (.ref C_Full) (.ref C_BadStretch) = some false)
    (q2_Full : PySem.W.kitOne K (.ref C_Full) (.ref C_NoPlace) = some false)
    (q3_Full : PySem.W.kitOne K (.ref C_Full) (.ref C_NoNumber) = some false)
    (q4_Full : PySem.W.kitOne K (.ref C_Full) (.ref C_BadLetter) = some false)
    (q5_Full : PySem.W.kitOne K (.ref C_Full) (.ref C_Full) = some true)
    (q6_Full : PySem.W.kitOne K (.ref C_Full) (.ref C_InUse) = some false)
    (q7_Full : PySem.W.kitOne K (.ref C_Full) (.ref C_NothingLeft) = some false)
    (q8_Full : PySem.W.kitOne K (.ref C_Full) (.ref C_BadPage) = some false)
    (qV_Full : PySem.W.kitOne K (.ref C_Full) (.type "ValueError") = some true)
    (x_InUse : PySem.W.excIn K C_InUse [.type "ValueError", .type "Exception", .type "BaseException", .type "object"] "ValueError.__new__" = true)
    (k_InUse : PySem.W.keepIn K (.ref C_InUse) = true)
    (b_InUse : PySem.W.subIn K (.ref C_InUse) (.type "BaseException") = some true)
    (t_InUse : PySem.W.typeIn K (.ref C_InUse) = some (.type "type"))
    (s_InUse : PySem.W.subIn K (.ref C_InUse) (.ref C_RepriseError) = some true)
    (e1_InUse : PySem.W.findIn K (.ref C_InUse) "__getattribute__" = some (some (.builtin "BaseException.__getattribute__")))
    (e2_InUse : PySem.W.findIn K (.ref C_InUse) "__getattr__" = some none)
    (e4_InUse : PySem.W.hasDictIn K C_InUse = true)
    (e5_InUse : PySem.W.findIn K (.ref C_InUse) "__class__" = some (some (.builtin "object.__class__")))
    (e8_InUse : PySem.W.mroIn K C_InUse (.type "object") = some true)
    (q0_InUse : PySem.W.kitOne K (.ref C_InUse) (.ref C_BadLength) = some false)
    (q1_InUse : PySem.W.kitOne K (.ref C_InUse) (.ref C_BadStretch) = some false)
    (q2_InUse : PySem.W.kitOne K (.ref C_InUse) (.ref C_NoPlace) = some false)
    (q3_InUse : PySem.W.kitOne K (.ref C_InUse) (.ref C_NoNumber) = some false)
    (q4_InUse : PySem.W.kitOne K (.ref C_InUse) (.ref C_BadLetter) = some false)
    (q5_InUse : PySem.W.kitOne K (.ref C_InUse) (.ref C_Full) = some false)
    (q6_InUse : PySem.W.kitOne K (.ref C_InUse) (.ref C_InUse) = some true)
    (q7_InUse : PySem.W.kitOne K (.ref C_InUse) (.ref C_NothingLeft) = some false)
    (q8_InUse : PySem.W.kitOne K (.ref C_InUse) (.ref C_BadPage) = some false)
    (qV_InUse : PySem.W.kitOne K (.ref C_InUse) (.type "ValueError") = some true)
    (x_NothingLeft : PySem.W.excIn K C_NothingLeft [.type "ValueError", .type "Exception", .type "BaseException", .type "object"] "ValueError.__new__" = true)
    (k_NothingLeft : PySem.W.keepIn K (.ref C_NothingLeft) = true)
    (b_NothingLeft : PySem.W.subIn K (.ref C_NothingLeft) (.type "BaseException") = some true)
    (t_NothingLeft : PySem.W.typeIn K (.ref C_NothingLeft) = some (.type "type"))
    (s_NothingLeft : PySem.W.subIn K (.ref C_NothingLeft) (.ref C_RepriseError) = some true)
    (e1_NothingLeft : PySem.W.findIn K (.ref C_NothingLeft) "__getattribute__" = some (some (.builtin "BaseException.__getattribute__")))
    (e2_NothingLeft : PySem.W.findIn K (.ref C_NothingLeft) "__getattr__" = some none)
    (e4_NothingLeft : PySem.W.hasDictIn K C_NothingLeft = true)
    (e5_NothingLeft : PySem.W.findIn K (.ref C_NothingLeft) "__class__" = some (some (.builtin "object.__class__")))
    (e8_NothingLeft : PySem.W.mroIn K C_NothingLeft (.type "object") = some true)
    (q0_NothingLeft : PySem.W.kitOne K (.ref C_NothingLeft) (.ref C_BadLength) = some false)
    (q1_NothingLeft : PySem.W.kitOne K (.ref C_NothingLeft) (.ref C_BadStretch) = some false)
    (q2_NothingLeft : PySem.W.kitOne K (.ref C_NothingLeft) (.ref C_NoPlace) = some false)
    (q3_NothingLeft : PySem.W.kitOne K (.ref C_NothingLeft) (.ref C_NoNumber) = some false)
    (q4_NothingLeft : PySem.W.kitOne K (.ref C_NothingLeft) (.ref C_BadLetter) = some false)
    (q5_NothingLeft : PySem.W.kitOne K (.ref C_NothingLeft) (.ref C_Full) = some false)
    (q6_NothingLeft : PySem.W.kitOne K (.ref C_NothingLeft) (.ref C_InUse) = some false)
    (q7_NothingLeft : PySem.W.kitOne K (.ref C_NothingLeft) (.ref C_NothingLeft) = some true)
    (q8_NothingLeft : PySem.W.kitOne K (.ref C_NothingLeft) (.ref C_BadPage) = some false)
    (qV_NothingLeft : PySem.W.kitOne K (.ref C_NothingLeft) (.type "ValueError") = some true)
    (e6_all : PySem.W.specialIn K (.builtin "object.__class__") "__get__" = some (some (.builtin "getset_descriptor.__get__")))
    (e7_all : PySem.W.takesIn K (.builtin "object.__class__") = some true)
    (ne_BS : C_Book ≠ C_Sheet)
    (b_NoPlace : PySem.W.subIn K (.ref C_NoPlace) (.type "BaseException") = some true)
    (e4_NoPlace : PySem.W.hasDictIn K C_NoPlace = true)
    (t_NoPlace : PySem.W.typeIn K (.ref C_NoPlace) = some (.type "type"))
    (b_Unfit : PySem.W.subIn K (.ref C_Unfit) (.type "BaseException") = some true)
    (e4_Unfit : PySem.W.hasDictIn K C_Unfit = true)
    (t_Unfit : PySem.W.typeIn K (.ref C_Unfit) = some (.type "type"))
    (w_BadLength_BadLength : PySem.W.subIn K (.ref C_BadLength) (.ref C_BadLength) = some true)
    (w_BadLength_BadStretch : PySem.W.subIn K (.ref C_BadLength) (.ref C_BadStretch) = some false)
    (w_BadLength_NoPlace : PySem.W.subIn K (.ref C_BadLength) (.ref C_NoPlace) = some false)
    (w_BadLength_NoNumber : PySem.W.subIn K (.ref C_BadLength) (.ref C_NoNumber) = some false)
    (w_BadLength_BadLetter : PySem.W.subIn K (.ref C_BadLength) (.ref C_BadLetter) = some false)
    (w_BadLength_Full : PySem.W.subIn K (.ref C_BadLength) (.ref C_Full) = some false)
    (w_BadLength_InUse : PySem.W.subIn K (.ref C_BadLength) (.ref C_InUse) = some false)
    (w_BadLength_NothingLeft : PySem.W.subIn K (.ref C_BadLength) (.ref C_NothingLeft) = some false)
    (w_BadLength_Unfit : PySem.W.subIn K (.ref C_BadLength) (.ref C_Unfit) = some false)
    (w_BadStretch_BadLength : PySem.W.subIn K (.ref C_BadStretch) (.ref C_BadLength) = some false)
    (w_BadStretch_BadStretch : PySem.W.subIn K (.ref C_BadStretch) (.ref C_BadStretch) = some true)
    (w_BadStretch_NoPlace : PySem.W.subIn K (.ref C_BadStretch) (.ref C_NoPlace) = some false)
    (w_BadStretch_NoNumber : PySem.W.subIn K (.ref C_BadStretch) (.ref C_NoNumber) = some false)
    (w_BadStretch_BadLetter : PySem.W.subIn K (.ref C_BadStretch) (.ref C_BadLetter) = some false)
    (w_BadStretch_Full : PySem.W.subIn K (.ref C_BadStretch) (.ref C_Full) = some false)
    (w_BadStretch_InUse : PySem.W.subIn K (.ref C_BadStretch) (.ref C_InUse) = some false)
    (w_BadStretch_NothingLeft : PySem.W.subIn K (.ref C_BadStretch) (.ref C_NothingLeft) = some false)
    (w_BadStretch_Unfit : PySem.W.subIn K (.ref C_BadStretch) (.ref C_Unfit) = some false)
    (w_NoPlace_BadLength : PySem.W.subIn K (.ref C_NoPlace) (.ref C_BadLength) = some false)
    (w_NoPlace_BadStretch : PySem.W.subIn K (.ref C_NoPlace) (.ref C_BadStretch) = some false)
    (w_NoPlace_NoPlace : PySem.W.subIn K (.ref C_NoPlace) (.ref C_NoPlace) = some true)
    (w_NoPlace_NoNumber : PySem.W.subIn K (.ref C_NoPlace) (.ref C_NoNumber) = some false)
    (w_NoPlace_BadLetter : PySem.W.subIn K (.ref C_NoPlace) (.ref C_BadLetter) = some false)
    (w_NoPlace_Full : PySem.W.subIn K (.ref C_NoPlace) (.ref C_Full) = some false)
    (w_NoPlace_InUse : PySem.W.subIn K (.ref C_NoPlace) (.ref C_InUse) = some false)
    (w_NoPlace_NothingLeft : PySem.W.subIn K (.ref C_NoPlace) (.ref C_NothingLeft) = some false)
    (w_NoPlace_Unfit : PySem.W.subIn K (.ref C_NoPlace) (.ref C_Unfit) = some false)
    (w_NoNumber_BadLength : PySem.W.subIn K (.ref C_NoNumber) (.ref C_BadLength) = some false)
    (w_NoNumber_BadStretch : PySem.W.subIn K (.ref C_NoNumber) (.ref C_BadStretch) = some false)
    (w_NoNumber_NoPlace : PySem.W.subIn K (.ref C_NoNumber) (.ref C_NoPlace) = some false)
    (w_NoNumber_NoNumber : PySem.W.subIn K (.ref C_NoNumber) (.ref C_NoNumber) = some true)
    (w_NoNumber_BadLetter : PySem.W.subIn K (.ref C_NoNumber) (.ref C_BadLetter) = some false)
    (w_NoNumber_Full : PySem.W.subIn K (.ref C_NoNumber) (.ref C_Full) = some false)
    (w_NoNumber_InUse : PySem.W.subIn K (.ref C_NoNumber) (.ref C_InUse) = some false)
    (w_NoNumber_NothingLeft : PySem.W.subIn K (.ref C_NoNumber) (.ref C_NothingLeft) = some false)
    (w_NoNumber_Unfit : PySem.W.subIn K (.ref C_NoNumber) (.ref C_Unfit) = some false)
    (w_BadLetter_BadLength : PySem.W.subIn K (.ref C_BadLetter) (.ref C_BadLength) = some false)
    (w_BadLetter_BadStretch : PySem.W.subIn K (.ref C_BadLetter) (.ref C_BadStretch) = some false)
    (w_BadLetter_NoPlace : PySem.W.subIn K (.ref C_BadLetter) (.ref C_NoPlace) = some false)
    (w_BadLetter_NoNumber : PySem.W.subIn K (.ref C_BadLetter) (.ref C_NoNumber) = some false)
    (w_BadLetter_BadLetter : PySem.W.subIn K (.ref C_BadLetter) (.ref C_BadLetter) = some true)
    (w_BadLetter_Full : PySem.W.subIn K (.ref C_BadLetter) (.ref C_Full) = some false)
    (w_BadLetter_InUse : PySem.W.subIn K (.ref C_BadLetter) (.ref C_InUse) = some false)
    (w_BadLetter_NothingLeft : PySem.W.subIn K (.ref C_BadLetter) (.ref C_NothingLeft) = some false)
    (w_BadLetter_Unfit : PySem.W.subIn K (.ref C_BadLetter) (.ref C_Unfit) = some false)
    (w_Full_BadLength : PySem.W.subIn K (.ref C_Full) (.ref C_BadLength) = some false)
    (w_Full_BadStretch : PySem.W.subIn K (.ref C_Full) (.ref C_BadStretch) = some false)
    (w_Full_NoPlace : PySem.W.subIn K (.ref C_Full) (.ref C_NoPlace) = some false)
    (w_Full_NoNumber : PySem.W.subIn K (.ref C_Full) (.ref C_NoNumber) = some false)
    (w_Full_BadLetter : PySem.W.subIn K (.ref C_Full) (.ref C_BadLetter) = some false)
    (w_Full_Full : PySem.W.subIn K (.ref C_Full) (.ref C_Full) = some true)
    (w_Full_InUse : PySem.W.subIn K (.ref C_Full) (.ref C_InUse) = some false)
    (w_Full_NothingLeft : PySem.W.subIn K (.ref C_Full) (.ref C_NothingLeft) = some false)
    (w_Full_Unfit : PySem.W.subIn K (.ref C_Full) (.ref C_Unfit) = some false)
    (w_InUse_BadLength : PySem.W.subIn K (.ref C_InUse) (.ref C_BadLength) = some false)
    (w_InUse_BadStretch : PySem.W.subIn K (.ref C_InUse) (.ref C_BadStretch) = some false)
    (w_InUse_NoPlace : PySem.W.subIn K (.ref C_InUse) (.ref C_NoPlace) = some false)
    (w_InUse_NoNumber : PySem.W.subIn K (.ref C_InUse) (.ref C_NoNumber) = some false)
    (w_InUse_BadLetter : PySem.W.subIn K (.ref C_InUse) (.ref C_BadLetter) = some false)
    (w_InUse_Full : PySem.W.subIn K (.ref C_InUse) (.ref C_Full) = some false)
    (w_InUse_InUse : PySem.W.subIn K (.ref C_InUse) (.ref C_InUse) = some true)
    (w_InUse_NothingLeft : PySem.W.subIn K (.ref C_InUse) (.ref C_NothingLeft) = some false)
    (w_InUse_Unfit : PySem.W.subIn K (.ref C_InUse) (.ref C_Unfit) = some false)
    (w_NothingLeft_BadLength : PySem.W.subIn K (.ref C_NothingLeft) (.ref C_BadLength) = some false)
    (w_NothingLeft_BadStretch : PySem.W.subIn K (.ref C_NothingLeft) (.ref C_BadStretch) = some false)
    (w_NothingLeft_NoPlace : PySem.W.subIn K (.ref C_NothingLeft) (.ref C_NoPlace) = some false)
    (w_NothingLeft_NoNumber : PySem.W.subIn K (.ref C_NothingLeft) (.ref C_NoNumber) = some false)
    (w_NothingLeft_BadLetter : PySem.W.subIn K (.ref C_NothingLeft) (.ref C_BadLetter) = some false)
    (w_NothingLeft_Full : PySem.W.subIn K (.ref C_NothingLeft) (.ref C_Full) = some false)
    (w_NothingLeft_InUse : PySem.W.subIn K (.ref C_NothingLeft) (.ref C_InUse) = some false)
    (w_NothingLeft_NothingLeft : PySem.W.subIn K (.ref C_NothingLeft) (.ref C_NothingLeft) = some true)
    (w_NothingLeft_Unfit : PySem.W.subIn K (.ref C_NothingLeft) (.ref C_Unfit) = some false)
    (nDS : C_Desk ≠ C_Sheet)
    (nDB : C_Desk ≠ C_Book)
    (nSB : C_Sheet ≠ C_Book)
    (gf_say : PySem.W.specialIn K (.ref f60) "__get__" = some (some (.builtin "function.__get__")))
    (tk_say : PySem.W.takesIn K (.ref f60) = some false)
    (fi_say : PySem.W.fnIn K f60 = true)
    (gf_amend : PySem.W.specialIn K (.ref f62) "__get__" = some (some (.builtin "function.__get__")))
    (tk_amend : PySem.W.takesIn K (.ref f62) = some false)
    (fi_amend : PySem.W.fnIn K f62 = true)
    : LamX.LawAtS l w K CX0 15 63 "_law_script" mg fa h := by
  have G := TT.g
  have e := hfa.symm.trans (PySem.W.mg_of X G a42)
  cases e
  have F1 := fun_mk (st := sCheck_length) l1 c1 k1
  have g1 := PySem.W.mg_of X G a1
  have b1 := F1.binds (ps := ["length"]) fun _ _ _ _ _ _ us hl => match us, hl with | [_], _ => rfl
  have F2 := fun_mk (st := sCheck_stretch) l2 c2 k2
  have g2 := PySem.W.mg_of X G a2
  have b2 := F2.binds (ps := ["length", "at", "many"]) fun _ _ _ _ _ _ us hl => match us, hl with | [_, _, _], _ => rfl
  have F3 := fun_mk (st := sCheck_sayings) l3 c3 k3
  have g3 := PySem.W.mg_of X G a3
  have b3 := F3.binds (ps := ["length", "sayings"]) fun _ _ _ _ _ _ us hl => match us, hl with | [_, _], _ => rfl
  have F4 := fun_mk (st := sCheck_letter) l4 c4 k4
  have g4 := PySem.W.mg_of X G a4
  have b4 := F4.binds (ps := ["letter"]) fun _ _ _ _ _ _ us hl => match us, hl with | [_], _ => rfl
  have F5 := fun_mk (st := sCheck_memory) l5 c5 k5
  have g5 := PySem.W.mg_of X G a5
  have b5 := F5.binds (ps := ["length", "letter", "at", "many"]) fun _ _ _ _ _ _ us hl => match us, hl with | [_, _, _, _], _ => rfl
  have F6 := fun_mk (st := sPlace_of) l6 c6 k6
  have g6 := PySem.W.mg_of X G a6
  have b6 := F6.binds (ps := ["rows", "number"]) fun _ _ _ _ _ _ us hl => match us, hl with | [_, _], _ => rfl
  have F7 := fun_mk (st := sWithout) l7 c7 k7
  have g7 := PySem.W.mg_of X G a7
  have b7 := F7.binds (ps := ["rows", "number"]) fun _ _ _ _ _ _ us hl => match us, hl with | [_, _], _ => rfl
  have F8 := fun_mk (st := sUnnumbered) l8 c8 k8
  have g8 := PySem.W.mg_of X G a8
  have b8 := F8.binds (ps := ["rows"]) fun _ _ _ _ _ _ us hl => match us, hl with | [_], _ => rfl
  have F9 := fun_mk (st := sCheck_room) l9 c9 k9
  have g9 := PySem.W.mg_of X G a9
  have b9 := F9.binds (ps := ["rows"]) fun _ _ _ _ _ _ us hl => match us, hl with | [_], _ => rfl
  have F10 := fun_mk (st := sCheck_change) l10 c10 k10
  have g10 := PySem.W.mg_of X G a10
  have b10 := F10.binds (ps := ["many"]) fun _ _ _ _ _ _ us hl => match us, hl with | [_], _ => rfl
  have F11 := fun_mk (st := sWords_of) l11 c11 k11
  have g11 := PySem.W.mg_of X G a11
  have b11 := F11.binds (ps := ["row"]) fun _ _ _ _ _ _ us hl => match us, hl with | [_], _ => rfl
  have F12 := fun_mk (st := sNumber_of) l12 c12 k12
  have g12 := PySem.W.mg_of X G a12
  have b12 := F12.binds (ps := ["word"]) fun _ _ _ _ _ _ us hl => match us, hl with | [_], _ => rfl
  have F13 := fun_mk (st := sTurned_of) l13 c13 k13
  have g13 := PySem.W.mg_of X G a13
  have b13 := F13.binds (ps := ["word"]) fun _ _ _ _ _ _ us hl => match us, hl with | [_], _ => rfl
  have F14 := fun_mk (st := sSaying_of) l14 c14 k14
  have g14 := PySem.W.mg_of X G a14
  have b14 := F14.binds (ps := ["one", "other", "many", "way"]) fun _ _ _ _ _ _ us hl => match us, hl with | [_, _, _, _], _ => rfl
  have F15 := fun_mk (st := sWay_word) l15 c15 k15
  have g15 := PySem.W.mg_of X G a15
  have b15 := F15.binds (ps := ["turned"]) fun _ _ _ _ _ _ us hl => match us, hl with | [_], _ => rfl
  have F16 := fun_mk (st := sPage) l16 c16 k16
  have g16 := PySem.W.mg_of X G a16
  have b16 := F16.binds (ps := ["book"]) fun _ _ _ _ _ _ us hl => match us, hl with | [_], _ => rfl
  have F17 := fun_mk (st := sDo_order) l17 c17 k17
  have g17 := PySem.W.mg_of X G a17
  have b17 := F17.binds (ps := ["book", "words"]) fun _ _ _ _ _ _ us hl => match us, hl with | [_, _], _ => rfl
  have F18 := fun_mk (st := sAnswer) l18 c18 k18
  have g18 := PySem.W.mg_of X G a18
  have b18 := F18.binds (ps := ["book", "words"]) fun _ _ _ _ _ _ us hl => match us, hl with | [_, _], _ => rfl
  have F19 := fun_mk (st := sMix) l19 c19 k19
  have g19 := PySem.W.mg_of X G a19
  have b19 := F19.binds (ps := ["_law_seed"]) fun _ _ _ _ _ _ us hl => match us, hl with | [_], _ => rfl
  have F20 := fun_mk (st := sRaw) l20 c20 k20
  have g20 := PySem.W.mg_of X G a20
  have b20 := F20.binds (ps := ["_law_script", "_law_k"]) fun _ _ _ _ _ _ us hl => match us, hl with | [_, _], _ => rfl
  have F21 := fun_mk (st := sDig) l21 c21 k21
  have g21 := PySem.W.mg_of X G a21
  have b21 := F21.binds (ps := ["_law_script", "_law_k", "_law_sizes"]) fun _ _ _ _ _ _ us hl => match us, hl with | [_, _, _], _ => rfl
  have F22 := fun_mk (st := s_law_book) l22 c22 k22
  have g22 := PySem.W.mg_of X G a22
  have b22 := F22.binds (ps := ["_law_length"]) fun _ _ _ _ _ _ us hl => match us, hl with | [_], _ => rfl
  have F23 := fun_mk (st := s_law_length_next) l23 c23 k23
  have g23 := PySem.W.mg_of X G a23
  have b23 := F23.binds (ps := ["_law_state", "_law_deed_here"]) fun _ _ _ _ _ _ us hl => match us, hl with | [_, _], _ => rfl
  have F24 := fun_mk (st := s_law_good_stretch) l24 c24 k24
  have g24 := PySem.W.mg_of X G a24
  have b24 := F24.binds (ps := ["_law_length", "_law_at", "_law_many"]) fun _ _ _ _ _ _ us hl => match us, hl with | [_, _, _], _ => rfl
  have F25 := fun_mk (st := s_law_numbers) l25 c25 k25
  have g25 := PySem.W.mg_of X G a25
  have b25 := F25.binds (ps := ["_law_rows"]) fun _ _ _ _ _ _ us hl => match us, hl with | [_], _ => rfl
  have F26 := fun_mk (st := s_law_row_next) l26 c26 k26
  have g26 := PySem.W.mg_of X G a26
  have b26 := F26.binds (ps := ["_law_state", "_law_deed_here"]) fun _ _ _ _ _ _ us hl => match us, hl with | [_, _], _ => rfl
  have F27 := fun_mk (st := s_law_do_model) l27 c27 k27
  have g27 := PySem.W.mg_of X G a27
  have b27 := F27.binds (ps := ["_law_book_here", "_law_deed_here"]) fun _ _ _ _ _ _ us hl => match us, hl with | [_, _], _ => rfl
  have F28 := fun_mk (st := sSame) l28 c28 k28
  have g28 := PySem.W.mg_of X G a28
  have b28 := F28.binds (ps := ["_law_told", "_law_due"]) fun _ _ _ _ _ _ us hl => match us, hl with | [_, _], _ => rfl
  have F29 := fun_mk (st := s_law_way_word) l29 c29 k29
  have g29 := PySem.W.mg_of X G a29
  have b29 := F29.binds (ps := ["_law_turned"]) fun _ _ _ _ _ _ us hl => match us, hl with | [_], _ => rfl
  have F30 := fun_mk (st := s_law_deed_text) l30 c30 k30
  have g30 := PySem.W.mg_of X G a30
  have b30 := F30.binds (ps := ["_law_deed_here"]) fun _ _ _ _ _ _ us hl => match us, hl with | [_], _ => rfl
  have F31 := fun_mk (st := s_law_refusal_word) l31 c31 k31
  have g31 := PySem.W.mg_of X G a31
  have b31 := F31.binds (ps := ["_law_word"]) fun _ _ _ _ _ _ us hl => match us, hl with | [_], _ => rfl
  have F32 := fun_mk (st := s_law_deed_answer) l32 c32 k32
  have g32 := PySem.W.mg_of X G a32
  have b32 := F32.binds (ps := ["_law_deed_here", "_law_word", "_law_told", "_law_length"]) fun _ _ _ _ _ _ us hl => match us, hl with | [_, _, _, _], _ => rfl
  have F33 := fun_mk (st := s_law_saying) l33 c33 k33
  have g33 := PySem.W.mg_of X G a33
  have b33 := F33.binds (ps := ["_law_script", "_law_k", "_law_length"]) fun _ _ _ _ _ _ us hl => match us, hl with | [_, _, _], _ => rfl
  have F34 := fun_mk (st := s_law_letter) l34 c34 k34
  have g34 := PySem.W.mg_of X G a34
  have b34 := F34.binds (ps := ["_law_raw_here"]) fun _ _ _ _ _ _ us hl => match us, hl with | [_], _ => rfl
  have F35 := fun_mk (st := s_law_deed) l35 c35 k35
  have g35 := PySem.W.mg_of X G a35
  have b35 := F35.binds (ps := ["_law_script", "_law_k", "_law_state"]) fun _ _ _ _ _ _ us hl => match us, hl with | [_, _, _], _ => rfl
  have F36 := fun_mk (st := s_law_kin) l36 c36 k36
  have g36 := PySem.W.mg_of X G a36
  have b36 := F36.binds (ps := ["_law_e"]) fun _ _ _ _ _ _ us hl => match us, hl with | [_], _ => rfl
  have F37 := fun_mk (st := s_law_do) l37 c37 k37
  have g37 := PySem.W.mg_of X G a37
  have b37 := F37.binds (ps := ["_law_book_here", "_law_deed_here"]) fun _ _ _ _ _ _ us hl => match us, hl with | [_, _], _ => rfl
  have F38 := fun_mk (st := s_law_met) l38 c38 k38
  have g38 := PySem.W.mg_of X G a38
  have b38 := F38.binds (ps := ["_law_book_here", "_law_model", "_law_deed_here"]) fun _ _ _ _ _ _ us hl => match us, hl with | [_, _, _], _ => rfl
  have F39 := fun_mk (st := s_law_spoken) l39 c39 k39
  have g39 := PySem.W.mg_of X G a39
  have b39 := F39.binds (ps := ["_law_deed_here"]) fun _ _ _ _ _ _ us hl => match us, hl with | [_], _ => rfl
  have F40 := fun_mk (st := s_law_stands) l40 c40 k40
  have g40 := PySem.W.mg_of X G a40
  have b40 := F40.binds (ps := ["_law_book_here", "_law_model"]) fun _ _ _ _ _ _ us hl => match us, hl with | [_, _], _ => rfl
  have F41 := fun_mk (st := s_law_page_text) l41 c41 k41
  have g41 := PySem.W.mg_of X G a41
  have b41 := F41.binds (ps := ["_law_state"]) fun _ _ _ _ _ _ us hl => match us, hl with | [_], _ => rfl
  have F42 := fun_mk (st := sLaw) l42 c42 k42
  have g42 := PySem.W.mg_of X G a42
  have F43 := fun_mk (st := sSheetInit) l43 c43 k43
  have b43 := F43.binds (ps := ["self", "size", "upcoming", "said", "noted"]) fun _ _ _ _ _ _ us hl => match us, hl with | [_, _, _, _, _], _ => rfl
  have F44 := fun_mk (st := sSheetWith_saying) l44 c44 k44
  have b44 := F44.binds (ps := ["self", "row"]) fun _ _ _ _ _ _ us hl => match us, hl with | [_, _], _ => rfl
  have F45 := fun_mk (st := sSheetWith_memory) l45 c45 k45
  have b45 := F45.binds (ps := ["self", "row"]) fun _ _ _ _ _ _ us hl => match us, hl with | [_, _], _ => rfl
  have F46 := fun_mk (st := sSheetCounted_on) l46 c46 k46
  have b46 := F46.binds (ps := ["self"]) fun _ _ _ _ _ _ us hl => match us, hl with | [_], _ => rfl
  have F47 := fun_mk (st := sSheetWithout_saying) l47 c47 k47
  have b47 := F47.binds (ps := ["self", "number"]) fun _ _ _ _ _ _ us hl => match us, hl with | [_, _], _ => rfl
  have F48 := fun_mk (st := sSheetWithout_memory) l48 c48 k48
  have b48 := F48.binds (ps := ["self", "number"]) fun _ _ _ _ _ _ us hl => match us, hl with | [_, _], _ => rfl
  have F49 := fun_mk (st := sSheetAmended) l49 c49 k49
  have b49 := F49.binds (ps := ["self", "row"]) fun _ _ _ _ _ _ us hl => match us, hl with | [_, _], _ => rfl
  have F50 := fun_mk (st := sSheetResized) l50 c50 k50
  have b50 := F50.binds (ps := ["self", "size"]) fun _ _ _ _ _ _ us hl => match us, hl with | [_, _], _ => rfl
  have F51 := fun_mk (st := sSheetLengthened) l51 c51 k51
  have b51 := F51.binds (ps := ["self", "many"]) fun _ _ _ _ _ _ us hl => match us, hl with | [_, _], _ => rfl
  have F52 := fun_mk (st := sSheetShortened) l52 c52 k52
  have b52 := F52.binds (ps := ["self", "many"]) fun _ _ _ _ _ _ us hl => match us, hl with | [_, _], _ => rfl
  have F53 := fun_mk (st := sSheetUsed) l53 c53 k53
  have b53 := F53.binds (ps := ["self"]) fun _ _ _ _ _ _ us hl => match us, hl with | [_], _ => rfl
  have F54 := fun_mk (st := sBookInit) l54 c54 k54
  have b54 := F54.binds (ps := ["self", "length"]) fun _ _ _ _ _ _ us hl => match us, hl with | [_, _], _ => rfl
  have F55 := fun_mk (st := sBookSheet) l55 c55 k55
  have b55 := F55.binds (ps := ["self"]) fun _ _ _ _ _ _ us hl => match us, hl with | [_], _ => rfl
  have F56 := fun_mk (st := sBookLength) l56 c56 k56
  have b56 := F56.binds (ps := ["self"]) fun _ _ _ _ _ _ us hl => match us, hl with | [_], _ => rfl
  have F57 := fun_mk (st := sBookComing) l57 c57 k57
  have b57 := F57.binds (ps := ["self"]) fun _ _ _ _ _ _ us hl => match us, hl with | [_], _ => rfl
  have F58 := fun_mk (st := sBookSayings) l58 c58 k58
  have b58 := F58.binds (ps := ["self"]) fun _ _ _ _ _ _ us hl => match us, hl with | [_], _ => rfl
  have F59 := fun_mk (st := sBookMemories) l59 c59 k59
  have b59 := F59.binds (ps := ["self"]) fun _ _ _ _ _ _ us hl => match us, hl with | [_], _ => rfl
  have F60 := fun_mk (st := sBookSay) l60 c60 k60
  have b60 := F60.binds (ps := ["self", "one", "other", "many", "turned"]) fun _ _ _ _ _ _ us hl => match us, hl with | [_, _, _, _, _], _ => rfl
  have F61 := fun_mk (st := sBookUnsay) l61 c61 k61
  have b61 := F61.binds (ps := ["self", "number"]) fun _ _ _ _ _ _ us hl => match us, hl with | [_, _], _ => rfl
  have F62 := fun_mk (st := sBookAmend) l62 c62 k62
  have b62 := F62.binds (ps := ["self", "number", "one", "other", "many", "turned"]) fun _ _ _ _ _ _ us hl => match us, hl with | [_, _, _, _, _, _], _ => rfl
  have F63 := fun_mk (st := sBookRemember) l63 c63 k63
  have b63 := F63.binds (ps := ["self", "letter", "at", "many"]) fun _ _ _ _ _ _ us hl => match us, hl with | [_, _, _, _], _ => rfl
  have F64 := fun_mk (st := sBookForget) l64 c64 k64
  have b64 := F64.binds (ps := ["self", "number"]) fun _ _ _ _ _ _ us hl => match us, hl with | [_, _], _ => rfl
  have F65 := fun_mk (st := sBookLengthen) l65 c65 k65
  have b65 := F65.binds (ps := ["self", "many"]) fun _ _ _ _ _ _ us hl => match us, hl with | [_, _], _ => rfl
  have F66 := fun_mk (st := sBookShorten) l66 c66 k66
  have b66 := F66.binds (ps := ["self", "many"]) fun _ _ _ _ _ _ us hl => match us, hl with | [_, _], _ => rfl
  have F67 := fun_mk (st := sBookGo_on) l67 c67 k67
  have b67 := F67.binds (ps := ["self", "sheet"]) fun _ _ _ _ _ _ us hl => match us, hl with | [_, _], _ => rfl
  have F68 := fun_mk (st := sBookTurn) l68 c68 k68
  have b68 := F68.binds (ps := ["self", "by"]) fun _ _ _ _ _ _ us hl => match us, hl with | [_, _], _ => rfl
  have F69 := fun_mk (st := sBookUndo) l69 c69 k69
  have b69 := F69.binds (ps := ["self"]) fun _ _ _ _ _ _ us hl => match us, hl with | [_], _ => rfl
  have F70 := fun_mk (st := sBookRedo) l70 c70 k70
  have b70 := F70.binds (ps := ["self"]) fun _ _ _ _ _ _ us hl => match us, hl with | [_], _ => rfl
  have F71 := fun_mk (st := sBookUndoable) l71 c71 k71
  have b71 := F71.binds (ps := ["self"]) fun _ _ _ _ _ _ us hl => match us, hl with | [_], _ => rfl
  have F72 := fun_mk (st := sBookRedoable) l72 c72 k72
  have b72 := F72.binds (ps := ["self"]) fun _ _ _ _ _ _ us hl => match us, hl with | [_], _ => rfl
  have F73 := fun_mk (st := sDeskInit) l73 c73 k73
  have b73 := F73.binds (ps := ["self", "length"]) fun _ _ _ _ _ _ us hl => match us, hl with | [_, _], _ => rfl
  have F74 := fun_mk (st := sDeskBook) l74 c74 k74
  have b74 := F74.binds (ps := ["self"]) fun _ _ _ _ _ _ us hl => match us, hl with | [_], _ => rfl
  have F75 := fun_mk (st := sDeskTell) l75 c75 k75
  have b75 := F75.binds (ps := ["self", "text"]) fun _ _ _ _ _ _ us hl => match us, hl with | [_, _], _ => rfl
  have gC_BadLength := PySem.W.mg_of X G aC_BadLength
  have gC_BadStretch := PySem.W.mg_of X G aC_BadStretch
  have gC_NoPlace := PySem.W.mg_of X G aC_NoPlace
  have gC_NoNumber := PySem.W.mg_of X G aC_NoNumber
  have gC_BadLetter := PySem.W.mg_of X G aC_BadLetter
  have gC_Full := PySem.W.mg_of X G aC_Full
  have gC_InUse := PySem.W.mg_of X G aC_InUse
  have gC_NothingLeft := PySem.W.mg_of X G aC_NothingLeft
  have gC_BadPage := PySem.W.mg_of X G aC_BadPage
  have gC_RepriseError := PySem.W.mg_of X G aC_RepriseError
  have gC_Unfit := PySem.W.mg_of X G aC_Unfit
  have gC_Sheet := PySem.W.mg_of X G aC_Sheet
  have cl_Sheet : Cls K C_Sheet := ⟨pg_Sheet, hd_Sheet, po_Sheet, sa_Sheet⟩
  have gC_Book := PySem.W.mg_of X G aC_Book
  have cl_Book : Cls K C_Book := ⟨pg_Book, hd_Book, po_Book, sa_Book⟩
  have gC_Desk := PySem.W.mg_of X G aC_Desk
  have cl_Desk : Cls K C_Desk := ⟨pg_Desk, hd_Desk, po_Desk, sa_Desk⟩
  have z_len := PySem.W.mg_none_of X G y_len
  have z_range := PySem.W.mg_none_of X G y_range
  have z_list := PySem.W.mg_none_of X G y_list
  have z_isinstance := PySem.W.mg_none_of X G y_isinstance
  have z_bool := PySem.W.mg_none_of X G y_bool
  have z_int := PySem.W.mg_none_of X G y_int
  have z_tuple := PySem.W.mg_none_of X G y_tuple
  have z_str := PySem.W.mg_none_of X G y_str
  have z_all := PySem.W.mg_none_of X G y_all
  have z_zip := PySem.W.mg_none_of X G y_zip
  have z_min := PySem.W.mg_none_of X G y_min
  have z_max := PySem.W.mg_none_of X G y_max
  have z_enumerate := PySem.W.mg_none_of X G y_enumerate
  have z_ValueError := PySem.W.mg_none_of X G y_ValueError
  have z_sorted := PySem.W.mg_none_of X G y_sorted
  have m_TOO_LONG : ∃ u, mg "TOO_LONG" = some u ∧ RelV (.int (10 ^ 40)) u := ⟨_, PySem.W.mg_of X G aI_TOO_LONG, r_TOO_LONG⟩
  have m_MOST : ∃ u, mg "MOST" = some u ∧ RelV (.int (24)) u := ⟨_, PySem.W.mg_of X G aI_MOST, r_MOST⟩
  have m_MOST_FIGURES : ∃ u, mg "MOST_FIGURES" = some u ∧ RelV (.int (40)) u := ⟨_, PySem.W.mg_of X G aI_MOST_FIGURES, r_MOST_FIGURES⟩
  refine ⟨PySem.W.fnOf "law" "law" (defArgs sLaw) (defBody sLaw) (defScope sLaw) .none kV42 dc42 pm42 an42 cd42 ct42, [], spLawB K, ?_, ?_, ?_, fun s v => .of_eq rfl, ?_, fun base _ _ TBs => ?_⟩
  · intro p hp; cases hp
  · intro p hp; cases hp
  · intro p hp; cases hp
  · intro H a ns hl _ _ hS; exact ⟨a, ns, rfl, hS, hl, fun _ => rfl⟩
  have T : TySame mg := ⟨z_isinstance, z_bool, z_int, z_list, z_tuple, z_str, z_len, z_all, z_zip⟩
  have KM_ := (⟨rfl, fun i c h => match i, h with | 0, h => by cases h; exact gC_BadLength | 1, h => by cases h; exact gC_BadStretch | 2, h => by cases h; exact gC_NoPlace | 3, h => by cases h; exact gC_NoNumber | 4, h => by cases h; exact gC_BadLetter | 5, h => by cases h; exact gC_Full | 6, h => by cases h; exact gC_InUse | 7, h => by cases h; exact gC_NothingLeft | 8, h => by cases h; exact gC_BadPage | _ + 9, h => by simp at h⟩ : KinM mg [C_BadLength, C_BadStretch, C_NoPlace, C_NoNumber, C_BadLetter, C_Full, C_InUse, C_NothingLeft, C_BadPage])
  have XT_BadLength := (⟨gC_BadLength, x_BadLength, k_BadLength, b_BadLength, t_BadLength⟩ : ExT K mg "BadLength" C_BadLength)
  have KD_BadLength := (⟨⟨e1_BadLength, e2_BadLength, b_BadLength, e4_BadLength, e5_BadLength, e6_all, e7_all, e8_BadLength⟩, by decide, fun i c h => match i, h with | 0, h => by cases h; exact q0_BadLength | 1, h => by cases h; exact q1_BadLength | 2, h => by cases h; exact q2_BadLength | 3, h => by cases h; exact q3_BadLength | 4, h => by cases h; exact q4_BadLength | 5, h => by cases h; exact q5_BadLength | 6, h => by cases h; exact q6_BadLength | 7, h => by cases h; exact q7_BadLength | 8, h => by cases h; exact q8_BadLength | _ + 9, h => by simp at h, qV_BadLength⟩ : KinD K [C_BadLength, C_BadStretch, C_NoPlace, C_NoNumber, C_BadLetter, C_Full, C_InUse, C_NothingLeft, C_BadPage] C_BadLength 0)
  have XM_BadLength := (PySem.W.exm_ref re_b re_d re_t s_BadLength)
  have XT_BadStretch := (⟨gC_BadStretch, x_BadStretch, k_BadStretch, b_BadStretch, t_BadStretch⟩ : ExT K mg "BadStretch" C_BadStretch)
  have KD_BadStretch := (⟨⟨e1_BadStretch, e2_BadStretch, b_BadStretch, e4_BadStretch, e5_BadStretch, e6_all, e7_all, e8_BadStretch⟩, by decide, fun i c h => match i, h with | 0, h => by cases h; exact q0_BadStretch | 1, h => by cases h; exact q1_BadStretch | 2, h => by cases h; exact q2_BadStretch | 3, h => by cases h; exact q3_BadStretch | 4, h => by cases h; exact q4_BadStretch | 5, h => by cases h; exact q5_BadStretch | 6, h => by cases h; exact q6_BadStretch | 7, h => by cases h; exact q7_BadStretch | 8, h => by cases h; exact q8_BadStretch | _ + 9, h => by simp at h, qV_BadStretch⟩ : KinD K [C_BadLength, C_BadStretch, C_NoPlace, C_NoNumber, C_BadLetter, C_Full, C_InUse, C_NothingLeft, C_BadPage] C_BadStretch 1)
  have XM_BadStretch := (PySem.W.exm_ref re_b re_d re_t s_BadStretch)
  have XT_NoNumber := (⟨gC_NoNumber, x_NoNumber, k_NoNumber, b_NoNumber, t_NoNumber⟩ : ExT K mg "NoNumber" C_NoNumber)
  have KD_NoNumber := (⟨⟨e1_NoNumber, e2_NoNumber, b_NoNumber, e4_NoNumber, e5_NoNumber, e6_all, e7_all, e8_NoNumber⟩, by decide, fun i c h => match i, h with | 0, h => by cases h; exact q0_NoNumber | 1, h => by cases h; exact q1_NoNumber | 2, h => by cases h; exact q2_NoNumber | 3, h => by cases h; exact q3_NoNumber | 4, h => by cases h; exact q4_NoNumber | 5, h => by cases h; exact q5_NoNumber | 6, h => by cases h; exact q6_NoNumber | 7, h => by cases h; exact q7_NoNumber | 8, h => by cases h; exact q8_NoNumber | _ + 9, h => by simp at h, qV_NoNumber⟩ : KinD K [C_BadLength, C_BadStretch, C_NoPlace, C_NoNumber, C_BadLetter, C_Full, C_InUse, C_NothingLeft, C_BadPage] C_NoNumber 3)
  have XM_NoNumber := (PySem.W.exm_ref re_b re_d re_t s_NoNumber)
  have XT_BadLetter := (⟨gC_BadLetter, x_BadLetter, k_BadLetter, b_BadLetter, t_BadLetter⟩ : ExT K mg "BadLetter" C_BadLetter)
  have KD_BadLetter := (⟨⟨e1_BadLetter, e2_BadLetter, b_BadLetter, e4_BadLetter, e5_BadLetter, e6_all, e7_all, e8_BadLetter⟩, by decide, fun i c h => match i, h with | 0, h => by cases h; exact q0_BadLetter | 1, h => by cases h; exact q1_BadLetter | 2, h => by cases h; exact q2_BadLetter | 3, h => by cases h; exact q3_BadLetter | 4, h => by cases h; exact q4_BadLetter | 5, h => by cases h; exact q5_BadLetter | 6, h => by cases h; exact q6_BadLetter | 7, h => by cases h; exact q7_BadLetter | 8, h => by cases h; exact q8_BadLetter | _ + 9, h => by simp at h, qV_BadLetter⟩ : KinD K [C_BadLength, C_BadStretch, C_NoPlace, C_NoNumber, C_BadLetter, C_Full, C_InUse, C_NothingLeft, C_BadPage] C_BadLetter 4)
  have XM_BadLetter := (PySem.W.exm_ref re_b re_d re_t s_BadLetter)
  have XT_Full := (⟨gC_Full, x_Full, k_Full, b_Full, t_Full⟩ : ExT K mg "Full" C_Full)
  have KD_Full := (⟨⟨e1_Full, e2_Full, b_Full, e4_Full, e5_Full, e6_all, e7_all, e8_Full⟩, by decide, fun i c h => match i, h with | 0, h => by cases h; exact q0_Full | 1, h => by cases h; exact q1_Full | 2, h => by cases h; exact q2_Full | 3, h => by cases h; exact q3_Full | 4, h => by cases h; exact q4_Full | 5, h => by cases h; exact q5_Full | 6, h => by cases h; exact q6_Full | 7, h => by cases h; exact q7_Full | 8, h => by cases h; exact q8_Full | _ + 9, h => by simp at h, qV_Full⟩ : KinD K [C_BadLength, C_BadStretch, C_NoPlace, C_NoNumber, C_BadLetter, C_Full, C_InUse, C_NothingLeft, C_BadPage] C_Full 5)
  have XM_Full := (PySem.W.exm_ref re_b re_d re_t s_Full)
  have XT_InUse := (⟨gC_InUse, x_InUse, k_InUse, b_InUse, t_InUse⟩ : ExT K mg "InUse" C_InUse)
  have KD_InUse := (⟨⟨e1_InUse, e2_InUse, b_InUse, e4_InUse, e5_InUse, e6_all, e7_all, e8_InUse⟩, by decide, fun i c h => match i, h with | 0, h => by cases h; exact q0_InUse | 1, h => by cases h; exact q1_InUse | 2, h => by cases h; exact q2_InUse | 3, h => by cases h; exact q3_InUse | 4, h => by cases h; exact q4_InUse | 5, h => by cases h; exact q5_InUse | 6, h => by cases h; exact q6_InUse | 7, h => by cases h; exact q7_InUse | 8, h => by cases h; exact q8_InUse | _ + 9, h => by simp at h, qV_InUse⟩ : KinD K [C_BadLength, C_BadStretch, C_NoPlace, C_NoNumber, C_BadLetter, C_Full, C_InUse, C_NothingLeft, C_BadPage] C_InUse 6)
  have XM_InUse := (PySem.W.exm_ref re_b re_d re_t s_InUse)
  have XT_NothingLeft := (⟨gC_NothingLeft, x_NothingLeft, k_NothingLeft, b_NothingLeft, t_NothingLeft⟩ : ExT K mg "NothingLeft" C_NothingLeft)
  have KD_NothingLeft := (⟨⟨e1_NothingLeft, e2_NothingLeft, b_NothingLeft, e4_NothingLeft, e5_NothingLeft, e6_all, e7_all, e8_NothingLeft⟩, by decide, fun i c h => match i, h with | 0, h => by cases h; exact q0_NothingLeft | 1, h => by cases h; exact q1_NothingLeft | 2, h => by cases h; exact q2_NothingLeft | 3, h => by cases h; exact q3_NothingLeft | 4, h => by cases h; exact q4_NothingLeft | 5, h => by cases h; exact q5_NothingLeft | 6, h => by cases h; exact q6_NothingLeft | 7, h => by cases h; exact q7_NothingLeft | 8, h => by cases h; exact q8_NothingLeft | _ + 9, h => by simp at h, qV_NothingLeft⟩ : KinD K [C_BadLength, C_BadStretch, C_NoPlace, C_NoNumber, C_BadLetter, C_Full, C_InUse, C_NothingLeft, C_BadPage] C_NothingLeft 7)
  have XM_NothingLeft := (PySem.W.exm_ref re_b re_d re_t s_NothingLeft)
  have TXS : TxS K C_Sheet := ⟨cl_Sheet, n_Sheet_size, n_Sheet_upcoming, n_Sheet_said, n_Sheet_noted⟩
  have TPL : TPl K mg C_BadLength C_NoNumber C_Full := ⟨XT_BadLength, XT_NoNumber, XT_Full, m_TOO_LONG, m_MOST, z_len, z_enumerate⟩
  have GCl : FnOk l.prog w K mg base (L2N.CX l.prog w) 8 f1 _ ["length"] (spChklX C_BadLength) := (ok_chklX F1 TPL)
  have GCt : FnOk l.prog w K mg base (L2N.CX l.prog w) 7 f2 _ ["length", "at", "many"] (spChksX C_BadStretch) := (ok_chksX F2 XT_BadStretch)
  have GCs : FnOk l.prog w K mg base (L2N.CX l.prog w) 8 f3 _ ["length", "sayings"] (spChkssX K C_BadStretch) := (ok_chkssX F3 ⟨GCt, b2, k2, g2⟩)
  have GLt : FnOk l.prog w K mg base (L2N.CX l.prog w) 7 f4 _ ["letter"] (spLetterX C_BadLetter) := (ok_letterX F4 T XT_BadLetter)
  have GCm : FnOk l.prog w K mg base (L2N.CX l.prog w) 8 f5 _ ["length", "letter", "at", "many"] (spCmemX C_BadLetter C_BadStretch) := (ok_cmemX F5 GLt k4 b4 g4 GCt k2 b2 g2)
  have GPo : FnOk l.prog w K mg base (L2N.CX l.prog w) 8 f6 _ ["rows", "number"] (spPlo K C_NoNumber) := (ok_plo F6 TPL)
  have GPo7 : FnOk l.prog w K mg base (L2N.CX l.prog w) 7 f6 _ ["rows", "number"] (spPlo K C_NoNumber) := (ok_plo F6 TPL)
  have GWo : FnOk l.prog w K mg base (L2N.CX l.prog w) 8 f7 _ ["rows", "number"] (spWout K C_NoNumber) := (ok_wout F7 ⟨GPo7, b6, k6, g6⟩)
  have GUn : FnOk l.prog w K mg base CX0 8 f8 _ ["rows"] (spUnn K) := (ok_unn F8)
  have GCr : FnOk l.prog w K mg base (L2N.CX l.prog w) 8 f9 _ ["rows"] (spRoom K C_Full) := (ok_room F9 TPL)
  have GCg : FnOk l.prog w K mg base (L2N.CX l.prog w) 8 f10 _ ["many"] (spChg C_BadLength) := (ok_chg F10 TPL)
  have GSh : FnOk l.prog w K mg base CX0 7 f43 _ ["self", "size", "upcoming", "said", "noted"] (spSinit C_Sheet) := (ok_sinit F43 TXS)
  have TSH : TSh l.prog w K mg base C_Sheet C_BadLength C_NoNumber C_Full C_BadStretch C_BadLetter C_InUse f43 f1 f3 f5 f6 f7 f8 f9 f10 f50 f53 _ _ _ _ _ _ _ _ _ _ _ := ⟨TXS, ⟨mk_Sheet, a43, i43, kc_Sheet⟩, GSh, b43, gC_Sheet, GCl, b1, k1, g1, GCs, b3, k3, g3, GCm, b5, k5, g5, GPo, b6, k6, g6, GWo, b7, k7, g7, GUn, b8, k8, g8, GCr, b9, k9, g9, GCg, b10, k10, g10, ⟨a50, i50, k50⟩, b50, ⟨a53, i53, k53⟩, b53, XT_InUse, z_max⟩
  have G1 : FnOk l.prog w K mg base (L2N.CX l.prog w) 9 f44 _ ["self", "row"] (spShws C_Sheet C_BadStretch C_Full) := (ok_shws F44 TSH)
  have G2 : FnOk l.prog w K mg base (L2N.CX l.prog w) 9 f45 _ ["self", "row"] (spShwm C_Sheet C_BadLetter C_BadStretch C_Full) := (ok_shwm F45 TSH)
  have G3 : FnOk l.prog w K mg base CX0 9 f46 _ ["self"] (spShco C_Sheet) := (ok_shco F46 TSH)
  have G4 : FnOk l.prog w K mg base (L2N.CX l.prog w) 9 f47 _ ["self", "number"] (spShos C_Sheet C_NoNumber) := (ok_shos F47 TSH)
  have G5 : FnOk l.prog w K mg base (L2N.CX l.prog w) 9 f48 _ ["self", "number"] (spShom C_Sheet C_NoNumber) := (ok_shom F48 TSH)
  have G6 : FnOk l.prog w K mg base (L2N.CX l.prog w) 9 f49 _ ["self", "row"] (spSham C_Sheet C_NoNumber C_BadStretch) := (ok_sham F49 TSH)
  have G7 : FnOk l.prog w K mg base (L2N.CX l.prog w) 9 f50 _ ["self", "size"] (spShre C_Sheet C_BadLength) := (ok_shre F50 TSH)
  have G0 : FnOk l.prog w K mg base CX0 8 f53 _ ["self"] (spShus C_Sheet) := (ok_shus F53 TXS ⟨z_max⟩)
  have G8 : FnOk l.prog w K mg base (L2N.CX l.prog w) 10 f51 _ ["self", "many"] (spShle C_Sheet C_BadLength) := (ok_shle F51 TSH G7)
  have G9 : FnOk l.prog w K mg base (L2N.CX l.prog w) 10 f52 _ ["self", "many"] (spShsh C_Sheet C_BadLength C_InUse) := (ok_shsh F52 TSH G7 G0)
  have TXB : TxB K mg C_Book C_Sheet := ⟨TXS, cl_Book, n_Book_sheets, n_Book_here, n_Book_song, n_Book_notes, ne_BS, z_list, z_len⟩
  have Gbs : FnOk l.prog w K mg base CX0 7 f55 _ ["self"] (spBsheet C_Book C_Sheet) := (ok_bsheet F55 TXB)
  have TB1_ : TB1 l.prog w K mg base C_Book C_Sheet f55 _ := ⟨TXB, ⟨a55, i55, k55⟩, Gbs, b55⟩
  have Gbl : FnOk l.prog w K mg base CX0 8 f56 _ ["self"] (spBlen C_Book C_Sheet) := (ok_blen F56 TB1_)
  have Gbc : FnOk l.prog w K mg base CX0 8 f57 _ ["self"] (spBcom C_Book C_Sheet) := (ok_bcom F57 TB1_)
  have Gba : FnOk l.prog w K mg base CX0 8 f58 _ ["self"] (spBsay C_Book C_Sheet) := (ok_bsay F58 TB1_)
  have Gbm : FnOk l.prog w K mg base CX0 8 f59 _ ["self"] (spBmem C_Book C_Sheet) := (ok_bmem F59 TB1_)
  have Gbt : FnOk l.prog w K mg base CX0 8 f68 _ ["self", "by"] (spBturn C_Book C_Sheet) := (ok_bturn F68 TB1_)
  have Gbu : FnOk l.prog w K mg base CX0 7 f71 _ ["self"] (spBundb C_Book C_Sheet) := (ok_bundb F71 TXB)
  have Gbr : FnOk l.prog w K mg base CX0 7 f72 _ ["self"] (spBredb C_Book C_Sheet) := (ok_bredb F72 TXB)
  have Gbo : FnOk l.prog w K mg base CX0 9 f67 _ ["self", "sheet"] (spBgoon C_Book C_Sheet) := (ok_bgoon F67 TXB ⟨cl_Book, ⟨a68, i68, k68⟩, Gbt, b68⟩)
  have TB2_ : TB2 l.prog w K mg base C_Book C_Sheet (fun j => match j with | 0 => C_BadLength | 1 => C_BadStretch | 2 => C_NoPlace | 3 => C_NoNumber | 4 => C_BadLetter | 5 => C_Full | 6 => C_InUse | _ => C_NothingLeft) f55 f57 f67 f68 f71 f72 f44 f45 f46 f47 f48 f49 f51 f52 _ _ _ _ _ _ _ _ _ _ _ _ _ _ := ⟨TB1_, ⟨a57, i57, k57⟩, Gbc, b57, ⟨a67, i67, k67⟩, Gbo, b67, ⟨a68, i68, k68⟩, Gbt, b68, ⟨a71, i71, k71⟩, Gbu, b71, ⟨a72, i72, k72⟩, Gbr, b72, ⟨a44, i44, k44⟩, G1, b44, ⟨a45, i45, k45⟩, G2, b45, ⟨a46, i46, k46⟩, G3, b46, ⟨a47, i47, k47⟩, G4, b47, ⟨a48, i48, k48⟩, G5, b48, ⟨a49, i49, k49⟩, G6, b49, ⟨a51, i51, k51⟩, G8, b51, ⟨a52, i52, k52⟩, G9, b52, XT_NothingLeft⟩
  have Dsa : FnOk l.prog w K mg base (L2N.CX l.prog w) 11 f60 _ ["self", "one", "other", "many", "turned"] (spDd C_Book C_Sheet (fun j => match j with | 0 => C_BadLength | 1 => C_BadStretch | 2 => C_NoPlace | 3 => C_NoNumber | 4 => C_BadLetter | 5 => C_Full | 6 => C_InUse | _ => C_NothingLeft) mSay) := (ok_bsayd F60 TB2_)
  have Dus : FnOk l.prog w K mg base (L2N.CX l.prog w) 11 f61 _ ["self", "number"] (spDd C_Book C_Sheet (fun j => match j with | 0 => C_BadLength | 1 => C_BadStretch | 2 => C_NoPlace | 3 => C_NoNumber | 4 => C_BadLetter | 5 => C_Full | 6 => C_InUse | _ => C_NothingLeft) mUnsay) := (ok_bunsay F61 TB2_)
  have Dam : FnOk l.prog w K mg base (L2N.CX l.prog w) 11 f62 _ ["self", "number", "one", "other", "many", "turned"] (spDd C_Book C_Sheet (fun j => match j with | 0 => C_BadLength | 1 => C_BadStretch | 2 => C_NoPlace | 3 => C_NoNumber | 4 => C_BadLetter | 5 => C_Full | 6 => C_InUse | _ => C_NothingLeft) mAmend) := (ok_bamend F62 TB2_)
  have Dre : FnOk l.prog w K mg base (L2N.CX l.prog w) 11 f63 _ ["self", "letter", "at", "many"] (spDd C_Book C_Sheet (fun j => match j with | 0 => C_BadLength | 1 => C_BadStretch | 2 => C_NoPlace | 3 => C_NoNumber | 4 => C_BadLetter | 5 => C_Full | 6 => C_InUse | _ => C_NothingLeft) mRem) := (ok_brem F63 TB2_)
  have Dfo : FnOk l.prog w K mg base (L2N.CX l.prog w) 11 f64 _ ["self", "number"] (spDd C_Book C_Sheet (fun j => match j with | 0 => C_BadLength | 1 => C_BadStretch | 2 => C_NoPlace | 3 => C_NoNumber | 4 => C_BadLetter | 5 => C_Full | 6 => C_InUse | _ => C_NothingLeft) mForget) := (ok_bforg F64 TB2_)
  have Dle : FnOk l.prog w K mg base (L2N.CX l.prog w) 11 f65 _ ["self", "many"] (spDd C_Book C_Sheet (fun j => match j with | 0 => C_BadLength | 1 => C_BadStretch | 2 => C_NoPlace | 3 => C_NoNumber | 4 => C_BadLetter | 5 => C_Full | 6 => C_InUse | _ => C_NothingLeft) mLonger) := (ok_blon F65 TB2_)
  have Dso : FnOk l.prog w K mg base (L2N.CX l.prog w) 11 f66 _ ["self", "many"] (spDd C_Book C_Sheet (fun j => match j with | 0 => C_BadLength | 1 => C_BadStretch | 2 => C_NoPlace | 3 => C_NoNumber | 4 => C_BadLetter | 5 => C_Full | 6 => C_InUse | _ => C_NothingLeft) mShorter) := (ok_bsho F66 TB2_)
  have Dun : FnOk l.prog w K mg base (L2N.CX l.prog w) 11 f69 _ ["self"] (spBundo C_Book C_Sheet (fun j => match j with | 0 => C_BadLength | 1 => C_BadStretch | 2 => C_NoPlace | 3 => C_NoNumber | 4 => C_BadLetter | 5 => C_Full | 6 => C_InUse | _ => C_NothingLeft)) := (ok_bundo F69 TB2_)
  have Drd : FnOk l.prog w K mg base (L2N.CX l.prog w) 11 f70 _ ["self"] (spBredo C_Book C_Sheet (fun j => match j with | 0 => C_BadLength | 1 => C_BadStretch | 2 => C_NoPlace | 3 => C_NoNumber | 4 => C_BadLetter | 5 => C_Full | 6 => C_InUse | _ => C_NothingLeft)) := (ok_bredo F70 TB2_)
  have GBi : FnOk l.prog w K mg base (L2N.CX l.prog w) 9 f54 _ ["self", "length"] (spBinit C_Book C_Sheet C_BadLength) := (ok_binit F54 TXB ⟨GCl, b1, k1, g1, ⟨mk_Sheet, a43, i43, kc_Sheet⟩, GSh, b43, gC_Sheet⟩)
  have GK : FnP l.prog w K mg base CX0 7 f36 _ ["_law_e"] (spKin K [C_BadLength, C_BadStretch, C_NoPlace, C_NoNumber, C_BadLetter, C_Full, C_InUse, C_NothingLeft, C_BadPage]) := ok_kin F36 KM_ z_isinstance z_ValueError z_zip
  have GDo : FnOk l.prog w K mg base CX0 12 f37 _ ["_law_book_here", "_law_deed_here"] (spDo C_Book C_Sheet) := (ok_ldo (cz := (fun j => match j with | 0 => C_BadLength | 1 => C_BadStretch | 2 => C_NoPlace | 3 => C_NoNumber | 4 => C_BadLetter | 5 => C_Full | 6 => C_InUse | _ => C_NothingLeft)) F37 ⟨cl_Book, ⟨a60, i60, k60⟩, Dsa, b60, ⟨a61, i61, k61⟩, Dus, b61, ⟨a62, i62, k62⟩, Dam, b62, ⟨a63, i63, k63⟩, Dre, b63, ⟨a64, i64, k64⟩, Dfo, b64, ⟨a65, i65, k65⟩, Dle, b65, ⟨a66, i66, k66⟩, Dso, b66, ⟨a69, i69, k69⟩, Dun, b69, ⟨a70, i70, k70⟩, Drd, b70, GK, b36, k36, g36, gC_RepriseError, fun j hj => (by rcases hj with rfl | rfl | rfl | rfl | rfl | rfl | rfl <;> first | exact XM_BadLength | exact XM_BadStretch | exact XM_NoNumber | exact XM_BadLetter | exact XM_Full | exact XM_InUse | exact XM_NothingLeft), fun j hj => (by rcases hj with rfl | rfl | rfl | rfl | rfl | rfl | rfl <;> first | exact KD_BadLength | exact KD_BadStretch | exact KD_NoNumber | exact KD_BadLetter | exact KD_Full | exact KD_InUse | exact KD_NothingLeft)⟩)
  have GLn : FnOk l.prog w K mg base CX0 9 f23 _ ["_law_state", "_law_deed_here"] (spNx true) := (ok_lln F23 ⟨(ok_gs F24), b24, k24, g24, (ok_num F25), b25, k25, g25, z_max, z_len⟩)
  have GRn : FnOk l.prog w K mg base CX0 9 f26 _ ["_law_state", "_law_deed_here"] (spNx false) := (ok_lrn F26 ⟨(ok_gs F24), b24, k24, g24, (ok_num F25), b25, k25, g25, z_max, z_len⟩)
  have GDm : FnOk l.prog w K mg base CX0 10 f27 _ ["_law_book_here", "_law_deed_here"] spDm := (ok_ldm F27 ⟨GLn, b23, k23, g23, GRn, b26, k26, g26, z_int⟩)
  have GMt : FnOk l.prog w K mg base CX0 13 f38 _ ["_law_book_here", "_law_model", "_law_deed_here"] (spMet C_Book C_Sheet) := (ok_lmet F38 ⟨GDo, b37, k37, g37, GDm, b27, k27, g27, (ok_same F28 b28 g28 T 7), b28, k28, g28⟩)
  have GSt : FnOk l.prog w K mg base CX0 9 f40 _ ["_law_book_here", "_law_model"] (spStd C_Book C_Sheet) := (ok_lst F40 ⟨cl_Book, ⟨a56, i56, k56⟩, Gbl, b56, ⟨a57, i57, k57⟩, Gbc, b57, ⟨a58, i58, k58⟩, Gba, b58, ⟨a59, i59, k59⟩, Gbm, b59, ⟨a71, i71, k71⟩, Gbu, b71, ⟨a72, i72, k72⟩, Gbr, b72, (ok_same F28 b28 g28 T 7), b28, k28, g28, z_len⟩)
  have GLb : FnOk l.prog w K mg base CX0 8 f22 _ ["_law_length"] spLb := (ok_lb F22)
  have GD : FnOk l.prog w K mg base CX0 7 f21 _ ["_law_script", "_law_k", "_law_sizes"] (spDig K) := (ok_dig F21 (ok_raw F20 F19 b19 g19 z_len z_range) k20 b20 g20)
  have GDe : FnOk l.prog w K mg base CX0 8 f35 _ ["_law_script", "_law_k", "_law_state"] (spDeed K) := (ok_deed F35 ⟨GD, b21, k21, g21, (ok_say F33 (ok_dig F21 (ok_raw F20 F19 b19 g19 z_len z_range) k20 b20 g20) k21 b21 g21 z_min z_max), b33, k33, g33, (ok_ll F34), b34, k34, g34, z_max, z_int, z_len⟩)
  have XJ0 : ∀ i, i < 8 → PySem.W.exmOne K (.ref C_BadLength) (.ref ((fun j => match j with | 0 => C_BadLength | 1 => C_BadStretch | 2 => C_NoPlace | 3 => C_NoNumber | 4 => C_BadLetter | 5 => C_Full | 6 => C_InUse | _ => C_NothingLeft) i)) = some (decide (i = 0)) := fun i hi => match i, hi with | 0, _ => PySem.W.exm_ref b_BadLength e4_BadLength t_BadLength w_BadLength_BadLength | 1, _ => PySem.W.exm_ref b_BadStretch e4_BadStretch t_BadStretch w_BadLength_BadStretch | 2, _ => PySem.W.exm_ref b_NoPlace e4_NoPlace t_NoPlace w_BadLength_NoPlace | 3, _ => PySem.W.exm_ref b_NoNumber e4_NoNumber t_NoNumber w_BadLength_NoNumber | 4, _ => PySem.W.exm_ref b_BadLetter e4_BadLetter t_BadLetter w_BadLength_BadLetter | 5, _ => PySem.W.exm_ref b_Full e4_Full t_Full w_BadLength_Full | 6, _ => PySem.W.exm_ref b_InUse e4_InUse t_InUse w_BadLength_InUse | 7, _ => PySem.W.exm_ref b_NothingLeft e4_NothingLeft t_NothingLeft w_BadLength_NothingLeft | _ + 8, h => absurd h (by omega)
  have XJ1 : ∀ i, i < 8 → PySem.W.exmOne K (.ref C_BadStretch) (.ref ((fun j => match j with | 0 => C_BadLength | 1 => C_BadStretch | 2 => C_NoPlace | 3 => C_NoNumber | 4 => C_BadLetter | 5 => C_Full | 6 => C_InUse | _ => C_NothingLeft) i)) = some (decide (i = 1)) := fun i hi => match i, hi with | 0, _ => PySem.W.exm_ref b_BadLength e4_BadLength t_BadLength w_BadStretch_BadLength | 1, _ => PySem.W.exm_ref b_BadStretch e4_BadStretch t_BadStretch w_BadStretch_BadStretch | 2, _ => PySem.W.exm_ref b_NoPlace e4_NoPlace t_NoPlace w_BadStretch_NoPlace | 3, _ => PySem.W.exm_ref b_NoNumber e4_NoNumber t_NoNumber w_BadStretch_NoNumber | 4, _ => PySem.W.exm_ref b_BadLetter e4_BadLetter t_BadLetter w_BadStretch_BadLetter | 5, _ => PySem.W.exm_ref b_Full e4_Full t_Full w_BadStretch_Full | 6, _ => PySem.W.exm_ref b_InUse e4_InUse t_InUse w_BadStretch_InUse | 7, _ => PySem.W.exm_ref b_NothingLeft e4_NothingLeft t_NothingLeft w_BadStretch_NothingLeft | _ + 8, h => absurd h (by omega)
  have XJ2 : ∀ i, i < 8 → PySem.W.exmOne K (.ref C_NoPlace) (.ref ((fun j => match j with | 0 => C_BadLength | 1 => C_BadStretch | 2 => C_NoPlace | 3 => C_NoNumber | 4 => C_BadLetter | 5 => C_Full | 6 => C_InUse | _ => C_NothingLeft) i)) = some (decide (i = 2)) := fun i hi => match i, hi with | 0, _ => PySem.W.exm_ref b_BadLength e4_BadLength t_BadLength w_NoPlace_BadLength | 1, _ => PySem.W.exm_ref b_BadStretch e4_BadStretch t_BadStretch w_NoPlace_BadStretch | 2, _ => PySem.W.exm_ref b_NoPlace e4_NoPlace t_NoPlace w_NoPlace_NoPlace | 3, _ => PySem.W.exm_ref b_NoNumber e4_NoNumber t_NoNumber w_NoPlace_NoNumber | 4, _ => PySem.W.exm_ref b_BadLetter e4_BadLetter t_BadLetter w_NoPlace_BadLetter | 5, _ => PySem.W.exm_ref b_Full e4_Full t_Full w_NoPlace_Full | 6, _ => PySem.W.exm_ref b_InUse e4_InUse t_InUse w_NoPlace_InUse | 7, _ => PySem.W.exm_ref b_NothingLeft e4_NothingLeft t_NothingLeft w_NoPlace_NothingLeft | _ + 8, h => absurd h (by omega)
  have XJ3 : ∀ i, i < 8 → PySem.W.exmOne K (.ref C_NoNumber) (.ref ((fun j => match j with | 0 => C_BadLength | 1 => C_BadStretch | 2 => C_NoPlace | 3 => C_NoNumber | 4 => C_BadLetter | 5 => C_Full | 6 => C_InUse | _ => C_NothingLeft) i)) = some (decide (i = 3)) := fun i hi => match i, hi with | 0, _ => PySem.W.exm_ref b_BadLength e4_BadLength t_BadLength w_NoNumber_BadLength | 1, _ => PySem.W.exm_ref b_BadStretch e4_BadStretch t_BadStretch w_NoNumber_BadStretch | 2, _ => PySem.W.exm_ref b_NoPlace e4_NoPlace t_NoPlace w_NoNumber_NoPlace | 3, _ => PySem.W.exm_ref b_NoNumber e4_NoNumber t_NoNumber w_NoNumber_NoNumber | 4, _ => PySem.W.exm_ref b_BadLetter e4_BadLetter t_BadLetter w_NoNumber_BadLetter | 5, _ => PySem.W.exm_ref b_Full e4_Full t_Full w_NoNumber_Full | 6, _ => PySem.W.exm_ref b_InUse e4_InUse t_InUse w_NoNumber_InUse | 7, _ => PySem.W.exm_ref b_NothingLeft e4_NothingLeft t_NothingLeft w_NoNumber_NothingLeft | _ + 8, h => absurd h (by omega)
  have XJ4 : ∀ i, i < 8 → PySem.W.exmOne K (.ref C_BadLetter) (.ref ((fun j => match j with | 0 => C_BadLength | 1 => C_BadStretch | 2 => C_NoPlace | 3 => C_NoNumber | 4 => C_BadLetter | 5 => C_Full | 6 => C_InUse | _ => C_NothingLeft) i)) = some (decide (i = 4)) := fun i hi => match i, hi with | 0, _ => PySem.W.exm_ref b_BadLength e4_BadLength t_BadLength w_BadLetter_BadLength | 1, _ => PySem.W.exm_ref b_BadStretch e4_BadStretch t_BadStretch w_BadLetter_BadStretch | 2, _ => PySem.W.exm_ref b_NoPlace e4_NoPlace t_NoPlace w_BadLetter_NoPlace | 3, _ => PySem.W.exm_ref b_NoNumber e4_NoNumber t_NoNumber w_BadLetter_NoNumber | 4, _ => PySem.W.exm_ref b_BadLetter e4_BadLetter t_BadLetter w_BadLetter_BadLetter | 5, _ => PySem.W.exm_ref b_Full e4_Full t_Full w_BadLetter_Full | 6, _ => PySem.W.exm_ref b_InUse e4_InUse t_InUse w_BadLetter_InUse | 7, _ => PySem.W.exm_ref b_NothingLeft e4_NothingLeft t_NothingLeft w_BadLetter_NothingLeft | _ + 8, h => absurd h (by omega)
  have XJ5 : ∀ i, i < 8 → PySem.W.exmOne K (.ref C_Full) (.ref ((fun j => match j with | 0 => C_BadLength | 1 => C_BadStretch | 2 => C_NoPlace | 3 => C_NoNumber | 4 => C_BadLetter | 5 => C_Full | 6 => C_InUse | _ => C_NothingLeft) i)) = some (decide (i = 5)) := fun i hi => match i, hi with | 0, _ => PySem.W.exm_ref b_BadLength e4_BadLength t_BadLength w_Full_BadLength | 1, _ => PySem.W.exm_ref b_BadStretch e4_BadStretch t_BadStretch w_Full_BadStretch | 2, _ => PySem.W.exm_ref b_NoPlace e4_NoPlace t_NoPlace w_Full_NoPlace | 3, _ => PySem.W.exm_ref b_NoNumber e4_NoNumber t_NoNumber w_Full_NoNumber | 4, _ => PySem.W.exm_ref b_BadLetter e4_BadLetter t_BadLetter w_Full_BadLetter | 5, _ => PySem.W.exm_ref b_Full e4_Full t_Full w_Full_Full | 6, _ => PySem.W.exm_ref b_InUse e4_InUse t_InUse w_Full_InUse | 7, _ => PySem.W.exm_ref b_NothingLeft e4_NothingLeft t_NothingLeft w_Full_NothingLeft | _ + 8, h => absurd h (by omega)
  have XJ6 : ∀ i, i < 8 → PySem.W.exmOne K (.ref C_InUse) (.ref ((fun j => match j with | 0 => C_BadLength | 1 => C_BadStretch | 2 => C_NoPlace | 3 => C_NoNumber | 4 => C_BadLetter | 5 => C_Full | 6 => C_InUse | _ => C_NothingLeft) i)) = some (decide (i = 6)) := fun i hi => match i, hi with | 0, _ => PySem.W.exm_ref b_BadLength e4_BadLength t_BadLength w_InUse_BadLength | 1, _ => PySem.W.exm_ref b_BadStretch e4_BadStretch t_BadStretch w_InUse_BadStretch | 2, _ => PySem.W.exm_ref b_NoPlace e4_NoPlace t_NoPlace w_InUse_NoPlace | 3, _ => PySem.W.exm_ref b_NoNumber e4_NoNumber t_NoNumber w_InUse_NoNumber | 4, _ => PySem.W.exm_ref b_BadLetter e4_BadLetter t_BadLetter w_InUse_BadLetter | 5, _ => PySem.W.exm_ref b_Full e4_Full t_Full w_InUse_Full | 6, _ => PySem.W.exm_ref b_InUse e4_InUse t_InUse w_InUse_InUse | 7, _ => PySem.W.exm_ref b_NothingLeft e4_NothingLeft t_NothingLeft w_InUse_NothingLeft | _ + 8, h => absurd h (by omega)
  have XJ7 : ∀ i, i < 8 → PySem.W.exmOne K (.ref C_NothingLeft) (.ref ((fun j => match j with | 0 => C_BadLength | 1 => C_BadStretch | 2 => C_NoPlace | 3 => C_NoNumber | 4 => C_BadLetter | 5 => C_Full | 6 => C_InUse | _ => C_NothingLeft) i)) = some (decide (i = 7)) := fun i hi => match i, hi with | 0, _ => PySem.W.exm_ref b_BadLength e4_BadLength t_BadLength w_NothingLeft_BadLength | 1, _ => PySem.W.exm_ref b_BadStretch e4_BadStretch t_BadStretch w_NothingLeft_BadStretch | 2, _ => PySem.W.exm_ref b_NoPlace e4_NoPlace t_NoPlace w_NothingLeft_NoPlace | 3, _ => PySem.W.exm_ref b_NoNumber e4_NoNumber t_NoNumber w_NothingLeft_NoNumber | 4, _ => PySem.W.exm_ref b_BadLetter e4_BadLetter t_BadLetter w_NothingLeft_BadLetter | 5, _ => PySem.W.exm_ref b_Full e4_Full t_Full w_NothingLeft_Full | 6, _ => PySem.W.exm_ref b_InUse e4_InUse t_InUse w_NothingLeft_InUse | 7, _ => PySem.W.exm_ref b_NothingLeft e4_NothingLeft t_NothingLeft w_NothingLeft_NothingLeft | _ + 8, h => absurd h (by omega)
  have XJ : ∀ j i, j < 8 → i < 8 → PySem.W.exmOne K (.ref ((fun j => match j with | 0 => C_BadLength | 1 => C_BadStretch | 2 => C_NoPlace | 3 => C_NoNumber | 4 => C_BadLetter | 5 => C_Full | 6 => C_InUse | _ => C_NothingLeft) j)) (.ref ((fun j => match j with | 0 => C_BadLength | 1 => C_BadStretch | 2 => C_NoPlace | 3 => C_NoNumber | 4 => C_BadLetter | 5 => C_Full | 6 => C_InUse | _ => C_NothingLeft) i)) = some (decide (i = j)) := fun j i hj hi => match j, hj with | 0, _ => XJ0 i hi | 1, _ => XJ1 i hi | 2, _ => XJ2 i hi | 3, _ => XJ3 i hi | 4, _ => XJ4 i hi | 5, _ => XJ5 i hi | 6, _ => XJ6 i hi | 7, _ => XJ7 i hi | _ + 8, h => absurd h (by omega)
  have XU : ∀ j, j < 8 → PySem.W.exmOne K (.ref ((fun j => match j with | 0 => C_BadLength | 1 => C_BadStretch | 2 => C_NoPlace | 3 => C_NoNumber | 4 => C_BadLetter | 5 => C_Full | 6 => C_InUse | _ => C_NothingLeft) j)) (.ref C_Unfit) = some false := fun j hj => match j, hj with | 0, _ => PySem.W.exm_ref b_Unfit e4_Unfit t_Unfit w_BadLength_Unfit | 1, _ => PySem.W.exm_ref b_Unfit e4_Unfit t_Unfit w_BadStretch_Unfit | 2, _ => PySem.W.exm_ref b_Unfit e4_Unfit t_Unfit w_NoPlace_Unfit | 3, _ => PySem.W.exm_ref b_Unfit e4_Unfit t_Unfit w_NoNumber_Unfit | 4, _ => PySem.W.exm_ref b_Unfit e4_Unfit t_Unfit w_BadLetter_Unfit | 5, _ => PySem.W.exm_ref b_Unfit e4_Unfit t_Unfit w_Full_Unfit | 6, _ => PySem.W.exm_ref b_Unfit e4_Unfit t_Unfit w_InUse_Unfit | 7, _ => PySem.W.exm_ref b_Unfit e4_Unfit t_Unfit w_NothingLeft_Unfit | _ + 8, h => absurd h (by omega)
  have KJl : ∀ j, KJ j → j < 8 := fun j hj => by rcases hj with rfl | rfl | rfl | rfl | rfl | rfl | rfl <;> decide
  have GNw : FnOk l.prog w K mg base CX0 8 f12 _ ["word"] spNumW := (ok_numw F12 ⟨z_len, z_int, m_MOST_FIGURES⟩)
  have GTu : FnOk l.prog w K mg base CX0 8 f13 _ ["word"] spTurW := (ok_turw F13)
  have GSw : FnOk l.prog w K mg base CX0 9 f14 _ ["one", "other", "many", "way"] spSayW := (ok_sayw F14 ⟨GNw, b12, k12, g12, GTu, b13, k13, g13⟩)
  have GWd : FnOk l.prog w K mg base CX0 8 f11 _ ["row"] spWds := (ok_wds F11)
  have GWy8 : FnOk l.prog w K mg base CX0 8 f15 _ ["turned"] spWyW := (ok_wyw F15)
  have GPg : FnOk l.prog w K mg base CX0 9 f16 _ ["book"] (spPage C_Book C_Sheet) := (ok_page F16 ⟨cl_Book, ⟨a58, i58, k58⟩, Gba, b58, ⟨a59, i59, k59⟩, Gbm, b59, ⟨a56, i56, k56⟩, Gbl, b56, ⟨a57, i57, k57⟩, Gbc, b57, GWy8, b15, k15, g15, z_sorted⟩)
  have GAnw : FnOk l.prog w K mg base (L2N.CX l.prog w) 12 f18 _ ["book", "words"] (spAnP C_Book C_Sheet) := (ok_anp F18 ⟨GPg, b16, k16, g16⟩)
  have TOR : TOr l.prog w K mg base C_Book C_Sheet (fun j => match j with | 0 => C_BadLength | 1 => C_BadStretch | 2 => C_NoPlace | 3 => C_NoNumber | 4 => C_BadLetter | 5 => C_Full | 6 => C_InUse | _ => C_NothingLeft) f60 f61 f62 f63 f64 f65 f66 f69 f70 f12 f14 f56 f18 _ _ _ _ _ _ _ _ _ _ _ _ _ (spAnP C_Book C_Sheet) := ⟨cl_Book, ⟨⟨a60, i60, k60⟩, gf_say, tk_say, (by decide +kernel), fi_say⟩, Dsa, b60, ⟨a61, i61, k61⟩, Dus, b61, ⟨⟨a62, i62, k62⟩, gf_amend, tk_amend, (by decide +kernel), fi_amend⟩, Dam, b62, ⟨a63, i63, k63⟩, Dre, b63, ⟨a64, i64, k64⟩, Dfo, b64, ⟨a65, i65, k65⟩, Dle, b65, ⟨a66, i66, k66⟩, Dso, b66, ⟨a69, i69, k69⟩, Dun, b69, ⟨a70, i70, k70⟩, Drd, b70, GNw, b12, k12, g12, GSw, b14, k14, g14, ⟨a56, i56, k56⟩, Gbl, b56, GAnw, b18, k18, g18⟩
  have GOr : FnOk l.prog w K mg base (L2N.CX l.prog w) 13 f17 _ ["book", "words"] (spOrd C_Book C_Sheet (fun j => match j with | 0 => C_BadLength | 1 => C_BadStretch | 2 => C_NoPlace | 3 => C_NoNumber | 4 => C_BadLetter | 5 => C_Full | 6 => C_InUse | _ => C_NothingLeft)) := (ok_ord F17 TOR)
  have GOq : FnOk l.prog w K mg base (L2N.CX l.prog w) 13 f17 _ ["book", "words"] (spAnP C_Book C_Sheet) := (ok_ordP F17 TOR)
  have GTl : FnOk l.prog w K mg base CX0 14 f75 _ ["self", "text"] (spTel C_Desk C_Book C_Sheet) := (ok_tel (cz := (fun j => match j with | 0 => C_BadLength | 1 => C_BadStretch | 2 => C_NoPlace | 3 => C_NoNumber | 4 => C_BadLetter | 5 => C_Full | 6 => C_InUse | _ => C_NothingLeft)) F75 ⟨cl_Desk, n_Desk_held, GOr, b17, k17, g17, GWd, b11, k11, g11, gC_Unfit, gC_BadLength, gC_BadStretch, gC_NoPlace, gC_NoNumber, gC_BadLetter, gC_Full, gC_InUse, gC_NothingLeft, fun j hj => XU j (KJl j hj), fun j i hj hi => XJ j i (KJl j hj) hi⟩)
  have GTq : FnOk l.prog w K mg base CX0 14 f75 _ ["self", "text"] (spTelP C_Desk C_Book C_Sheet) := (ok_telP (cz := (fun j => match j with | 0 => C_BadLength | 1 => C_BadStretch | 2 => C_NoPlace | 3 => C_NoNumber | 4 => C_BadLetter | 5 => C_Full | 6 => C_InUse | _ => C_NothingLeft)) F75 ⟨cl_Desk, n_Desk_held, GOq, b17, k17, g17, GWd, b11, k11, g11, gC_Unfit, gC_BadLength, gC_BadStretch, gC_NoPlace, gC_NoNumber, gC_BadLetter, gC_Full, gC_InUse, gC_NothingLeft⟩)
  have GDki : FnOk l.prog w K mg base CX0 11 f73 _ ["self", "length"] (spDkI C_Desk C_Book C_Sheet) := (ok_dki F73 ⟨cl_Desk, n_Desk_held, nDS, ⟨mk_Book, a54, i54, kc_Book⟩, (fn_calm GBi), b54, gC_Book⟩)
  have GDkb : FnOk l.prog w K mg base CX0 7 f74 _ ["self"] (spDkB C_Desk) := (ok_dkb F74 cl_Desk n_Desk_held)
  have GSk : FnOk l.prog w K mg base CX0 7 f39 _ ["_law_deed_here"] spSpk := (ok_spk F39 ⟨z_isinstance, z_int, z_min, z_max⟩)
  have GWy_ : FnOk l.prog w K mg base CX0 7 f29 _ ["_law_turned"] spWay := (ok_way F29 z_int)
  have GTx : FnOk l.prog w K mg base CX0 8 f30 _ ["_law_deed_here"] spTxt := (ok_text F30 ⟨GWy_, b29, k29, g29, z_str⟩)
  have GRw : FnOk l.prog w K mg base CX0 8 f31 _ ["_law_word"] spRw := (ok_rw F31)
  have GDa : FnOk l.prog w K mg base CX0 9 f32 _ ["_law_deed_here", "_law_word", "_law_told", "_law_length"] spDa := (ok_da F32 ⟨GRw, b31, k31, g31, z_str⟩)
  have GLp : FnOk l.prog w K mg base CX0 8 f41 _ ["_law_state"] spLpt := (ok_lpt F41 ⟨z_str, z_int, z_sorted⟩)
  exact ok_law42 F42 ⟨GD, b21, k21, g21, GLb, b22, k22, g22, GDm, b27, k27, g27, GDe, b35, k35, g35, (ok_same F28 b28 g28 T 7), b28, k28, g28, GTx, b30, k30, g30, GDa, b32, k32, g32, GMt, b38, k38, g38, GSk, b39, k39, g39, GSt, b40, k40, g40, GLp, b41, k41, g41, ⟨mk_Desk, a73, i73, kc_Desk⟩, GDki, b73, gC_Desk, ⟨a74, i74, k74⟩, GDkb, b74, ⟨a75, i75, k75⟩, (fn_or2 GTl GTq), b75, z_range, z_max, z_str, cl_Desk, nDB, nDS, nSB⟩
end Rep
open PySem PySem.W PyProof.Rows
set_option maxRecDepth 100000 in
set_option maxHeartbeats 0 in
theorem PySem.Challenge.cw_reprise_k42_orders_are_deeds_holds : PySem.Challenge.rw_reprise_k42_orders_are_deeds.Holds := by
  w_on; o_law
  refine holds_open (q := Rep.mkK.view_1) (loose := Rep.looseK) (Xt := fun s => xlAt Rep.mkK.view_1 Rep.lvK s && recOk (RowW.records Rep.rowK.toRowW) s) (XP := XL Rep.mkK.view_1 Rep.lvK) (Yf := Hook.obs (kHook Rep.mkK.heap_1 Rep.asK Rep.asK_eq)) (Ya := Hook.val (kHook Rep.mkK.heap_1 Rep.asK Rep.asK_eq)) (YP := Hook.says (kHook Rep.mkK.heap_1 Rep.asK Rep.asK_eq)) (N := 20700) Rep.leftK (Hook.of (kHook Rep.mkK.heap_1 Rep.asK Rep.asK_eq)) (Hook.keeps (kHook Rep.mkK.heap_1 Rep.asK Rep.asK_eq)) (fun s e => xl_of s (Bool.and_eq_true_iff.mp e).1) XL.keeps (by rfl) (by rfl) (by rfl) (fun s e => recFacts_of (Bool.and_eq_true_iff.mp e).2) (by rfl) (by first | assumption | decide +kernel) (by decide +kernel) ⟨rfl, rfl, rfl, rfl, rfl, by decide +kernel⟩ ?hw ?hc
  (case hw => w_witness2)
  k_fill
  refine Rep.walk_top (l := PySem.Challenge.rw_reprise_k42_orders_are_deeds) (n := 63) (k := 15) (x := "_law_script") (CX := fun _ => L2.CX0) rfl (by decide) rfl ⟨rfl, by decide, by decide⟩ (fun w h Y => PySem.W.kIn_of Y) ?F (fun _ _ _ _ _ h => h)
  case F =>
    intro w mg mb mean fa h KX TT hmg
    refine' Rep.all_mk KX TT hmg ?aC_Sheet ?aC_Book ?aC_Desk ?aC_BadLength ?aC_BadStretch ?aC_NoPlace ?aC_NoNumber ?aC_BadLetter ?aC_Full ?aC_InUse ?aC_NothingLeft ?aC_BadPage ?aC_RepriseError ?aC_Unfit ?a1 ?l1 ?c1 ?k1 ?a2 ?l2 ?c2 ?k2 ?a3 ?l3 ?c3 ?k3 ?a4 ?l4 ?c4 ?k4 ?a5 ?l5 ?c5 ?k5 ?a6 ?l6 ?c6 ?k6 ?a7 ?l7 ?c7 ?k7 ?a8 ?l8 ?c8 ?k8 ?a9 ?l9 ?c9 ?k9 ?a10 ?l10 ?c10 ?k10 ?a11 ?l11 ?c11 ?k11 ?a12 ?l12 ?c12 ?k12 ?a13 ?l13 ?c13 ?k13 ?a14 ?l14 ?c14 ?k14 ?a15 ?l15 ?c15 ?k15 ?a16 ?l16 ?c16 ?k16 ?a17 ?l17 ?c17 ?k17 ?a18 ?l18 ?c18 ?k18 ?a19 ?l19 ?c19 ?k19 ?a20 ?l20 ?c20 ?k20 ?a21 ?l21 ?c21 ?k21 ?a22 ?l22 ?c22 ?k22 ?a23 ?l23 ?c23 ?k23 ?a24 ?l24 ?c24 ?k24 ?a25 ?l25 ?c25 ?k25 ?a26 ?l26 ?c26 ?k26 ?a27 ?l27 ?c27 ?k27 ?a28 ?l28 ?c28 ?k28 ?a29 ?l29 ?c29 ?k29 ?a30 ?l30 ?c30 ?k30 ?a31 ?l31 ?c31 ?k31 ?a32 ?l32 ?c32 ?k32 ?a33 ?l33 ?c33 ?k33 ?a34 ?l34 ?c34 ?k34 ?a35 ?l35 ?c35 ?k35 ?a36 ?l36 ?c36 ?k36 ?a37 ?l37 ?c37 ?k37 ?a38 ?l38 ?c38 ?k38 ?a39 ?l39 ?c39 ?k39 ?a40 ?l40 ?c40 ?k40 ?a41 ?l41 ?c41 ?k41 ?a42 ?l42 ?c42 ?k42 ?a43 ?i43 ?l43 ?c43 ?k43 ?a44 ?i44 ?l44 ?c44 ?k44 ?a45 ?i45 ?l45 ?c45 ?k45 ?a46 ?i46 ?l46 ?c46 ?k46 ?a47 ?i47 ?l47 ?c47 ?k47 ?a48 ?i48 ?l48 ?c48 ?k48 ?a49 ?i49 ?l49 ?c49 ?k49 ?a50 ?i50 ?l50 ?c50 ?k50 ?a51 ?i51 ?l51 ?c51 ?k51 ?a52 ?i52 ?l52 ?c52 ?k52 ?a53 ?i53 ?l53 ?c53 ?k53 ?a54 ?i54 ?l54 ?c54 ?k54 ?a55 ?i55 ?l55 ?c55 ?k55 ?a56 ?i56 ?l56 ?c56 ?k56 ?a57 ?i57 ?l57 ?c57 ?k57 ?a58 ?i58 ?l58 ?c58 ?k58 ?a59 ?i59 ?l59 ?c59 ?k59 ?a60 ?i60 ?l60 ?c60 ?k60 ?a61 ?i61 ?l61 ?c61 ?k61 ?a62 ?i62 ?l62 ?c62 ?k62 ?a63 ?i63 ?l63 ?c63 ?k63 ?a64 ?i64 ?l64 ?c64 ?k64 ?a65 ?i65 ?l65 ?c65 ?k65 ?a66 ?i66 ?l66 ?c66 ?k66 ?a67 ?i67 ?l67 ?c67 ?k67 ?a68 ?i68 ?l68 ?c68 ?k68 ?a69 ?i69 ?l69 ?c69 ?k69 ?a70 ?i70 ?l70 ?c70 ?k70 ?a71 ?i71 ?l71 ?c71 ?k71 ?a72 ?i72 ?l72 ?c72 ?k72 ?a73 ?i73 ?l73 ?c73 ?k73 ?a74 ?i74 ?l74 ?c74 ?k74 ?a75 ?i75 ?l75 ?c75 ?k75 ?pg_Sheet ?hd_Sheet ?po_Sheet ?sa_Sheet ?mk_Sheet ?kc_Sheet ?pg_Book ?hd_Book ?po_Book ?sa_Book ?mk_Book ?kc_Book ?pg_Desk ?hd_Desk ?po_Desk ?sa_Desk ?mk_Desk ?kc_Desk ?n_Sheet_size ?n_Sheet_upcoming ?n_Sheet_said ?n_Sheet_noted ?n_Book_sheets ?n_Book_here ?n_Book_song ?n_Book_notes ?n_Desk_held ?aI_TOO_LONG ?aI_MOST ?aI_MOST_FIGURES ?y_len ?y_range ?y_list ?y_isinstance ?y_bool ?y_int ?y_tuple ?y_str ?y_all ?y_zip ?y_min ?y_max ?y_enumerate ?y_ValueError ?y_sorted ?r_TOO_LONG ?r_MOST ?r_MOST_FIGURES ?re_b ?re_d ?re_t ?x_BadLength ?k_BadLength ?b_BadLength ?t_BadLength ?s_BadLength ?e1_BadLength ?e2_BadLength ?e4_BadLength ?e5_BadLength ?e8_BadLength ?q0_BadLength ?q1_BadLength ?q2_BadLength ?q3_BadLength ?q4_BadLength ?q5_BadLength ?q6_BadLength ?q7_BadLength ?q8_BadLength ?qV_BadLength ?x_BadStretch ?k_BadStretch ?b_BadStretch ?t_BadStretch ?s_BadStretch ?e1_BadStretch ?e2_BadStretch ?e4_BadStretch ?e5_BadStretch ?e8_BadStretch ?q0_BadStretch ?q1_BadStretch ?q2_BadStretch ?q3_BadStretch ?q4_BadStretch ?q5_BadStretch ?q6_BadStretch ?q7_BadStretch ?q8_BadStretch ?qV_BadStretch ?x_NoNumber ?k_NoNumber ?b_NoNumber ?t_NoNumber ?s_NoNumber ?e1_NoNumber ?e2_NoNumber ?e4_NoNumber ?e5_NoNumber ?e8_NoNumber ?q0_NoNumber ?q1_NoNumber ?q2_NoNumber ?q3_NoNumber ?q4_NoNumber ?q5_NoNumber ?q6_NoNumber ?q7_NoNumber ?q8_NoNumber ?qV_NoNumber ?x_BadLetter ?k_BadLetter ?b_BadLetter ?t_BadLetter ?s_BadLetter ?e1_BadLetter ?e2_BadLetter ?e4_BadLetter ?e5_BadLetter ?e8_BadLetter ?q0_BadLetter ?q1_BadLetter ?q2_BadLetter ?q3_BadLetter ?q4_BadLetter ?q5_BadLetter ?q6_BadLetter ?q7_BadLetter ?q8_BadLetter ?qV_BadLetter ?x_Full ?k_Full ?b_Full ?t_Full ?s_Full ?e1_Full ?e2_Full ?e4_Full ?e5_Full ?e8_Full ?q0_Full ?q1_Full ?q2_Full ?q3_Full ?q4_Full ?q5_Full ?q6_Full ?q7_Full ?q8_Full ?qV_Full ?x_InUse ?k_InUse ?b_InUse ?t_InUse ?s_InUse ?e1_InUse ?e2_InUse ?e4_InUse ?e5_InUse ?e8_InUse ?q0_InUse ?q1_InUse ?q2_InUse ?q3_InUse ?q4_InUse ?q5_InUse ?q6_InUse ?q7_InUse ?q8_InUse ?qV_InUse ?x_NothingLeft ?k_NothingLeft ?b_NothingLeft ?t_NothingLeft ?s_NothingLeft ?e1_NothingLeft ?e2_NothingLeft ?e4_NothingLeft ?e5_NothingLeft ?e8_NothingLeft ?q0_NothingLeft ?q1_NothingLeft ?q2_NothingLeft ?q3_NothingLeft ?q4_NothingLeft ?q5_NothingLeft ?q6_NothingLeft ?q7_NothingLeft ?q8_NothingLeft ?qV_NothingLeft ?e6_all ?e7_all ?ne_BS ?b_NoPlace ?e4_NoPlace ?t_NoPlace ?b_Unfit ?e4_Unfit ?t_Unfit ?w_BadLength_BadLength ?w_BadLength_BadStretch ?w_BadLength_NoPlace ?w_BadLength_NoNumber ?w_BadLength_BadLetter ?w_BadLength_Full ?w_BadLength_InUse ?w_BadLength_NothingLeft ?w_BadLength_Unfit ?w_BadStretch_BadLength ?w_BadStretch_BadStretch ?w_BadStretch_NoPlace ?w_BadStretch_NoNumber ?w_BadStretch_BadLetter ?w_BadStretch_Full ?w_BadStretch_InUse ?w_BadStretch_NothingLeft ?w_BadStretch_Unfit ?w_NoPlace_BadLength ?w_NoPlace_BadStretch ?w_NoPlace_NoPlace ?w_NoPlace_NoNumber ?w_NoPlace_BadLetter ?w_NoPlace_Full ?w_NoPlace_InUse ?w_NoPlace_NothingLeft ?w_NoPlace_Unfit ?w_NoNumber_BadLength ?w_NoNumber_BadStretch ?w_NoNumber_NoPlace ?w_NoNumber_NoNumber ?w_NoNumber_BadLetter ?w_NoNumber_Full ?w_NoNumber_InUse ?w_NoNumber_NothingLeft ?w_NoNumber_Unfit ?w_BadLetter_BadLength ?w_BadLetter_BadStretch ?w_BadLetter_NoPlace ?w_BadLetter_NoNumber ?w_BadLetter_BadLetter ?w_BadLetter_Full ?w_BadLetter_InUse ?w_BadLetter_NothingLeft ?w_BadLetter_Unfit ?w_Full_BadLength ?w_Full_BadStretch ?w_Full_NoPlace ?w_Full_NoNumber ?w_Full_BadLetter ?w_Full_Full ?w_Full_InUse ?w_Full_NothingLeft ?w_Full_Unfit ?w_InUse_BadLength ?w_InUse_BadStretch ?w_InUse_NoPlace ?w_InUse_NoNumber ?w_InUse_BadLetter ?w_InUse_Full ?w_InUse_InUse ?w_InUse_NothingLeft ?w_InUse_Unfit ?w_NothingLeft_BadLength ?w_NothingLeft_BadStretch ?w_NothingLeft_NoPlace ?w_NothingLeft_NoNumber ?w_NothingLeft_BadLetter ?w_NothingLeft_Full ?w_NothingLeft_InUse ?w_NothingLeft_NothingLeft ?w_NothingLeft_Unfit ?nDS ?nDB ?nSB ?gf_say ?tk_say ?fi_say ?gf_amend ?tk_amend ?fi_amend
    (case aC_Sheet => k_is)
    (case aC_Book => k_is)
    (case aC_Desk => k_is)
    (case aC_BadLength => k_is)
    (case aC_BadStretch => k_is)
    (case aC_NoPlace => k_is)
    (case aC_NoNumber => k_is)
    (case aC_BadLetter => k_is)
    (case aC_Full => k_is)
    (case aC_InUse => k_is)
    (case aC_NothingLeft => k_is)
    (case aC_BadPage => k_is)
    (case aC_RepriseError => k_is)
    (case aC_Unfit => k_is)
    (case a1 => k_is)
    (case l1 => k_is)
    (case c1 => k_is)
    (case k1 => k_is)
    (case a2 => k_is)
    (case l2 => k_is)
    (case c2 => k_is)
    (case k2 => k_is)
    (case a3 => k_is)
    (case l3 => k_is)
    (case c3 => k_is)
    (case k3 => k_is)
    (case a4 => k_is)
    (case l4 => k_is)
    (case c4 => k_is)
    (case k4 => k_is)
    (case a5 => k_is)
    (case l5 => k_is)
    (case c5 => k_is)
    (case k5 => k_is)
    (case a6 => k_is)
    (case l6 => k_is)
    (case c6 => k_is)
    (case k6 => k_is)
    (case a7 => k_is)
    (case l7 => k_is)
    (case c7 => k_is)
    (case k7 => k_is)
    (case a8 => k_is)
    (case l8 => k_is)
    (case c8 => k_is)
    (case k8 => k_is)
    (case a9 => k_is)
    (case l9 => k_is)
    (case c9 => k_is)
    (case k9 => k_is)
    (case a10 => k_is)
    (case l10 => k_is)
    (case c10 => k_is)
    (case k10 => k_is)
    (case a11 => k_is)
    (case l11 => k_is)
    (case c11 => k_is)
    (case k11 => k_is)
    (case a12 => k_is)
    (case l12 => k_is)
    (case c12 => k_is)
    (case k12 => k_is)
    (case a13 => k_is)
    (case l13 => k_is)
    (case c13 => k_is)
    (case k13 => k_is)
    (case a14 => k_is)
    (case l14 => k_is)
    (case c14 => k_is)
    (case k14 => k_is)
    (case a15 => k_is)
    (case l15 => k_is)
    (case c15 => k_is)
    (case k15 => k_is)
    (case a16 => k_is)
    (case l16 => k_is)
    (case c16 => k_is)
    (case k16 => k_is)
    (case a17 => k_is)
    (case l17 => k_is)
    (case c17 => k_is)
    (case k17 => k_is)
    (case a18 => k_is)
    (case l18 => k_is)
    (case c18 => k_is)
    (case k18 => k_is)
    (case a19 => k_is)
    (case l19 => k_is)
    (case c19 => k_is)
    (case k19 => k_is)
    (case a20 => k_is)
    (case l20 => k_is)
    (case c20 => k_is)
    (case k20 => k_is)
    (case a21 => k_is)
    (case l21 => k_is)
    (case c21 => k_is)
    (case k21 => k_is)
    (case a22 => k_is)
    (case l22 => k_is)
    (case c22 => k_is)
    (case k22 => k_is)
    (case a23 => k_is)
    (case l23 => k_is)
    (case c23 => k_is)
    (case k23 => k_is)
    (case a24 => k_is)
    (case l24 => k_is)
    (case c24 => k_is)
    (case k24 => k_is)
    (case a25 => k_is)
    (case l25 => k_is)
    (case c25 => k_is)
    (case k25 => k_is)
    (case a26 => k_is)
    (case l26 => k_is)
    (case c26 => k_is)
    (case k26 => k_is)
    (case a27 => k_is)
    (case l27 => k_is)
    (case c27 => k_is)
    (case k27 => k_is)
    (case a28 => k_is)
    (case l28 => k_is)
    (case c28 => k_is)
    (case k28 => k_is)
    (case a29 => k_is)
    (case l29 => k_is)
    (case c29 => k_is)
    (case k29 => k_is)
    (case a30 => k_is)
    (case l30 => k_is)
    (case c30 => k_is)
    (case k30 => k_is)
    (case a31 => k_is)
    (case l31 => k_is)
    (case c31 => k_is)
    (case k31 => k_is)
    (case a32 => k_is)
    (case l32 => k_is)
    (case c32 => k_is)
    (case k32 => k_is)
    (case a33 => k_is)
    (case l33 => k_is)
    (case c33 => k_is)
    (case k33 => k_is)
    (case a34 => k_is)
    (case l34 => k_is)
    (case c34 => k_is)
    (case k34 => k_is)
    (case a35 => k_is)
    (case l35 => k_is)
    (case c35 => k_is)
    (case k35 => k_is)
    (case a36 => k_is)
    (case l36 => k_is)
    (case c36 => k_is)
    (case k36 => k_is)
    (case a37 => k_is)
    (case l37 => k_is)
    (case c37 => k_is)
    (case k37 => k_is)
    (case a38 => k_is)
    (case l38 => k_is)
    (case c38 => k_is)
    (case k38 => k_is)
    (case a39 => k_is)
    (case l39 => k_is)
    (case c39 => k_is)
    (case k39 => k_is)
    (case a40 => k_is)
    (case l40 => k_is)
    (case c40 => k_is)
    (case k40 => k_is)
    (case a41 => k_is)
    (case l41 => k_is)
    (case c41 => k_is)
    (case k41 => k_is)
    (case a42 => k_is)
    (case l42 => k_is)
    (case c42 => k_is)
    (case k42 => k_is)
    (case a43 => k_is)
    (case i43 => k_is)
    (case l43 => k_is)
    (case c43 => k_is)
    (case k43 => k_is)
    (case a44 => k_is)
    (case i44 => k_is)
    (case l44 => k_is)
    (case c44 => k_is)
    (case k44 => k_is)
    (case a45 => k_is)
    (case i45 => k_is)
    (case l45 => k_is)
    (case c45 => k_is)
    (case k45 => k_is)
    (case a46 => k_is)
    (case i46 => k_is)
    (case l46 => k_is)
    (case c46 => k_is)
    (case k46 => k_is)
    (case a47 => k_is)
    (case i47 => k_is)
    (case l47 => k_is)
    (case c47 => k_is)
    (case k47 => k_is)
    (case a48 => k_is)
    (case i48 => k_is)
    (case l48 => k_is)
    (case c48 => k_is)
    (case k48 => k_is)
    (case a49 => k_is)
    (case i49 => k_is)
    (case l49 => k_is)
    (case c49 => k_is)
    (case k49 => k_is)
    (case a50 => k_is)
    (case i50 => k_is)
    (case l50 => k_is)
    (case c50 => k_is)
    (case k50 => k_is)
    (case a51 => k_is)
    (case i51 => k_is)
    (case l51 => k_is)
    (case c51 => k_is)
    (case k51 => k_is)
    (case a52 => k_is)
    (case i52 => k_is)
    (case l52 => k_is)
    (case c52 => k_is)
    (case k52 => k_is)
    (case a53 => k_is)
    (case i53 => k_is)
    (case l53 => k_is)
    (case c53 => k_is)
    (case k53 => k_is)
    (case a54 => k_is)
    (case i54 => k_is)
    (case l54 => k_is)
    (case c54 => k_is)
    (case k54 => k_is)
    (case a55 => k_is)
    (case i55 => k_is)
    (case l55 => k_is)
    (case c55 => k_is)
    (case k55 => k_is)
    (case a56 => k_is)
    (case i56 => k_is)
    (case l56 => k_is)
    (case c56 => k_is)
    (case k56 => k_is)
    (case a57 => k_is)
    (case i57 => k_is)
    (case l57 => k_is)
    (case c57 => k_is)
    (case k57 => k_is)
    (case a58 => k_is)
    (case i58 => k_is)
    (case l58 => k_is)
    (case c58 => k_is)
    (case k58 => k_is)
    (case a59 => k_is)
    (case i59 => k_is)
    (case l59 => k_is)
    (case c59 => k_is)
    (case k59 => k_is)
    (case a60 => k_is)
    (case i60 => k_is)
    (case l60 => k_is)
    (case c60 => k_is)
    (case k60 => k_is)
    (case a61 => k_is)
    (case i61 => k_is)
    (case l61 => k_is)
    (case c61 => k_is)
    (case k61 => k_is)
    (case a62 => k_is)
    (case i62 => k_is)
    (case l62 => k_is)
    (case c62 => k_is)
    (case k62 => k_is)
    (case a63 => k_is)
    (case i63 => k_is)
    (case l63 => k_is)
    (case c63 => k_is)
    (case k63 => k_is)
    (case a64 => k_is)
    (case i64 => k_is)
    (case l64 => k_is)
    (case c64 => k_is)
    (case k64 => k_is)
    (case a65 => k_is)
    (case i65 => k_is)
    (case l65 => k_is)
    (case c65 => k_is)
    (case k65 => k_is)
    (case a66 => k_is)
    (case i66 => k_is)
    (case l66 => k_is)
    (case c66 => k_is)
    (case k66 => k_is)
    (case a67 => k_is)
    (case i67 => k_is)
    (case l67 => k_is)
    (case c67 => k_is)
    (case k67 => k_is)
    (case a68 => k_is)
    (case i68 => k_is)
    (case l68 => k_is)
    (case c68 => k_is)
    (case k68 => k_is)
    (case a69 => k_is)
    (case i69 => k_is)
    (case l69 => k_is)
    (case c69 => k_is)
    (case k69 => k_is)
    (case a70 => k_is)
    (case i70 => k_is)
    (case l70 => k_is)
    (case c70 => k_is)
    (case k70 => k_is)
    (case a71 => k_is)
    (case i71 => k_is)
    (case l71 => k_is)
    (case c71 => k_is)
    (case k71 => k_is)
    (case a72 => k_is)
    (case i72 => k_is)
    (case l72 => k_is)
    (case c72 => k_is)
    (case k72 => k_is)
    (case a73 => k_is)
    (case i73 => k_is)
    (case l73 => k_is)
    (case c73 => k_is)
    (case k73 => k_is)
    (case a74 => k_is)
    (case i74 => k_is)
    (case l74 => k_is)
    (case c74 => k_is)
    (case k74 => k_is)
    (case a75 => k_is)
    (case i75 => k_is)
    (case l75 => k_is)
    (case c75 => k_is)
    (case k75 => k_is)
    (case pg_Sheet => k_is)
    (case hd_Sheet => k_is)
    (case po_Sheet => k_is)
    (case sa_Sheet => k_is)
    (case mk_Sheet => k_is)
    (case kc_Sheet => k_is)
    (case pg_Book => k_is)
    (case hd_Book => k_is)
    (case po_Book => k_is)
    (case sa_Book => k_is)
    (case mk_Book => k_is)
    (case kc_Book => k_is)
    (case pg_Desk => k_is)
    (case hd_Desk => k_is)
    (case po_Desk => k_is)
    (case sa_Desk => k_is)
    (case mk_Desk => k_is)
    (case kc_Desk => k_is)
    (case n_Sheet_size => k_is)
    (case n_Sheet_upcoming => k_is)
    (case n_Sheet_said => k_is)
    (case n_Sheet_noted => k_is)
    (case n_Book_sheets => k_is)
    (case n_Book_here => k_is)
    (case n_Book_song => k_is)
    (case n_Book_notes => k_is)
    (case n_Desk_held => k_is)
    (case aI_TOO_LONG => k_is)
    (case aI_MOST => k_is)
    (case aI_MOST_FIGURES => k_is)
    (case y_len => k_is)
    (case y_range => k_is)
    (case y_list => k_is)
    (case y_isinstance => k_is)
    (case y_bool => k_is)
    (case y_int => k_is)
    (case y_tuple => k_is)
    (case y_str => k_is)
    (case y_all => k_is)
    (case y_zip => k_is)
    (case y_min => k_is)
    (case y_max => k_is)
    (case y_enumerate => k_is)
    (case y_ValueError => k_is)
    (case y_sorted => k_is)
    (case r_TOO_LONG => exact ⟨_, rfl⟩)
    (case r_MOST => exact ⟨_, rfl⟩)
    (case r_MOST_FIGURES => exact ⟨_, rfl⟩)
    (case re_b => k_is)
    (case re_d => k_is)
    (case re_t => k_is)
    (case x_BadLength => k_exc)
    (case k_BadLength => k_is)
    (case b_BadLength => k_is)
    (case t_BadLength => k_is)
    (case s_BadLength => k_is)
    (case e1_BadLength => k_is)
    (case e2_BadLength => k_is)
    (case e4_BadLength => k_is)
    (case e5_BadLength => k_is)
    (case e8_BadLength => k_is)
    (case q0_BadLength => kernel_rfl)
    (case q1_BadLength => kernel_rfl)
    (case q2_BadLength => kernel_rfl)
    (case q3_BadLength => kernel_rfl)
    (case q4_BadLength => kernel_rfl)
    (case q5_BadLength => kernel_rfl)
    (case q6_BadLength => kernel_rfl)
    (case q7_BadLength => kernel_rfl)
    (case q8_BadLength => kernel_rfl)
    (case qV_BadLength => kernel_rfl)
    (case x_BadStretch => k_exc)
    (case k_BadStretch => k_is)
    (case b_BadStretch => k_is)
    (case t_BadStretch => k_is)
    (case s_BadStretch => k_is)
    (case e1_BadStretch => k_is)
    (case e2_BadStretch => k_is)
    (case e4_BadStretch => k_is)
    (case e5_BadStretch => k_is)
    (case e8_BadStretch => k_is)
    (case q0_BadStretch => kernel_rfl)
    (case q1_BadStretch => kernel_rfl)
    (case q2_BadStretch => kernel_rfl)
    (case q3_BadStretch => kernel_rfl)
    (case q4_BadStretch => kernel_rfl)
    (case q5_BadStretch => kernel_rfl)
    (case q6_BadStretch => kernel_rfl)
    (case q7_BadStretch => kernel_rfl)
    (case q8_BadStretch => kernel_rfl)
    (case qV_BadStretch => kernel_rfl)
    (case x_NoNumber => k_exc)
    (case k_NoNumber => k_is)
    (case b_NoNumber => k_is)
    (case t_NoNumber => k_is)
    (case s_NoNumber => k_is)
    (case e1_NoNumber => k_is)
    (case e2_NoNumber => k_is)
    (case e4_NoNumber => k_is)
    (case e5_NoNumber => k_is)
    (case e8_NoNumber => k_is)
    (case q0_NoNumber => kernel_rfl)
    (case q1_NoNumber => kernel_rfl)
    (case q2_NoNumber => kernel_rfl)
    (case q3_NoNumber => kernel_rfl)
    (case q4_NoNumber => kernel_rfl)
    (case q5_NoNumber => kernel_rfl)
    (case q6_NoNumber => kernel_rfl)
    (case q7_NoNumber => kernel_rfl)
    (case q8_NoNumber => kernel_rfl)
    (case qV_NoNumber => kernel_rfl)
    (case x_BadLetter => k_exc)
    (case k_BadLetter => k_is)
    (case b_BadLetter => k_is)
    (case t_BadLetter => k_is)
    (case s_BadLetter => k_is)
    (case e1_BadLetter => k_is)
    (case e2_BadLetter => k_is)
    (case e4_BadLetter => k_is)
    (case e5_BadLetter => k_is)
    (case e8_BadLetter => k_is)
    (case q0_BadLetter => kernel_rfl)
    (case q1_BadLetter => kernel_rfl)
    (case q2_BadLetter => kernel_rfl)
    (case q3_BadLetter => kernel_rfl)
    (case q4_BadLetter => kernel_rfl)
    (case q5_BadLetter => kernel_rfl)
    (case q6_BadLetter => kernel_rfl)
    (case q7_BadLetter => kernel_rfl)
    (case q8_BadLetter => kernel_rfl)
    (case qV_BadLetter => kernel_rfl)
    (case x_Full => k_exc)
    (case k_Full => k_is)
    (case b_Full => k_is)
    (case t_Full => k_is)
    (case s_Full => k_is)
    (case e1_Full => k_is)
    (case e2_Full => k_is)
    (case e4_Full => k_is)
    (case e5_Full => k_is)
    (case e8_Full => k_is)
    (case q0_Full => kernel_rfl)
    (case q1_Full => kernel_rfl)
    (case q2_Full => kernel_rfl)
    (case q3_Full => kernel_rfl)
    (case q4_Full => kernel_rfl)
    (case q5_Full => kernel_rfl)
    (case q6_Full => kernel_rfl)
    (case q7_Full => kernel_rfl)
    (case q8_Full => kernel_rfl)
    (case qV_Full => kernel_rfl)
    (case x_InUse => k_exc)
    (case k_InUse => k_is)
    (case b_InUse => k_is)
    (case t_InUse => k_is)
    (case s_InUse => k_is)
    (case e1_InUse => k_is)
    (case e2_InUse => k_is)
    (case e4_InUse => k_is)
    (case e5_InUse => k_is)
    (case e8_InUse => k_is)
    (case q0_InUse => kernel_rfl)
    (case q1_InUse => kernel_rfl)
    (case q2_InUse => kernel_rfl)
    (case q3_InUse => kernel_rfl)
    (case q4_InUse => kernel_rfl)
    (case q5_InUse => kernel_rfl)
    (case q6_InUse => kernel_rfl)
    (case q7_InUse => kernel_rfl)
    (case q8_InUse => kernel_rfl)
    (case qV_InUse => kernel_rfl)
    (case x_NothingLeft => k_exc)
    (case k_NothingLeft => k_is)
    (case b_NothingLeft => k_is)
    (case t_NothingLeft => k_is)
    (case s_NothingLeft => k_is)
    (case e1_NothingLeft => k_is)
    (case e2_NothingLeft => k_is)
    (case e4_NothingLeft => k_is)
    (case e5_NothingLeft => k_is)
    (case e8_NothingLeft => k_is)
    (case q0_NothingLeft => kernel_rfl)
    (case q1_NothingLeft => kernel_rfl)
    (case q2_NothingLeft => kernel_rfl)
    (case q3_NothingLeft => kernel_rfl)
    (case q4_NothingLeft => kernel_rfl)
    (case q5_NothingLeft => kernel_rfl)
    (case q6_NothingLeft => kernel_rfl)
    (case q7_NothingLeft => kernel_rfl)
    (case q8_NothingLeft => kernel_rfl)
    (case qV_NothingLeft => kernel_rfl)
    (case e6_all => k_is)
    (case e7_all => k_is)
    (case ne_BS => decide)
    (case b_NoPlace => k_is)
    (case e4_NoPlace => k_is)
    (case t_NoPlace => k_is)
    (case b_Unfit => k_is)
    (case e4_Unfit => k_is)
    (case t_Unfit => k_is)
    (case w_BadLength_BadLength => k_is)
    (case w_BadLength_BadStretch => k_is)
    (case w_BadLength_NoPlace => k_is)
    (case w_BadLength_NoNumber => k_is)
    (case w_BadLength_BadLetter => k_is)
    (case w_BadLength_Full => k_is)
    (case w_BadLength_InUse => k_is)
    (case w_BadLength_NothingLeft => k_is)
    (case w_BadLength_Unfit => k_is)
    (case w_BadStretch_BadLength => k_is)
    (case w_BadStretch_BadStretch => k_is)
    (case w_BadStretch_NoPlace => k_is)
    (case w_BadStretch_NoNumber => k_is)
    (case w_BadStretch_BadLetter => k_is)
    (case w_BadStretch_Full => k_is)
    (case w_BadStretch_InUse => k_is)
    (case w_BadStretch_NothingLeft => k_is)
    (case w_BadStretch_Unfit => k_is)
    (case w_NoPlace_BadLength => k_is)
    (case w_NoPlace_BadStretch => k_is)
    (case w_NoPlace_NoPlace => k_is)
    (case w_NoPlace_NoNumber => k_is)
    (case w_NoPlace_BadLetter => k_is)
    (case w_NoPlace_Full => k_is)
    (case w_NoPlace_InUse => k_is)
    (case w_NoPlace_NothingLeft => k_is)
    (case w_NoPlace_Unfit => k_is)
    (case w_NoNumber_BadLength => k_is)
    (case w_NoNumber_BadStretch => k_is)
    (case w_NoNumber_NoPlace => k_is)
    (case w_NoNumber_NoNumber => k_is)
    (case w_NoNumber_BadLetter => k_is)
    (case w_NoNumber_Full => k_is)
    (case w_NoNumber_InUse => k_is)
    (case w_NoNumber_NothingLeft => k_is)
    (case w_NoNumber_Unfit => k_is)
    (case w_BadLetter_BadLength => k_is)
    (case w_BadLetter_BadStretch => k_is)
    (case w_BadLetter_NoPlace => k_is)
    (case w_BadLetter_NoNumber => k_is)
    (case w_BadLetter_BadLetter => k_is)
    (case w_BadLetter_Full => k_is)
    (case w_BadLetter_InUse => k_is)
    (case w_BadLetter_NothingLeft => k_is)
    (case w_BadLetter_Unfit => k_is)
    (case w_Full_BadLength => k_is)
    (case w_Full_BadStretch => k_is)
    (case w_Full_NoPlace => k_is)
    (case w_Full_NoNumber => k_is)
    (case w_Full_BadLetter => k_is)
    (case w_Full_Full => k_is)
    (case w_Full_InUse => k_is)
    (case w_Full_NothingLeft => k_is)
    (case w_Full_Unfit => k_is)
    (case w_InUse_BadLength => k_is)
    (case w_InUse_BadStretch => k_is)
    (case w_InUse_NoPlace => k_is)
    (case w_InUse_NoNumber => k_is)
    (case w_InUse_BadLetter => k_is)
    (case w_InUse_Full => k_is)
    (case w_InUse_InUse => k_is)
    (case w_InUse_NothingLeft => k_is)
    (case w_InUse_Unfit => k_is)
    (case w_NothingLeft_BadLength => k_is)
    (case w_NothingLeft_BadStretch => k_is)
    (case w_NothingLeft_NoPlace => k_is)
    (case w_NothingLeft_NoNumber => k_is)
    (case w_NothingLeft_BadLetter => k_is)
    (case w_NothingLeft_Full => k_is)
    (case w_NothingLeft_InUse => k_is)
    (case w_NothingLeft_NothingLeft => k_is)
    (case w_NothingLeft_Unfit => k_is)
    (case nDS => decide)
    (case nDB => decide)
    (case nSB => decide)
    (case gf_say => k_is)
    (case tk_say => k_is)
    (case fi_say => k_is)
    (case gf_amend => k_is)
    (case tk_amend => k_is)
    (case fi_amend => k_is)
