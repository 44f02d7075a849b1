/- Texts that the proof of X rests on, one behind the other. -/
import Derived.Test.YtgjidkhfnnghiaaXQ2
import Derived.Test.YtgjidkhfnnghiaaXQ6
import Derived.Shelf.SlSortCmp.Kit1
import Derived.Lib.SortBridge
import Derived.Shelf.SlSortCmp.NoneTotal
import Derived.Shelf.Small.Bits
import Derived.Shelf.Small.Wraps
import Derived.Shelf.Strconv.Itoa0
import Derived.Shelf.Slices.Turned
import Derived.Ground.SlsfProg
import Derived.Shelf.SlSortCmp.Insertion
import Derived.Ground.SlgmProg
import Derived.Shelf.SortM.Plain
import Derived.Shelf.SortM.SortNone
import Derived.Shelf.SlSortCmp.SiftDown1
import Derived.Shelf.SlSortCmp.HeapSort1
import Derived.Shelf.SlSortCmp.Insertion1
import Derived.Shelf.SlSortCmp.Median1
import Derived.Shelf.SlSortCmp.Pivot1
import Derived.Shelf.SlSortCmp.ReverseRange1
import Derived.Shelf.SlSortCmp.PartialInsertion1
import Derived.Shelf.SlSortCmp.PartitionEqual1
import Derived.Shelf.SlSortCmp.Partition1
import Derived.Shelf.SlSortCmp.Pdq1
import Derived.Shelf.SlSortCmp.Whole1
import Derived.Test.YtgjidkhfnnghiaaProg

/- Package rank: the order of Line's sort, and the worlds that it passes through. -/
namespace Go.Proofs.Ytgjidkhfnnghiaa
open Go.RowKit Go.Shelf Go.Lib Go.Sort

/-- The comparison of two positions. -/
def cfL (l : List Jb) (x y : Fin l.length) : Int := cmpL l[x] l[y] ((x.val : Int) + 1) ((y.val : Int) + 1)
theorem ltOf_cfL (l : List Jb) (x y : Fin l.length) : ltOf (cfL l) x y = aheadL l x.val y.val := by
  rw [aheadL_at (x := l[x]) (y := l[y]) (List.getElem?_eq_getElem x.2) (List.getElem?_eq_getElem y.2)]
  unfold ltOf cfL cmpL
  generalize (l[x]).prio = p
  generalize (l[y]).prio = r
  unfold cmpI
  rw [decide_eq_decide]
  by_cases h1 : r < p
  · simp [h1]
  · by_cases h2 : p < r
    · have : p ≠ r := by omega
      simp [h1, h2, this]
    · have : p = r := by omega
      subst this
      by_cases h3 : (x.val : Int) + 1 < (y.val : Int) + 1
      · have : x.val < y.val := by omega
        simp [h3, this]
      · have : ¬ x.val < y.val := by omega
        by_cases h4 : (y.val : Int) + 1 < (x.val : Int) + 1
        · simp [h3, h4, this]
        · simp [h3, h4, this]
theorem swoL (l : List Jb) : SWO (ltOf (cfL l)) where
  irrefl x := by rw [ltOf_cfL]; exact aheadL_irrefl l _
  trans x y z h1 h2 := by rw [ltOf_cfL] at *; exact aheadL_trans h1 h2
  ntrans x y z h1 h2 := by
    rw [ltOf_cfL] at *
    cases h : aheadL l x.val z.val with
    | false => rfl
    | true =>
      by_cases hxy : x.val = y.val
      · rw [← hxy, h] at h2; cases h2
      · by_cases hyz : y.val = z.val
        · rw [hyz, h] at h1; cases h1
        · rcases aheadL_total x.2 y.2 hxy with h3 | h3
          · rw [h3] at h1; cases h1
          · rcases aheadL_total y.2 z.2 hyz with h4 | h4
            · rw [h4] at h2; cases h2
            · have := aheadL_trans (aheadL_trans h h4) h3
              rw [aheadL_irrefl] at this
              cases this
theorem totL (l : List Jb) (x y : Fin l.length) (h1 : ltOf (cfL l) x y = false) (h2 : ltOf (cfL l) y x = false) : x = y := by
  rw [ltOf_cfL] at *
  by_cases h : x.val = y.val
  · exact Fin.ext h
  · rcases aheadL_total x.2 y.2 h with h3 | h3
    · rw [h3] at h1; cases h1
    · rw [h3] at h2; cases h2

section
variable {α : Type} [Inhabited α]
/-- The sort turns one block. -/
theorem sortWorld_chg (enc : α → Value) (w : World) (blk off m : Nat) (dk : Array α) (os : Array Obj) : Chg (fun k => k = blk) w (sortWorld enc w blk off m dk os) := by
  refine ⟨rfl, rfl, rfl, ?_, fun j hj hn => ?_⟩
  · unfold sortWorld grow putRow mapBlock Sort.ahead
    simp
  · unfold sortWorld grow putRow mapBlock Sort.ahead
    have hn : ¬ blk = j := fun e => hn e.symm
    simp only
    rw [Array.getElem?_append_left (by simpa using hj), Array.getElem?_modify, if_neg hn]
end

end Go.Proofs.Ytgjidkhfnnghiaa

/- Package rank: Line's sort, by the library's contract. -/
namespace Go.Proofs.Ytgjidkhfnnghiaa
open Go.RowKit Go.Shelf Go.Lib Go.Sort

theorem fins {N : Nat} (L : List Nat) (h : ∀ i ∈ L, i < N) : ∃ D : List (Fin N), D.map (fun x => x.val) = L := by
  induction L with
  | nil => exact ⟨[], rfl⟩
  | cons i L ih =>
    obtain ⟨D, hD⟩ := ih fun k hk => h k (List.mem_cons_of_mem _ hk)
    exact ⟨⟨i, h i (List.mem_cons_self ..)⟩ :: D, by rw [List.map_cons, hD]⟩

theorem rd_over {K : Nat} {F : Fp} {w0 W W' : World} {v : Value} {n : Nat} {xs : List Value} (h : RdS K w0 v n xs) (hx : Ext w0 W) (hc : Chg F W W') (hF : ∀ k, F k → w0.heap.size ≤ k) : RdS K W' v n xs := h.ext (hc.ext hx hF)

set_option maxRecDepth 100000 in
set_option maxHeartbeats 2000000 in
theorem sortLine_of {ρ : Ren} (lays : SlLaysF.n6 Try.prog ρ) (hf : ρ.f 6 = 41) : SortLine := by
  intro vn vj s g v L w0 W hb hr hx ho hnd hlt hN hLn
  rcases Nat.eq_zero_or_pos L.length with h0 | h0
  · obtain rfl : L = [] := List.length_eq_zero_iff.1 h0
    obtain ⟨A, c, rfl⟩ := own_slice (n := 0) ho
    have hrd := Rd.own ho
    have h := AnyF.slices_SortFunc_none (P := Try.prog) (ρ := ρ) { lays with } A c (.func (.func 42) #[] #[.pointer (some ⟨g, 0, none⟩)]) W
    rw [hf] at h
    refine h.mono ?_
    rintro e w' ⟨rfl, rfl⟩
    exact ⟨rfl, [], List.Perm.refl _, List.Pairwise.nil, hrd, hx⟩
  · obtain ⟨D, hD⟩ := fins (N := s.jobs.length) L hlt
    have hpos : 0 < s.jobs.length := by
      cases L with
      | nil => simp at h0
      | cons i t => have := hlt i (List.mem_cons_self ..); omega
    letI : Inhabited (Fin s.jobs.length) := ⟨⟨0, hpos⟩⟩
    have hlen : D.length = L.length := by rw [← hD, List.length_map]
    rcases ho.2 with ⟨-, hz⟩ | ⟨gr, cap, cur, rfl, hg, hh, hn, hcap, -⟩
    · rw [List.length_map] at hz; omega
    · have hcell := fun j hj => (Grew.start ho).cellAt j hj
      have hfroz := fun j => (Grew.start ho).frozenAt j
      have hH : Holds (fun x : Fin s.jobs.length => J x.val) W gr 0 D.toArray := fun j hj => by
        have hj' : j < D.length := by simpa using hj
        refine ⟨?_, by rw [Nat.zero_add]; exact hfroz j⟩
        rw [Nat.zero_add, hcell j (by rw [List.length_map]; omega), ← hD, List.getElem?_map, List.getElem?_map, List.getElem?_eq_getElem hj', getElem!_pos D.toArray j hj]
        rfl
      have hgr : gr < W.heap.size := (Array.getElem?_eq_some_iff.1 hh).1
      have hF : ∀ k, (fun k => k = gr) k → w0.heap.size ≤ k := fun k hk => by have hk : k = gr := hk; omega
      have hcmp : CmpLays1 Try.prog 42 #[.pointer (some ⟨g, 0, none⟩)] (fun x : Fin s.jobs.length => J x.val) (cfL s.jobs) gr 0 D.toArray.size W := fun m os dk _ x y => by
        have hc := sortWorld_chg (fun x : Fin s.jobs.length => J x.val) W gr 0 m dk os
        have hx' := hc.ext hx hF
        exact lineCmp_any vn vj s g x.val y.val s.jobs[x] s.jobs[y] _ _ _ (hb.ext hx') (hr.ext hx') (List.getElem?_eq_getElem x.2) (List.getElem?_eq_getElem y.2) rfl rfl hN
      have hDl : D.toArray.size < 4611686018427387904 := by rw [List.size_toArray, hlen]; omega
      have h := Any.slices_SortFunc_total lays (fun x : Fin s.jobs.length => J x.val) (fun _ => rfl) (cfL s.jobs) (swoL s.jobs) 42 #[.pointer (some ⟨g, 0, none⟩)] gr 0 cap D.toArray W (enters_of Try.func42 (by kernel_rfl) rfl) hcmp hH hgr hDl (totL s.jobs)
      rw [hf] at h
      have hsz : D.toArray.size = (L.map J).length := by simp [hlen]
      rw [hsz] at h
      refine h.mono ?_
      rintro e w' ⟨rfl, n, os, rfl⟩
      have hc := sortWorld_chg (fun x : Fin s.jobs.length => J x.val) W gr 0 n (D.toArray.toList.mergeSort fun x y => !(ltOf (cfL s.jobs)) y x).toArray os
      have hperm : (D.mergeSort fun x y => !(ltOf (cfL s.jobs)) y x).Perm D := List.mergeSort_perm _ _
      refine ⟨rfl, (D.mergeSort fun x y => !(ltOf (cfL s.jobs)) y x).map (fun x => x.val), by have := hperm.map (fun x => x.val); rw [hD] at this; exact this, ?_, ?_, hc.ext hx hF⟩
      · rw [List.pairwise_map]
        have h1 : (D.mergeSort fun x y => !(ltOf (cfL s.jobs)) y x).Pairwise fun x y => (!(ltOf (cfL s.jobs)) y x) = true := List.pairwise_mergeSort (fun a b c h1 h2 => by
          have h1' : ltOf (cfL s.jobs) b a = false := by simpa using h1
          have h2' : ltOf (cfL s.jobs) c b = false := by simpa using h2
          rw [(swoL s.jobs).ntrans c b a h2' h1']
          rfl) (fun a b => by
          cases h3 : ltOf (cfL s.jobs) b a with
          | false => simp
          | true =>
            cases h4 : ltOf (cfL s.jobs) a b with
            | false => simp
            | true =>
              have := (swoL s.jobs).trans a b a h4 h3
              rw [(swoL s.jobs).irrefl] at this
              cases this) D
        have hndD : D.Nodup := by rw [← hD] at hnd; exact List.Pairwise.of_map (fun x => x.val) (fun a b h e => h (by rw [e])) hnd
        have h2 : (D.mergeSort fun x y => !(ltOf (cfL s.jobs)) y x).Nodup := hperm.nodup_iff.2 hndD
        refine (h1.and h2).imp ?_
        rintro a b ⟨h3, h4⟩
        have h3' : ltOf (cfL s.jobs) b a = false := by simpa using h3
        have := totL s.jobs a b
        cases h5 : ltOf (cfL s.jobs) a b with
        | true => rw [ltOf_cfL] at h5; exact h5
        | false => exact absurd (this h5 h3') h4
      · have hl2 : ((D.mergeSort fun x y => !(ltOf (cfL s.jobs)) y x).map (fun x => x.val)).length = L.length := by rw [List.length_map, hperm.length_eq, hlen]
        refine ⟨some ⟨gr, 0, none⟩, cap, by rw [List.length_map, List.length_map, hl2], by rw [List.length_map, hl2]; rw [List.length_map] at hn; exact hn, hcap, fun _ => ⟨gr, 0, rfl, by have := hc.size; omega, fun j u hu => ?_⟩⟩
        rw [List.getElem?_map, List.getElem?_map] at hu
        have hj : j < (D.mergeSort fun x y => !(ltOf (cfL s.jobs)) y x).length := by
          rcases Nat.lt_or_ge j (D.mergeSort fun x y => !(ltOf (cfL s.jobs)) y x).length with h | h
          · exact h
          · rw [List.getElem?_eq_none h] at hu; cases hu
        rw [List.getElem?_eq_getElem hj] at hu
        cases hu
        unfold sortWorld
        rw [cell?_grow _ _ _ (by unfold putRow mapBlock Sort.ahead; simpa using hgr)]
        rw [cell?_putRow _ _ _ _ D.toArray _ (holds_ahead _ _ n _ _ _ hH) (by simp [hperm.length_eq]) j (by simpa using hj)]
        rw [getElem!_pos _ j (by simpa using hj)]
        rfl

end Go.Proofs.Ytgjidkhfnnghiaa

/- Contracts of Go's library at this program, laid by the kit's tools in plain words. -/
namespace Go.Proofs
open Go.Shelf
def Try.laysSlF6_f41_ren : Go.Shelf.Ren := ⟨fun | 6 => 41 | 15 => 63 | 14 => 62 | 28 => 80 | 29 => 81 | 20 => 72 | 21 => 73 | 22 => 74 | 23 => 75 | 24 => 76 | 25 => 77 | 26 => 78 | 27 => 79 | 46 => 94 | 47 => 95 | 48 => 96 | 49 => 97 | 50 => 98 | 57 => 102 | n => n, fun | 22 => 47 | 24 => 3 | 25 => 65 | 3 => 3 | 39 => 67 | 0 => 0 | 53 => 87 | 55 => 89 | 4 => 4 | 46 => 81 | 45 => 80 | 50 => 31 | 5 => 5 | 9 => 9 | 66 => 95 | 70 => 99 | 76 => 103 | 77 => 104 | n => n, fun | n => n⟩
theorem Try.laysSlF6_f41 : Go.Proofs.SlLaysF.n6 Try.prog Try.laysSlF6_f41_ren := {
  mixed := by kernel_rfl
  f6 := ⟨Try.f41.name, by decide, Try.func41.trans (congrArg some (by kernel_rfl))⟩
  f14 := ⟨Try.f62.name, by decide, Try.func62.trans (congrArg some (by kernel_rfl))⟩
  f15 := Try.func63.trans (congrArg some (by kernel_rfl))
  f20 := ⟨Try.f72.name, by decide, Try.func72.trans (congrArg some (by kernel_rfl))⟩
  f21 := ⟨Try.f73.name, by decide, Try.func73.trans (congrArg some (by kernel_rfl))⟩
  f22 := ⟨Try.f74.name, by decide, Try.func74.trans (congrArg some (by kernel_rfl))⟩
  f23 := ⟨Try.f75.name, by decide, Try.func75.trans (congrArg some (by kernel_rfl))⟩
  f24 := ⟨Try.f76.name, by decide, Try.func76.trans (congrArg some (by kernel_rfl))⟩
  f25 := ⟨Try.f77.name, by decide, Try.func77.trans (congrArg some (by kernel_rfl))⟩
  f26 := ⟨Try.f78.name, by decide, Try.func78.trans (congrArg some (by kernel_rfl))⟩
  f27 := ⟨Try.f79.name, by decide, Try.func79.trans (congrArg some (by kernel_rfl))⟩
  f28 := Try.func80.trans (congrArg some (by kernel_rfl))
  f29 := Try.func81.trans (congrArg some (by kernel_rfl))
  f46 := ⟨Try.f94.name, by decide, Try.func94.trans (congrArg some (by kernel_rfl))⟩
  f47 := Try.func95.trans (congrArg some (by kernel_rfl))
  f48 := Try.func96.trans (congrArg some (by kernel_rfl))
  f49 := ⟨Try.f97.name, by decide, Try.func97.trans (congrArg some (by kernel_rfl))⟩
  f50 := ⟨Try.f98.name, by decide, Try.func98.trans (congrArg some (by kernel_rfl))⟩
  f57 := ⟨Try.f102.name, by decide, Try.func102.trans (congrArg some (by kernel_rfl))⟩
  t0 := Try.underlying0
  a0 := Try.isAgg0
  z0 := Try.sizeOf0
  v0 := Try.zeroValue0
  t3 := Try.underlying3
  a3 := Try.isAgg3
  z3 := Try.sizeOf3
  v3 := Try.zeroValue3
  t4 := Try.underlying4
  a4 := Try.isAgg4
  z4 := Try.sizeOf4
  v4 := Try.zeroValue4
  t5 := Try.underlying5
  a5 := Try.isAgg5
  z5 := Try.sizeOf5
  v5 := Try.zeroValue5
  t9 := Try.underlying9
  a9 := Try.isAgg9
  z9 := Try.sizeOf9
  v9 := Try.zeroValue9
  t22 := Try.underlying47
  a22 := Try.isAgg47
  z22 := Try.sizeOf47
  v22 := Try.zeroValue47
  a24 := Try.isAgg3
  z24 := Try.sizeOf3
  t25 := Try.underlying65
  a25 := Try.isAgg65
  z25 := Try.sizeOf65
  v25 := Try.zeroValue65
  t39 := Try.underlying67
  a39 := Try.isAgg67
  z39 := Try.sizeOf67
  v39 := Try.zeroValue67
  t45 := Try.underlying80
  a45 := Try.isAgg80
  z45 := Try.sizeOf80
  v45 := Try.zeroValue80
  t46 := Try.underlying81
  a46 := Try.isAgg81
  z46 := Try.sizeOf81
  v46 := Try.zeroValue81
  t50 := Try.underlying31
  a50 := Try.isAgg31
  z50 := Try.sizeOf31
  v50 := Try.zeroValue31
  t53 := Try.underlying87
  a53 := Try.isAgg87
  z53 := Try.sizeOf87
  v53 := Try.zeroValue87
  t55 := Try.underlying89
  a55 := Try.isAgg89
  z55 := Try.sizeOf89
  v55 := Try.zeroValue89
  t66 := Try.underlying95
  a66 := Try.isAgg95
  z66 := Try.sizeOf95
  v66 := Try.zeroValue95
  t70 := Try.underlying99
  a70 := Try.isAgg99
  z70 := Try.sizeOf99
  v70 := Try.zeroValue99
  t76 := Try.underlying103
  a76 := Try.isAgg103
  z76 := Try.sizeOf103
  v76 := Try.zeroValue103
  t77 := Try.underlying104
  a77 := Try.isAgg104
  z77 := Try.sizeOf104
  v77 := Try.zeroValue104 }
def Try.laysSlF06_f41_ren : Go.Shelf.Ren := ⟨fun | 6 => 41 | 15 => 63 | 14 => 62 | 28 => 80 | 29 => 81 | 20 => 72 | 21 => 73 | 22 => 74 | 23 => 75 | 24 => 76 | 25 => 77 | 26 => 78 | 27 => 79 | 46 => 94 | 47 => 95 | 48 => 96 | 49 => 97 | 50 => 98 | 57 => 102 | n => n, fun | 22 => 47 | 24 => 3 | 25 => 65 | 3 => 3 | 39 => 67 | 0 => 0 | 53 => 87 | 55 => 89 | 4 => 4 | 46 => 81 | 45 => 80 | 50 => 31 | 5 => 5 | 9 => 9 | 66 => 95 | 70 => 99 | 76 => 103 | 77 => 104 | n => n, fun | n => n⟩
theorem Try.laysSlF06_f41 : Go.Proofs.SlLaysF0.n6 Try.prog Try.laysSlF06_f41_ren := {
  mixed := by kernel_rfl
  f6 := ⟨Try.f41.name, by decide, Try.func41.trans (congrArg some (by kernel_rfl))⟩
  f14 := ⟨Try.f62.name, by decide, Try.func62.trans (congrArg some (by kernel_rfl))⟩
  f15 := Try.func63.trans (congrArg some (by kernel_rfl))
  f20 := ⟨Try.f72.name, by decide, Try.func72.trans (congrArg some (by kernel_rfl))⟩
  f21 := ⟨Try.f73.name, by decide, Try.func73.trans (congrArg some (by kernel_rfl))⟩
  f22 := ⟨Try.f74.name, by decide, Try.func74.trans (congrArg some (by kernel_rfl))⟩
  f23 := ⟨Try.f75.name, by decide, Try.func75.trans (congrArg some (by kernel_rfl))⟩
  f24 := ⟨Try.f76.name, by decide, Try.func76.trans (congrArg some (by kernel_rfl))⟩
  f25 := ⟨Try.f77.name, by decide, Try.func77.trans (congrArg some (by kernel_rfl))⟩
  f26 := ⟨Try.f78.name, by decide, Try.func78.trans (congrArg some (by kernel_rfl))⟩
  f27 := ⟨Try.f79.name, by decide, Try.func79.trans (congrArg some (by kernel_rfl))⟩
  f28 := Try.func80.trans (congrArg some (by kernel_rfl))
  f29 := Try.func81.trans (congrArg some (by kernel_rfl))
  f46 := ⟨Try.f94.name, by decide, Try.func94.trans (congrArg some (by kernel_rfl))⟩
  f47 := Try.func95.trans (congrArg some (by kernel_rfl))
  f48 := Try.func96.trans (congrArg some (by kernel_rfl))
  f49 := ⟨Try.f97.name, by decide, Try.func97.trans (congrArg some (by kernel_rfl))⟩
  f50 := ⟨Try.f98.name, by decide, Try.func98.trans (congrArg some (by kernel_rfl))⟩
  f57 := ⟨Try.f102.name, by decide, Try.func102.trans (congrArg some (by kernel_rfl))⟩
  t0 := Try.underlying0
  a0 := Try.isAgg0
  z0 := Try.sizeOf0
  v0 := Try.zeroValue0
  t3 := Try.underlying3
  a3 := Try.isAgg3
  z3 := Try.sizeOf3
  v3 := Try.zeroValue3
  t4 := Try.underlying4
  a4 := Try.isAgg4
  z4 := Try.sizeOf4
  v4 := Try.zeroValue4
  t5 := Try.underlying5
  a5 := Try.isAgg5
  z5 := Try.sizeOf5
  v5 := Try.zeroValue5
  t9 := Try.underlying9
  a9 := Try.isAgg9
  z9 := Try.sizeOf9
  v9 := Try.zeroValue9
  t22 := Try.underlying47
  a22 := Try.isAgg47
  z22 := Try.sizeOf47
  v22 := Try.zeroValue47
  t25 := Try.underlying65
  a25 := Try.isAgg65
  z25 := Try.sizeOf65
  v25 := Try.zeroValue65
  t39 := Try.underlying67
  a39 := Try.isAgg67
  z39 := Try.sizeOf67
  v39 := Try.zeroValue67
  t45 := Try.underlying80
  a45 := Try.isAgg80
  z45 := Try.sizeOf80
  v45 := Try.zeroValue80
  t46 := Try.underlying81
  a46 := Try.isAgg81
  z46 := Try.sizeOf81
  v46 := Try.zeroValue81
  t50 := Try.underlying31
  a50 := Try.isAgg31
  z50 := Try.sizeOf31
  v50 := Try.zeroValue31
  t53 := Try.underlying87
  a53 := Try.isAgg87
  z53 := Try.sizeOf87
  v53 := Try.zeroValue87
  t55 := Try.underlying89
  a55 := Try.isAgg89
  z55 := Try.sizeOf89
  v55 := Try.zeroValue89
  t66 := Try.underlying95
  a66 := Try.isAgg95
  z66 := Try.sizeOf95
  v66 := Try.zeroValue95
  t70 := Try.underlying99
  a70 := Try.isAgg99
  z70 := Try.sizeOf99
  v70 := Try.zeroValue99
  t76 := Try.underlying103
  a76 := Try.isAgg103
  z76 := Try.sizeOf103
  v76 := Try.zeroValue103
  t77 := Try.underlying104
  a77 := Try.isAgg104
  z77 := Try.sizeOf104
  v77 := Try.zeroValue104 }
open Go.RowKit Go.Lib Go.Sort in
theorem Try.slices_SortFunc_none {α : Type} [Inhabited α] (p : Option Addr) (cap : Nat) (fv : Value) (w : World) :
    Calls Try.prog 41 #[.slice p 0 cap, fv] w fun e w' => e = .returned (.tuple #[]) ∧ w' = w := AnyF.slices_SortFunc_none Try.laysSlF06_f41 p cap fv w
open Go.RowKit Go.Lib Go.Sort in
theorem Try.slices_SortFunc_total {α : Type} [Inhabited α] (enc : α → Value) (h1 : OneCell enc) (cf : α → α → Int) (hO : SWO (ltOf cf)) (g : Nat) (cb : Array Value) (blk off cap : Nat) (d : Array α) (w : World) (eg : ∀ args w, (callFunc g args).run Try.prog w = .ok (.enter g args) w) (hcmp : CmpLays1 Try.prog g cb enc cf blk off d.size w) (hH : Holds enc w blk off d) (hblk : blk < w.heap.size) (hsz : d.size < 4611686018427387904) (hT : ∀ x y, (ltOf cf) x y = false → (ltOf cf) y x = false → x = y) :
    Calls Try.prog 41 #[.slice (some ⟨blk, off, none⟩) d.size cap, .func (.func g) #[] cb] w fun e w' =>
      e = .returned (.tuple #[]) ∧ ∃ n os, w' = sortWorld enc w blk off n (d.toList.mergeSort fun x y => !(ltOf cf) y x).toArray os := Any.slices_SortFunc_total Try.laysSlF6_f41 enc h1 cf hO g cb blk off cap d w eg hcmp hH hblk hsz hT
end Go.Proofs

/- Package rank: Line. The shelf's contract of the sort is laid at the seat (wip/tools/mkshelf.py NAME Shelf slices_SortFunc_total slices_SortFunc_none). -/
namespace Go.Proofs.Ytgjidkhfnnghiaa
open Go.RowKit

theorem Line_any (vn vj : Value) (s : St) (w : World) (hr : RdJb w vj s.jobs) (hN : s.jobs.length ≤ 1000) :
    Calls Try.prog 21 #[stV vn vj s] w fun e w' => ∃ v', e = .returned v' ∧ Rd w' v' ((lineL s.jobs).map J) ∧ Ext w w' :=
  Line_over (sortLine_of Try.laysSlF6_f41 rfl) vn vj s w hr hN

end Go.Proofs.Ytgjidkhfnnghiaa

/- Package rank: Place. -/
namespace Go.Proofs.Ytgjidkhfnnghiaa
open Go.RowKit Go.Shelf Go.Sort

theorem sorted_fins (l : List Jb) (D : List (Fin l.length)) (hndD : D.Nodup) : ((D.mergeSort fun x y => !(ltOf (cfL l)) y x).map (fun x => x.val)).Pairwise fun i k => aheadL l i k = true := by
  rw [List.pairwise_map]
  have h1 : (D.mergeSort fun x y => !(ltOf (cfL l)) y x).Pairwise fun x y => (!(ltOf (cfL l)) y x) = true := List.pairwise_mergeSort (fun a b c h1 h2 => by
    have h1' : ltOf (cfL l) b a = false := by simpa using h1
    have h2' : ltOf (cfL l) c b = false := by simpa using h2
    rw [(swoL l).ntrans c b a h2' h1']
    rfl) (fun a b => by
    cases h3 : ltOf (cfL l) b a with
    | false => simp
    | true =>
      cases h4 : ltOf (cfL l) a b with
      | false => simp
      | true =>
        have := (swoL l).trans a b a h4 h3
        rw [(swoL l).irrefl] at this
        cases this) D
  have h2 : (D.mergeSort fun x y => !(ltOf (cfL l)) y x).Nodup := (List.mergeSort_perm _ _).nodup_iff.2 hndD
  refine (h1.and h2).imp ?_
  rintro a b ⟨h3, h4⟩
  have h3' : ltOf (cfL l) b a = false := by simpa using h3
  have := totL l a b
  cases h5 : ltOf (cfL l) a b with
  | true => rw [ltOf_cfL] at h5; exact h5
  | false => exact absurd (this h5 h3') h4
/-- The line is sorted, and holds all that are queued. -/
theorem line_sorted (l : List Jb) : ((lineL l).Pairwise fun i k => aheadL l i k = true) ∧ (lineL l).Perm (queuedTo l l.length) := by
  have hnd : (queuedTo l l.length).Nodup := List.nodup_range.filter _
  obtain ⟨D, hD⟩ := fins (N := l.length) (queuedTo l l.length) (fun i hi => List.mem_range.1 (List.mem_filter.1 hi).1)
  have hndD : D.Nodup := by rw [← hD] at hnd; exact List.Pairwise.of_map (fun x => x.val) (fun a b h e => h (by rw [e])) hnd
  have h1 := sorted_fins l D hndD
  have h2 : ((D.mergeSort fun x y => !(ltOf (cfL l)) y x).map (fun x => x.val)).Perm (queuedTo l l.length) := by
    have := (List.mergeSort_perm D fun x y => !(ltOf (cfL l)) y x).map (fun x => x.val)
    rw [hD] at this
    exact this
  have e := line_of_sorted h1 h2
  rw [← e]
  exact ⟨h1, h2⟩
theorem line_place {l : List Jb} {q i : Nat} (h : (lineL l)[q]? = some i) : placeL l i = q := by
  obtain ⟨hs, hp⟩ := line_sorted l
  obtain ⟨hq, rfl⟩ := List.getElem?_eq_some_iff.1 h
  unfold placeL placeTo
  generalize lineL l = L at *
  have hplace : ∀ i : Nat, ((List.range l.length).filter fun k => queuedL l k && aheadL l k i).length = (L.filter fun k => aheadL l k i).length := fun i => by
    rw [(hp.filter _).length_eq]
    unfold queuedTo
    rw [List.filter_filter]
    congr 1
    apply List.filter_congr
    intro k _
    rw [Bool.and_comm]
  rw [hplace]
  have e : L = L.take q ++ L[q] :: L.drop (q + 1) := by rw [List.getElem_cons_drop, List.take_append_drop]
  generalize L[q] = x at e ⊢
  have hpw := hs
  rw [e] at hpw
  have h2 := List.pairwise_append.1 hpw
  have h3 := List.pairwise_cons.1 h2.2.1
  have f1 : (L.take q).filter (fun k => aheadL l k x) = L.take q := List.filter_eq_self.2 fun k hk => h2.2.2 k hk _ (List.mem_cons_self ..)
  have f2 : (L.drop (q + 1)).filter (fun k => aheadL l k x) = [] := List.filter_eq_nil_iff.2 fun k hk h => by
    have := aheadL_trans h (h3.1 k hk)
    rw [aheadL_irrefl] at this
    cases this
  have f3 : L.filter (fun k => aheadL l k x) = L.take q := by
    refine (congrArg (List.filter fun k => aheadL l k x) e).trans ?_
    rw [List.filter_append, f1, List.filter_cons_of_neg (by rw [aheadL_irrefl]; simp), f2, List.append_nil]
  rw [f3, List.length_take]
  omega
theorem placeI_at {l : List Jb} {job : Int} {q i : Nat} (h : (lineL l)[q]? = some i) (hj : job = (i : Int) + 1) : placeI l job = (q : Int) := by
  have hm : i ∈ lineL l := List.mem_of_getElem? h
  unfold placeI
  rw [show (job - 1).toNat = i by omega, if_pos ⟨by omega, lineL_queued hm⟩, line_place h]
theorem placeI_out {l : List Jb} {job : Int} (h : ∀ (q i : Nat), (lineL l)[q]? = some i → ¬ job = (i : Int) + 1) : placeI l job = -1 := by
  unfold placeI
  rw [if_neg]
  rintro ⟨h1, h2⟩
  obtain ⟨q, hq⟩ := List.mem_iff_getElem?.1 (lineL_mem h2)
  exact h q _ hq (by omega)

set_option maxRecDepth 100000 in
set_option maxHeartbeats 2000000 in
/-- The library's Index, over the line. -/
theorem IndexLine_any (l : List Jb) (v : Value) (job : Int) (w : World) (hr : Rd w v ((lineL l).map J)) (hN : (lineL l).length ≤ 1000000) :
    Calls Try.prog 40 #[v, .int .i64 job] w fun e w' => e = .returned (.int .i64 (placeI l job)) ∧ w = w' := by
  obtain ⟨n, hn⟩ : ∃ n, n = (lineL l).length := ⟨_, rfl⟩
  obtain ⟨A, c, e, -, -, h3⟩ := hr
  rw [List.length_map, ← hn] at e h3
  subst e
  have HC : Hid (∀ q i : Nat, (lineL l)[q]? = some i → ∃ b o, A = some ⟨b, o, none⟩ ∧ w.cell? ⟨b, o + q, none⟩ = some (.int .i64 ((i : Int) + 1))) := Lib.hid fun q i hq => by
    obtain ⟨b, o, hA, -, hc⟩ := h3 (by rw [hn]; have := (List.getElem?_eq_some_iff.1 hq).1; omega)
    exact ⟨b, o, hA, hc q _ (by rw [List.getElem?_map, hq]; rfl)⟩
  have HAT : Hid (∀ q i : Nat, (lineL l)[q]? = some i → job = (i : Int) + 1 → placeI l job = (q : Int)) := Lib.hid fun q i h hj => placeI_at h hj
  have HOUT : Hid ((∀ q i : Nat, (lineL l)[q]? = some i → ¬ job = (i : Int) + 1) → placeI l job = -1) := Lib.hid fun h => placeI_out h
  obtain ⟨R, hR⟩ : ∃ R, R = placeI l job := ⟨_, rfl⟩
  rw [← hR] at HAT HOUT ⊢
  have hn9 : n ≤ 1000000 := by omega
  have HN := Lib.hid hn
  clear h3 hR hn hN
  generalize lineL l = L at *
  go_enter Try.func40, Try.ntmps40
  go_wp2_with fail
  go_loop [8] (fun i => ∃ q : Nat, i = .int .i64 (q : Int) ∧ q ≤ n ∧ Hid (∀ r i : Nat, r < q → L[r]? = some i → ¬ job = (i : Int) + 1)) (fun i => n - (intOf i).toNat)
  case atStart => exact ⟨0, rfl, Nat.zero_le _, Lib.hid fun r i h => absurd h (Nat.not_lt_zero r)⟩
  case round =>
    obtain ⟨q, rfl, hq, HB⟩ := hrel
    by_cases hlt : q < n
    · have d1 : decide ((q : Int) < (n : Int)) = true := decide_eq_true (by omega)
      have d1' : decide (q < n) = true := decide_eq_true hlt
      have HLT := Lib.hid hlt
      obtain ⟨i, hi⟩ : ∃ i, L[q]? = some i := ⟨_, List.getElem?_eq_getElem (by rw [← HN.out]; exact hlt)⟩
      obtain ⟨b, o, rfl, hc⟩ := HC.out q i hi
      by_cases hj : job = (i : Int) + 1
      · have HZ : Hid (R = (q : Int)) := Lib.hid (HAT.out q i hi hj)
        obtain ⟨z, hz⟩ : ∃ z, z = (i : Int) + 1 := ⟨_, rfl⟩
        rw [← hz] at hc hj
        have e1 : (job == z) = true := by rw [hj]; simp
        clear hj hz hi hlt hq
        go_wp2
        go_ret
        exact ⟨by rw [HZ.out]; rfl, rfl⟩
      · have HB1 : Hid (∀ r k : Nat, r < q + 1 → L[r]? = some k → ¬ job = (k : Int) + 1) := Lib.hid fun r k hr hk => by
          rcases Nat.lt_or_ge r q with h | h
          · exact HB.out r k h hk
          · obtain rfl : r = q := by omega
            rw [hi] at hk
            cases hk
            exact hj
        obtain ⟨z, hz⟩ : ∃ z, z = (i : Int) + 1 := ⟨_, rfl⟩
        rw [← hz] at hc hj
        have e1 : (job == z) = false := by simpa using hj
        have wq : wrap64 ((q : Int) + 1) = (q : Int) + 1 := IntWalk.wrap64_in _ (by omega)
        clear hj hz hi hlt hq
        go_wp2
        go_round
        case rel => exact ⟨q + 1, by first | (rw [wq]; rfl) | rfl, HLT.out, HB1⟩
        case measure => first | (rw [wq]; exact measQ HLT.out) | exact measQ HLT.out
    · have d1 : decide ((q : Int) < (n : Int)) = false := decide_eq_false (by omega)
      have d1' : decide (q < n) = false := decide_eq_false hlt
      have HZ : Hid (R = -1) := Lib.hid (HOUT.out fun r i h => HB.out r i (by have := (List.getElem?_eq_some_iff.1 h).1; rw [← HN.out] at this; omega) h)
      go_wp2
      go_ret
      exact ⟨by rw [HZ.out]; rfl, rfl⟩

set_option maxRecDepth 100000 in
theorem Place_any (vn vj : Value) (s : St) (job : Int) (w : World) (hr : RdJb w vj s.jobs) (hN : s.jobs.length ≤ 1000) :
    Calls Try.prog 20 #[stV vn vj s, .int .i64 job] w fun e w' => e = .returned (.int .i64 (placeI s.jobs job)) ∧ Ext w w' := by
  obtain ⟨hx, hb⟩ := boxSt vn vj s w 27
  have HLC := Lib.hid (Line_any vn vj s (w.alloc (.cells (stC vn vj s) 27)) (hr.ext hx) hN)
  unfold stV at HLC
  unfold stV
  unfold stC at hx hb HLC
  have HX := Lib.hid hx
  have HB := Lib.hid hb
  have HIX : Hid (∀ v W, Rd W v ((lineL s.jobs).map J) → Calls Try.prog 40 #[v, .int .i64 job] W fun e w' => e = .returned (.int .i64 (placeI s.jobs job)) ∧ W = w') := Lib.hid fun v W h => IndexLine_any s.jobs v job W h (Nat.le_trans (lineTo_len s.jobs s.jobs.length) (Nat.le_trans (Nat.mul_le_mul hN hN) (by decide)))
  generalize placeI s.jobs job = R at *
  clear hx hb hr
  go_enter Try.func20, Try.ntmps20
  go_upto_region 1 with (fail)
  obtain ⟨W0, hW0⟩ : ∃ W0, W0 = w.alloc (.cells #[vn, vj, .int .i64 s.goal, .int .i64 s.prior, .int .i64 s.mode, .int .i64 s.term] 27) := ⟨_, rfl⟩
  rw [← hW0] at HX HB HLC ⊢
  clear hW0
  obtain ⟨g0, g1, g2, g3, g4, g5⟩ := Blk.six HB.out
  go_wp2_with fail
  refine HLC.out.mono ?_
  rintro e1 w1 ⟨v1, rfl, hr1, hx1⟩
  have HX1 : Hid (Ext w w1) := Lib.hid (Ext.trans HX.out hx1)
  have HIC := Lib.hid (HIX.out v1 w1 hr1)
  clear hx1 hr1 HLC HIX g0 g1 g2 g3 g4 g5
  simp only []
  go_wp2_with fail
  refine HIC.out.mono ?_
  rintro e2 w2 ⟨rfl, rfl⟩
  go_wp2
  go_ret
  exact ⟨rfl, HX1.out⟩

end Go.Proofs.Ytgjidkhfnnghiaa
