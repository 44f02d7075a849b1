/- Layer 4, the reference: a disk. -/
import Derived.Test.YtkoppdhmbhgnfaaObj
import Derived.Test.YtkoppdhmbhgnfaaP04
import Derived.Test.YtkoppdhmbhgnfaaTu8b
import Derived.Test.YtkoppdhmbhgnfaaTint
import Derived.Test.YtkoppdhmbhgnfaaStep2
import Derived.Test.YtkoppdhmbhgnfaaLift
import Derived.Deep.QuietTactic
import Derived.BigQuiet
import Derived.StillTailTactics
import Derived.Outline
namespace Go.Proofs.Ytkoppdhmbhgnfaa
open Go.RowKit

/-- The reference's disk at r: what lasts, the places and bytes written since, how often it was synced. -/
def RefDk (F : Fp) (w : World) (g : Nat) (bs : List UInt8) (as_ : List Nat) (vs : List UInt8) (n : Int) (vB vA vV : Value) : Prop :=
  ObjF F w g 41 #[vB, vA, vV, .int .i64 n] [⟨5, 1, vB, bs.length, bs.map B⟩, ⟨3, 1, vA, as_.length, as_.map fun (i : Nat) => I i⟩, ⟨5, 1, vV, vs.length, vs.map B⟩]

section
variable {F : Fp} {w w' : World} {g : Nat} {bs : List UInt8} {as_ : List Nat} {vs : List UInt8} {n : Int} {vB vA vV : Value}
theorem RefDk.rowB (h : RefDk F w g bs as_ vs n vB vA vV) : w.ownsRow 0 5 1 vB (bs.map B).length (bs.map B) := by
  have := (ObjF.ok h ⟨5, 1, vB, bs.length, bs.map B⟩ (by simp)).1
  rwa [List.length_map]
theorem RefDk.rowA (h : RefDk F w g bs as_ vs n vB vA vV) : w.ownsRow 0 3 1 vA (as_.map fun (i : Nat) => I i).length (as_.map fun (i : Nat) => I i) := by
  have := (ObjF.ok h ⟨3, 1, vA, as_.length, as_.map fun (i : Nat) => I i⟩ (by simp)).1
  rwa [List.length_map]
theorem RefDk.rowV (h : RefDk F w g bs as_ vs n vB vA vV) : w.ownsRow 0 5 1 vV (vs.map B).length (vs.map B) := by
  have := (ObjF.ok h ⟨5, 1, vV, vs.length, vs.map B⟩ (by simp)).1
  rwa [List.length_map]
theorem RefDk.slA (h : RefDk F w g bs as_ vs n vB vA vV) : ∃ A c, vA = .slice A as_.length c := by
  obtain ⟨A, c, e, _⟩ := (Rd.own h.rowA).sliceN (List.length_map _)
  exact ⟨A, c, e⟩
theorem RefDk.slV (h : RefDk F w g bs as_ vs n vB vA vV) : ∃ A c, vV = .slice A vs.length c := by
  obtain ⟨A, c, e, _⟩ := (Rd.own h.rowV).sliceN (List.length_map _)
  exact ⟨A, c, e⟩
theorem RefDk.slB (h : RefDk F w g bs as_ vs n vB vA vV) : ∃ A c, vB = .slice A bs.length c := by
  obtain ⟨A, c, e, _⟩ := (Rd.own h.rowB).sliceN (List.length_map _)
  exact ⟨A, c, e⟩
theorem RefDk.c0 (h : RefDk F w g bs as_ vs n vB vA vV) : w.cell? ⟨g, 0, none⟩ = some vB := ObjF.blk h |>.cell 0
theorem RefDk.c1 (h : RefDk F w g bs as_ vs n vB vA vV) : w.cell? ⟨g, 1, none⟩ = some vA := ObjF.blk h |>.cell 1
theorem RefDk.c2 (h : RefDk F w g bs as_ vs n vB vA vV) : w.cell? ⟨g, 2, none⟩ = some vV := ObjF.blk h |>.cell 2
theorem RefDk.c3 (h : RefDk F w g bs as_ vs n vB vA vV) : w.cell? ⟨g, 3, none⟩ = some (.int .i64 n) := ObjF.blk h |>.cell 3
theorem RefDk.fr (h : RefDk F w g bs as_ vs n vB vA vV) (i : Nat) : w.frozen? ⟨g, i, none⟩ = false := ObjF.blk h |>.frozen i
theorem RefDk.pushA (h : RefDk F w g bs as_ vs n vB vA vV) {x : Nat} {v' : Value} (hg : Grew 0 3 vA w ((as_.map fun (i : Nat) => I i) ++ [I x]) v' w') :
    RefDk (F.since w w') (w'.setCell ⟨g, 1, none⟩ v') g bs (as_ ++ [x]) vs n vB v' vV ∧ Chg F w (w'.setCell ⟨g, 1, none⟩ v') := by
  obtain ⟨h1, h2⟩ := ObjF.push h 1 1 (by simp) rfl hg
  refine ⟨?_, h2⟩
  unfold RefDk
  have e : (as_ ++ [x]).map (fun (i : Nat) => I i) = (as_.map fun (i : Nat) => I i) ++ [I x] := by simp
  have e2 : (as_ ++ [x]).length = ((as_.map fun (i : Nat) => I i) ++ [I x]).length := by simp
  rw [e, e2]
  exact h1
theorem RefDk.pushV (h : RefDk F w g bs as_ vs n vB vA vV) {x : UInt8} {v' : Value} (hg : Grew 0 5 vV w (vs.map B ++ [B x]) v' w') :
    RefDk (F.since w w') (w'.setCell ⟨g, 2, none⟩ v') g bs as_ (vs ++ [x]) n vB vA v' ∧ Chg F w (w'.setCell ⟨g, 2, none⟩ v') := by
  obtain ⟨h1, h2⟩ := ObjF.push h 2 2 (by simp) rfl hg
  refine ⟨?_, h2⟩
  unfold RefDk
  have e : (vs ++ [x]).map B = vs.map B ++ [B x] := by simp
  have e2 : (vs ++ [x]).length = (vs.map B ++ [B x]).length := by simp
  rw [e, e2]
  exact h1
theorem RefDk.pushAS {w0 : World} (h : RefDk (F.since w0 w) w g bs as_ vs n vB vA vV) (h0 : F.isIn w0) (hc : Chg F w0 w) {x : Nat} {v' : Value} (hg : Grew 0 3 vA w ((as_.map fun (i : Nat) => I i) ++ [I x]) v' w') :
    RefDk (F.since w0 (w'.setCell ⟨g, 1, none⟩ v')) (w'.setCell ⟨g, 1, none⟩ v') g bs (as_ ++ [x]) vs n vB v' vV ∧ Chg F w0 (w'.setCell ⟨g, 1, none⟩ v') := by
  obtain ⟨h1, h2⟩ := ObjF.pushS h h0 hc 1 1 (by simp) rfl hg
  refine ⟨?_, h2⟩
  unfold RefDk
  have e : (as_ ++ [x]).map (fun (i : Nat) => I i) = (as_.map fun (i : Nat) => I i) ++ [I x] := by simp
  have e2 : (as_ ++ [x]).length = ((as_.map fun (i : Nat) => I i) ++ [I x]).length := by simp
  rw [e, e2]
  exact h1
theorem RefDk.pushVS {w0 : World} (h : RefDk (F.since w0 w) w g bs as_ vs n vB vA vV) (h0 : F.isIn w0) (hc : Chg F w0 w) {x : UInt8} {v' : Value} (hg : Grew 0 5 vV w (vs.map B ++ [B x]) v' w') :
    RefDk (F.since w0 (w'.setCell ⟨g, 2, none⟩ v')) (w'.setCell ⟨g, 2, none⟩ v') g bs as_ (vs ++ [x]) n vB vA v' ∧ Chg F w0 (w'.setCell ⟨g, 2, none⟩ v') := by
  obtain ⟨h1, h2⟩ := ObjF.pushS h h0 hc 2 2 (by simp) rfl hg
  refine ⟨?_, h2⟩
  unfold RefDk
  have e : (vs ++ [x]).map B = vs.map B ++ [B x] := by simp
  have e2 : (vs ++ [x]).length = (vs.map B ++ [B x]).length := by simp
  rw [e, e2]
  exact h1
theorem RefDk.drew (h : RefDk F w g bs as_ vs n vB vA vV) : RefDk F w.drew g bs as_ vs n vB vA vV := ObjF.drew h
/-- The block stands while a row of it grows. -/
theorem RefDk.blkA (h : RefDk F w g bs as_ vs n vB vA vV) {ys : List Value} {e : TypeId} {v' : Value} (hg : Grew 0 e vA w ys v' w') : Blk w' g 41 #[vB, vA, vV, .int .i64 n] :=
  (ObjF.blk h).grown hg.2.1 (fun e => ObjF.off h ⟨3, 1, vA, as_.length, as_.map fun (i : Nat) => I i⟩ (by simp) e.symm)
theorem RefDk.blkV (h : RefDk F w g bs as_ vs n vB vA vV) {ys : List Value} {e : TypeId} {v' : Value} (hg : Grew 0 e vV w ys v' w') : Blk w' g 41 #[vB, vA, vV, .int .i64 n] :=
  (ObjF.blk h).grown hg.2.1 (fun e => ObjF.off h ⟨5, 1, vV, vs.length, vs.map B⟩ (by simp) e.symm)
theorem RefDk.later {w0 : World} (h : RefDk ((F.since w0 w).since w w') w' g bs as_ vs n vB vA vV) (hi : F.isIn w0) (h1 : w0.heap.size ≤ w.heap.size) (h2 : w.heap.size ≤ w'.heap.size) : RefDk (F.since w0 w') w' g bs as_ vs n vB vA vV := ObjF.later h hi h1 h2
end

theorem RefNew_any (n : Nat) (w : World) (hn : n ≤ 65536) : Calls Try.prog 17 #[.int .i64 (n : Int)] w fun e w' =>
    ∃ g vB, e = .returned (.pointer (some ⟨g, 0, none⟩)) ∧ RefDk (fun k => w.heap.size ≤ k ∧ k < w'.heap.size) w' g (List.replicate n 0) [] [] 0 vB (.slice none 0 0) (.slice none 0 0) ∧ Ext w w' := by
  go_enter Try.func17, Try.ntmps17
  go_wp2_with (refine make_u8 rfl _ _ rfl n rfl rfl (by omega) ?_; intro g w2 hg0 hg2)
  go_ret
  have hm := RowF.made hg2
  have hl : ((List.replicate n (0 : UInt8)).map B).length = (List.replicate n (0 : UInt8)).length := List.length_map _
  have hrow : RowS.ok ⟨5, 1, .slice (some ⟨g, 0, none⟩) n n, (List.replicate n (0 : UInt8)).length, (List.replicate n (0 : UInt8)).map B⟩ (fun k => w.heap.size ≤ k ∧ k < w2.heap.size) w2 := by
    rw [← hl]
    exact hm
  refine ⟨w2.heap.size, .slice (some ⟨g, 0, none⟩) n n, rfl, ?_, hg2.ext.trans ((Below.refl _ _).alloc (Nat.le_refl _) _)⟩
  have := ObjF.new (w0 := w) (w := w2) (rows := [⟨5, 1, .slice (some ⟨g, 0, none⟩) n n, (List.replicate n (0 : UInt8)).length, (List.replicate n (0 : UInt8)).map B⟩, ⟨3, 1, .slice none 0 0, 0, []⟩, ⟨5, 1, .slice none 0 0, 0, []⟩]) hg2.size
    #[.slice (some ⟨g, 0, none⟩) n n, .slice none 0 0, .slice none 0 0, .int .i64 0] 41 ?_ ?_
  · simpa [RefDk] using this
  · intro r hr
    simp only [List.mem_cons, List.not_mem_nil, or_false] at hr
    rcases hr with rfl | rfl | rfl
    · exact hrow
    · exact ⟨World.ownsRow_nil _ _ _ _, fun k hk => by cases hk⟩
    · exact ⟨World.ownsRow_nil _ _ _ _, fun k hk => by cases hk⟩
  · simp [RowS.apart, Value.ownBlock]

/-- How far a write has come. -/
def WriteSt (F : Fp) (w : World) (g : Nat) (bs : List UInt8) (as_ : List Nat) (vs : List UInt8) (n : Int) (vB : Value) (i : Nat) (l : List UInt8) (v : Value) (wr : World) : Prop :=
  ∃ k : Nat, v = .int .i64 k ∧ k ≤ l.length ∧ ∃ vA' vV', RefDk (F.since w wr) wr g bs (as_ ++ (List.range k).map (fun x => i + x)) (vs ++ l.take k) n vB vA' vV' ∧ Chg F w wr

set_option maxHeartbeats 1000000 in
theorem RefWrite_yes (F G : Fp) (g : Nat) (bs : List UInt8) (as_ : List Nat) (vs : List UInt8) (n : Int) (vB vA vV : Value) (i : Nat) (v : Value) (l : List UInt8) (w : World) (hd : RefDk F w g bs as_ vs n vB vA vV) (hr : RdF G w v (l.map B)) (ha : G.apart F) (hG : G.isIn w)
    (hb : bs.length ≤ 65536) (hi : i + l.length ≤ bs.length) (hlen : as_.length ≤ 1000000000) (hvs : vs.length ≤ 1000000000) :
    Calls Try.prog 26 #[.pointer (some ⟨g, 0, none⟩), .int .i64 (i : Int), v] w fun e w' =>
      e = .returned (.int .i64 0) ∧ ∃ vA' vV', RefDk (F.since w w') w' g bs (as_ ++ (List.range l.length).map (fun x => i + x)) (vs ++ l) n vB vA' vV' ∧ Chg F w w' := by
  obtain ⟨A, c, rfl, hlc, hcm⟩ := hr.rd.sliceN (List.length_map _)
  unfold maxLen at hcm
  obtain ⟨AB, cB, rfl⟩ := hd.slB
  have c0 := hd.c0
  have HD := Lib.hid hd
  have HIn := Lib.hid (ObjF.isIn hd)
  clear hd
  go_enter Try.func26, Try.ntmps26
  go_wp2
  clear c0
  go_loopw [7] (fun i' wr => WriteSt F w g bs as_ vs n (.slice AB bs.length cB) i l i' wr) (fun i' _ => l.length - (intOf i').toNat)
  case atStart =>
    refine ⟨0, rfl, Nat.zero_le _, vA, vV, ?_, Chg.refl _ _⟩
    have := ObjF.mono HD.out (G := F.since w w) (fun k hk => .inl hk) (HIn.out.since (Nat.le_refl _))
    simpa [RefDk] using this
  case round =>
    obtain ⟨k, rfl, hk, vA', vV', hd', hc⟩ := hrel
    by_cases hlt : k < l.length
    · have hrk := hr.chg hc ha
      obtain ⟨b, o, rfl, hbb, hbG, hcl⟩ := hrk.get (by rw [List.length_map]; omega)
      have e1 : wr.cell? ⟨b, o + k, none⟩ = some (B l[k]) := hcl k _ (by rw [List.getElem?_map, List.getElem?_eq_getElem hlt]; rfl)
      clear hcl
      obtain ⟨AA, cA, rfl, _, _⟩ := (Rd.own hd'.rowA).sliceN (n := as_.length + k) (by simp)
      obtain ⟨AV, cV, rfl, _, _⟩ := (Rd.own hd'.rowV).sliceN (n := vs.length + k) (by rw [List.length_map, List.length_append, List.length_take]; omega)
      have c1 := hd'.c1
      have hrA := hd'.rowA
      have hlA : ((as_ ++ (List.range k).map (fun x => i + x)).map fun (i : Nat) => I i).length < 17592186044416 := by rw [List.length_map, List.length_append, List.length_map, List.length_range]; omega
      have HD' := Lib.hid hd'
      clear hd'
      simp only [B] at e1
      go_wp2_with (at_builtin; refine push_int rfl _ _ rfl 0 _ ((as_ ++ (List.range k).map (fun x => i + x)).map fun (i : Nat) => I i) rfl hrA _ rfl rfl hlA (Nat.zero_le _) ?_; intro v1 w1 hg1; have hb1 := HD'.out.blkA hg1; have cc1 : w1.cell? ⟨g, 1, none⟩ = some (.slice AA (as_.length + k) cA) := hb1.cell 1; have ff1 := hb1.frozen 1; obtain ⟨A1, k1, rfl⟩ := hg1.slice_ (n := as_.length + k + 1) (by simp; omega))
      have hu1 : (Value.int .i64 ((i : Int) + (k : Int))) = I ((i + k : Nat) : Int) := by rw [Int.natCast_add]
      rw [hu1] at hg1
      obtain ⟨hd2, hc2⟩ := HD'.out.pushAS HIn.out hc hg1
      have hrk2 := hr.chg hc2 ha
      obtain ⟨b', o', hbo, _, _, hcl⟩ := hrk2.get (by rw [List.length_map]; omega)
      obtain ⟨rfl, rfl⟩ : b' = b ∧ o' = o := by simpa using hbo.symm
      have e2 : (w1.setCell ⟨g, 1, none⟩ (.slice A1 (as_.length + k + 1) k1)).cell? ⟨b', o' + k, none⟩ = some (B l[k]) := hcl k _ (by rw [List.getElem?_map, List.getElem?_eq_getElem hlt]; rfl)
      simp only [B] at e2
      have c2 := hd2.c2
      have f2 := hd2.fr 2
      have hgl := (ObjF.blk hd2).lt
      have HD2 := Lib.hid hd2
      have HC2 := Lib.hid hc2
      have hrV := hd2.rowV
      clear hcl hbo hd2 hc2 hrk2 hb1 cc1 ff1 hg1 e1 c1 hrA hrk
      generalize w1.setCell ⟨g, 1, none⟩ (.slice A1 (as_.length + k + 1) k1) = w2 at *
      have hlV : ((vs ++ l.take k).map B).length < 140737488355328 := by rw [List.length_map, List.length_append, List.length_take]; omega
      have hownV := hrV.drew
      have HD3 : Hid (RefDk (F.since w w2.drew) w2.drew g bs _ _ n _ _ _) := HD2.out.drew
      have HC3 := Lib.hid (HC2.out.drew)
      go_region_law (refine stepPush_u8 (.tmp 51) (.tmp 56) rfl rfl 0 _ ((vs ++ l.take k).map B) hownV rfl _ rfl rfl rfl hlV (Nat.zero_le _) ?_; intro v4 w4 hg4; have hb4 := RefDk.blkV HD3.out hg4; have cc4 : w4.cell? ⟨g, 2, none⟩ = some (.slice AV (vs.length + k) cV) := hb4.cell 2; have ff4 := hb4.frozen 2; obtain ⟨A4, k4, rfl⟩ := hg4.slice_ (n := vs.length + k + 1) (by simp; omega))
      all_goals
        have hv4 : (vs ++ l.take k).map B ++ [Value.int .u8 (l[k].toNat : Int)] = (vs ++ l.take k).map B ++ [B l[k]] := rfl
        rw [hv4] at hg4
        obtain ⟨hd5, hc5⟩ := RefDk.pushVS HD3.out HIn.out HC3.out hg4
        have HD5 := Lib.hid hd5
        have HC5 := Lib.hid hc5
        clear hd5 hc5 hg4
        go_wp2
        go_roundw
        case rel =>
          have e1 : as_ ++ (List.range (k + 1)).map (fun x => i + x) = as_ ++ (List.range k).map (fun x => i + x) ++ [i + k] := by rw [List.range_succ]; simp
          have e2 : vs ++ l.take (k + 1) = vs ++ l.take k ++ [l[k]] := by rw [List.take_succ_eq_append_getElem hlt]; simp
          have h5 := HD5.out
          rw [← e1, ← e2] at h5
          exact ⟨k + 1, by go_num, by omega, _, _, h5, HC5.out⟩
        case measure => simp [intOf]; omega
    · obtain rfl : k = l.length := by omega
      have HD' := Lib.hid hd'
      clear hd'
      go_wp2
      go_ret
      have h5 := HD'.out
      rw [List.take_length] at h5
      exact ⟨rfl, _, _, h5, hc⟩

end Go.Proofs.Ytkoppdhmbhgnfaa
