/- Texts that the proof of LogActs rests on, one behind the other. -/
import Derived.Test.YtnihgpdkolmkgaaLogActsQ6
import Derived.Test.YtnihgpdkolmkgaaRows
import Derived.Outline
import Derived.Lib.SlBytesConst
import Derived.Deep.RegionLaw

/- Layer 5: a disk and a log that a call made itself, through the calls. -/
namespace Go.Proofs.Ytnihgpdkolmkgaa
open Go.RowKit

/-- Since w0 all that was there stands; the disk and the log were made since, and lie in F. -/
def LgW (w0 w : World) (h g : Nat) (s : DkS) (f z u : Nat) (F : Fp) : Prop := LD F w h g s f z u ∧ (∀ k, F k → w0.heap.size ≤ k) ∧ Ext w0 w
/-- A disk alone. -/
def DkW (w0 w : World) (g : Nat) (s : DkS) (F : Fp) : Prop := Dk F w g s ∧ (∀ k, F k → w0.heap.size ≤ k) ∧ Ext w0 w

section
variable {w0 w w' : World} {h g f z u : Nat} {s : DkS} {F G : Fp}
theorem since_low (hf : ∀ k, F k → w0.heap.size ≤ k) (hs : w0.heap.size ≤ w.heap.size) : ∀ k, F.since w w' k → w0.heap.size ≤ k := fun k hk => by
  rcases hk with hk | hk
  · exact hf k hk
  · exact Nat.le_trans hs hk.1
theorem LgW.ext (hl : LgW w0 w h g s f z u F) (hx : Ext w w') : LgW w0 w' h g s f z u F := ⟨hl.1.ext hx, hl.2.1, hl.2.2.trans hx⟩
theorem DkW.ext (hl : DkW w0 w g s F) (hx : Ext w w') : DkW w0 w' g s F := ⟨Dk.chg (G := fun _ => False) hl.1 (Chg.of_ext hx) (fun _ _ h => h), hl.2.1, hl.2.2.trans hx⟩
theorem LgW.dkW (hl : LgW w0 w h g s f z u F) : DkW w0 w g s F := ⟨hl.1.dk, hl.2⟩
theorem LgW.chg (hl : LgW w0 w h g s f z u F) (hc : Chg G w w') (ha : F.apart G) (hg : ∀ k, G k → w0.heap.size ≤ k) : LgW w0 w' h g s f z u F := ⟨hl.1.chg hc ha, hl.2.1, hc.ext hl.2.2 hg⟩
theorem nsince {i : Nat} (h1 : ¬ F i) (h2 : i < w.heap.size) : ¬ F.since w w' i := fun h => by
  rcases h with h | h
  · exact h1 h
  · omega
theorem old_apart (hf : ∀ k, F k → w0.heap.size ≤ k) : Fp.apart (fun k => k < w0.heap.size) F := fun k hk hF => by
  have := hf k hF
  omega
theorem old_rd {v : Value} {xs : List Value} (hr : Rd w0 v xs) (hx : Ext w0 w) : RdF (fun k => k < w0.heap.size) w v xs := hr.old.chg (G := fun _ => False) (Chg.of_ext hx) (fun _ _ h => h)
theorem old_in (hx : Ext w0 w) : Fp.isIn (fun k => k < w0.heap.size) w := fun k hk => Nat.lt_of_lt_of_le hk hx.size

theorem DkW.new (hx : Ext w0 w) (n : Nat) (h1 : 1 ≤ n) (h2 : n ≤ 65536) : Calls Try.prog 10 #[.int .i64 (n : Int)] w fun e w' =>
    ∃ g, e = .returned (.pointer (some ⟨g, 0, none⟩)) ∧ DkW w0 w' g (List.replicate n 0, [], 0) (fun k => w.heap.size ≤ k ∧ k < w'.heap.size) ∧ Ext w w' :=
  (DkNew_yes n w h1 h2).mono fun e w' ⟨g, he, hd, hx'⟩ => ⟨g, he, ⟨hd, fun k hk => Nat.le_trans hx.size hk.1, hx.trans hx'⟩, hx'⟩
theorem DkW.open_ (hl : DkW w0 w g s F) (hz : f + z ≤ s.1.length) (h1 : 1 ≤ z) (hw : s.2.1.length ≤ 10000000) (hn0 : 0 ≤ s.2.2) (hn1 : s.2.2 ≤ 100000000) :
    Calls Try.prog 12 #[.pointer (some ⟨g, 0, none⟩), .int .i64 (f : Int), .int .i64 (z : Int)] w fun e w' => ∃ (h : Nat) (v : Value), e = .returned (.tuple #[.pointer (some ⟨h, 0, none⟩), v, .int .i64 0]) ∧
      LgW w0 w' h g (opD s f z) f z (endD s f z) (F.since w w') ∧ RdLF (fun k => w.heap.size ≤ k ∧ k < w'.heap.size) w' v (recD s f z) ∧ Chg F w w' := by
  refine (LgOpen_yes F g s f z w hl.1 hz h1 hw hn0 hn1).mono ?_
  rintro e w' ⟨h, v, F1, F2, V, he, a1, a2, a3, a4, a5, a6, a7, a8, a9, hc⟩
  exact ⟨h, v, he, ⟨⟨F1, F2, _, a1, a2, a4, a7, fun k hk => .inr (a8 k hk), hl.1.isIn.since hc.size, .inl rfl, h1⟩, since_low hl.2.1 hl.2.2.size, hc.ext hl.2.2 hl.2.1⟩, a3.mono a9, hc⟩
theorem LgW.put (hl : LgW w0 w h g s f z u F) {p : List UInt8} {v : Value} (hr : Rd w0 v (p.map B)) (hz : f + z ≤ s.1.length) (hu : u ≤ z) (hw : s.2.1.length ≤ 10000000) :
    Calls Try.prog 15 #[.pointer (some ⟨h, 0, none⟩), v] w fun e w' => e = .returned (.int .i64 (putE z u p)) ∧ LgW w0 w' h g (putS s f z u p) f z (putU z u p) (F.since w w') ∧ Chg F w w' :=
  (LgPut F h g s f z u _ p v w hl.1 (old_rd hr hl.2.2) (old_apart hl.2.1) (old_in hl.2.2) hz hu hw).mono fun _ _ ⟨he, hd, hc⟩ => ⟨he, ⟨hd, since_low hl.2.1 hl.2.2.size, hc.ext hl.2.2 hl.2.1⟩, hc⟩
theorem LgW.append (hl : LgW w0 w h g s f z u F) {p : List UInt8} {v : Value} (hr : Rd w0 v (p.map B)) (hz : f + z ≤ s.1.length) (hu : u ≤ z) (hw : s.2.1.length ≤ 10000000) (hn0 : 0 ≤ s.2.2) (hn1 : s.2.2 ≤ 100000000) :
    Calls Try.prog 16 #[.pointer (some ⟨h, 0, none⟩), v] w fun e w' => e = .returned (.int .i64 (putE z u p)) ∧ LgW w0 w' h g (appS s f z u p) f z (putU z u p) (F.since w w') ∧ Chg F w w' :=
  (LgAppend F h g s f z u _ p v w hl.1 (old_rd hr hl.2.2) (old_apart hl.2.1) (old_in hl.2.2) hz hu hw hn0 hn1).mono fun _ _ ⟨he, hd, hc⟩ => ⟨he, ⟨hd, since_low hl.2.1 hl.2.2.size, hc.ext hl.2.2 hl.2.1⟩, hc⟩
theorem LgW.clear (hl : LgW w0 w h g s f z u F) (hz : f + z ≤ s.1.length) (hw : s.2.1.length ≤ 10000000) (hn0 : 0 ≤ s.2.2) (hn1 : s.2.2 ≤ 100000000) :
    Calls Try.prog 14 #[.pointer (some ⟨h, 0, none⟩)] w fun e w' => e = .returned (.tuple #[]) ∧ LgW w0 w' h g (zrD s f z 0) f z 0 (F.since w w') ∧ Chg F w w' :=
  (LgClear F h g s f z u w hl.1 hz hw hn0 hn1).mono fun _ _ ⟨he, hd, hc⟩ => ⟨he, ⟨hd, since_low hl.2.1 hl.2.2.size, hc.ext hl.2.2 hl.2.1⟩, hc⟩
theorem LgW.used (hl : LgW w0 w h g s f z u F) (hu : u ≤ 65536) : Calls Try.prog 17 #[.pointer (some ⟨h, 0, none⟩)] w fun e w' => e = .returned (.int .i64 (u : Int)) ∧ LgW w0 w' h g s f z u F ∧ Ext w w' :=
  (LDUsed F h g s f z u w hl.1 hu).mono fun _ _ ⟨he, hx⟩ => ⟨he, hl.ext hx, hx⟩
theorem LgW.room (hl : LgW w0 w h g s f z u F) (n : Int) (hz : z ≤ 65536) (hu : u ≤ z) (_ : -9223372036854775808 ≤ n) (_ : n ≤ 9223372036854775807) :
    Calls Try.prog 18 #[.pointer (some ⟨h, 0, none⟩), .int .i64 n] w fun e w' => e = .returned (.bool (roomB z u n)) ∧ LgW w0 w' h g s f z u F ∧ Ext w w' :=
  (LDRoom F h g s f z u n w hl.1 hz hu).mono fun _ _ ⟨he, hx⟩ => ⟨he, hl.ext hx, hx⟩
theorem DkW.crash (hl : DkW w0 w g s F) (k : Int) (h0 : -9223372036854775808 ≤ k) (h1 : k ≤ 9223372036854775807) (hw : s.2.1.length ≤ 1000000000) :
    Calls Try.prog 22 #[.pointer (some ⟨g, 0, none⟩), .int .i64 k] w fun e w' => e = .returned (.tuple #[]) ∧ DkW w0 w' g (crD s k) (F.since w w') ∧ Chg F w w' :=
  (DkCrash F g s k w hl.1 h0 h1 hw).mono fun _ _ ⟨he, hd, hc⟩ => ⟨he, ⟨hd, since_low hl.2.1 hl.2.2.size, hc.ext hl.2.2 hl.2.1⟩, hc⟩
theorem DkW.sync (hl : DkW w0 w g s F) (hw : s.2.1.length ≤ 1000000000) (hn0 : 0 ≤ s.2.2) (hn1 : s.2.2 ≤ 1000000000) :
    Calls Try.prog 30 #[.pointer (some ⟨g, 0, none⟩)] w fun e w' => e = .returned (.tuple #[]) ∧ DkW w0 w' g (syD s) (F.since w w') ∧ Chg F w w' :=
  (DkSync F g s w hl.1 hw hn0 hn1).mono fun _ _ ⟨he, hd, hc⟩ => ⟨he, ⟨hd, since_low hl.2.1 hl.2.2.size, hc.ext hl.2.2 hl.2.1⟩, hc⟩
end

end Go.Proofs.Ytnihgpdkolmkgaa

/- Two closed facts on the program that every row asks. -/
namespace Go.Proofs.Ytnihgpdkolmkgaa
open Go.RowKit

theorem Try.ownKnob : ownKnob Try.prog.godebug = none := by kernel_rfl

theorem Try.laidOut : laidOutB Try.prog = true := by kernel_rfl

end Go.Proofs.Ytnihgpdkolmkgaa

/- Layer 5, the statements: what all of them ask first. -/
namespace Go.Proofs.Ytnihgpdkolmkgaa
open Go.RowKit

/-- What the example comes to. -/
abbrev av0 : DkS := (List.replicate 40 0, [], 0)
theorem av_end : endD av0 4 30 = 0 := by decide +kernel
theorem av_rec : recD av0 4 30 = [] := by decide +kernel
theorem av_e1 : putE 30 0 [97] = 0 := by decide +kernel
theorem av_u1 : putU 30 0 [97] = 7 := by decide +kernel
theorem av_e2 : putE 30 7 [98] = 0 := by decide +kernel
theorem av_u2 : putU 30 7 [98] = 14 := by decide +kernel
theorem av_rec2 : recD (crD (putS (appS (opD av0 4 30) 4 30 0 [97]) 4 30 7 [98]) 6) 4 30 = [[97]] := by decide +kernel
abbrev av1 : DkS := opD (crD (putS (appS (opD av0 4 30) 4 30 0 [97]) 4 30 7 [98]) 6) 4 30
theorem av_end1 : endD av1 4 30 = 7 := by decide +kernel
theorem av_U (l : Nat) : usedD av1 4 30 14 l = 14 ∨ usedD av1 4 30 14 l = 7 := by
  unfold usedD
  split
  · exact .inl rfl
  · split
    · exact .inl rfl
    · exact .inr av_end1
theorem av_r5 (l : Nat) : roomB 30 (usedD av1 4 30 14 l) 5 = true := by
  rcases av_U l with h | h <;> rw [h] <;> decide +kernel
theorem av_r60 (l : Nat) : roomB 30 (usedD av1 4 30 14 l) 60 = false := by
  rcases av_U l with h | h <;> rw [h] <;> decide +kernel
theorem av_w1 : av1.2.1.length ≤ 1000000000 := by rw [opD_waits]; exact Nat.zero_le _
theorem av_l1 : av1.1.length = 40 := by rw [opD_len, crD_len, putS_len, appS_len, opD_len, List.length_replicate]
theorem av_w0 : (appS (opD av0 4 30) 4 30 0 [97]).2.1.length = 0 := by decide +kernel
theorem av_w : (putS (appS (opD av0 4 30) 4 30 0 [97]) 4 30 7 [98]).2.1.length = 7 := by decide +kernel
theorem av_n : (crD (putS (appS (opD av0 4 30) 4 30 0 [97]) 4 30 7 [98]) 6).2.2 = 2 := by decide +kernel
theorem av_lit (c : UInt8) : #[Value.int .u8 (c.toNat : Int)] = (([c] : List UInt8).map B).toArray := by simp [B]

/-- A constant's bytes. -/
theorem RdF.litM (w : World) (l : List UInt8) (cs : Array Value) (e : TypeId) (n g : Nat) (m : Nat × Nat) (h : l.length ≤ 4096) (hc : cs = (l.map B).toArray) (hn : n = l.length) (hg : g = w.heap.size) :
    RdF (fun k => w.heap.size ≤ k ∧ k < (w.alloc (.cells cs e m)).heap.size) (w.alloc (.cells cs e m)) (.slice (some ⟨g, 0, none⟩) n n) (l.map B) := by
  subst hc hn hg
  exact ⟨some ⟨w.heap.size, 0, none⟩, l.length, by rw [List.length_map], by rw [List.length_map]; exact Nat.le_refl _, by unfold maxLen; omega, fun _ => ⟨w.heap.size, 0, rfl, by simp, ⟨Nat.le_refl _, by simp⟩, fun j u hu => by
    rw [Nat.zero_add, cell_of_row _ _ _ (l.map B).toArray e m (heap_alloc_new w _)]
    simpa using hu⟩⟩

set_option maxHeartbeats 1000000 in
theorem alive_any (w : World) : Calls Try.prog 8 #[] w fun e w' => e = .returned (.bool true) ∧ Ext w w' := by
  have kc := fun (w : World) (C : Array Value) (n c : Nat) => Lib.run_convert_bytes_const (P := Try.prog) w 38 5 C n c Try.underlying38 Try.underlying5
  go_enter Try.func8, Try.ntmps8
  go_wp2_with fail
  refine (DkW.new (Ext.refl w) 40 (by decide) (by decide)).mono ?_
  rintro e w1 ⟨g, rfl, hd1, -⟩
  go_wp2_with fail
  refine (hd1.open_ (f := 4) (z := 30) (by decide) (by decide) (by decide) (by decide) (by decide)).mono ?_
  rintro e w2 ⟨h, v2, rfl, hl2, hr2, -⟩
  rw [av_end] at hl2
  have hr2' : RdL w2 v2 [] := by rw [← av_rec]; exact hr2.rdl
  obtain ⟨A2, c2, rfl, _, _⟩ := hr2'.sliceN (n := 0) rfl
  clear hd1 hr2 hr2'
  generalize (Fp.since _ w1 w2) = F2 at *
  go_wp2_with fail
  have xl := RdF.litM w2 [97] #[.int .u8 97] 5 1 w2.heap.size (1, 2) (by decide) (av_lit 97) rfl rfl
  have hE : Ext w2 (w2.alloc (.cells #[.int .u8 97] 5 (1, 2))) := (Below.refl _ _).alloc (Nat.le_refl _) _
  have hl2' := hl2.ext hE
  refine (LgAppend _ h g _ 4 30 0 _ [97] _ _ hl2'.1 xl (fun k hk hF => by have := hl2.1.isIn k hF; omega) (fun k hk => hk.2) (by decide) (by decide) (by decide) (by decide) (by decide)).mono ?_
  rintro e w3 ⟨he, hd3, hc3⟩
  obtain rfl := he.trans (congrArg (fun n => Ending.returned (.int .i64 n)) av_e1)
  rw [av_u1] at hd3
  have hl3 : LgW w w3 h g _ 4 30 7 _ := ⟨hd3, since_low hl2'.2.1 hl2'.2.2.size, hc3.ext hl2'.2.2 hl2'.2.1⟩
  clear xl hE hl2 hl2' he hd3 hc3
  generalize (Fp.since F2 _ w3) = F3 at *
  go_wp2_with fail
  have xl := RdF.litM w3 [98] #[.int .u8 98] 5 1 w3.heap.size (1, 2) (by decide) (av_lit 98) rfl rfl
  have hE : Ext w3 (w3.alloc (.cells #[.int .u8 98] 5 (1, 2))) := (Below.refl _ _).alloc (Nat.le_refl _) _
  have hl3' := hl3.ext hE
  refine (LgPut _ h g _ 4 30 7 _ [98] _ _ hl3'.1 xl (fun k hk hF => by have := hl3.1.isIn k hF; omega) (fun k hk => hk.2) (by rw [appS_len, opD_len]; decide) (by decide) (by rw [av_w0]; decide)).mono ?_
  rintro e w4 ⟨he, hd4, hc4⟩
  obtain rfl := he.trans (congrArg (fun n => Ending.returned (.int .i64 n)) av_e2)
  rw [av_u2] at hd4
  have hl4 : LgW w w4 h g _ 4 30 14 _ := ⟨hd4, since_low hl3'.2.1 hl3'.2.2.size, hc4.ext hl3'.2.2 hl3'.2.1⟩
  clear xl hE hl3 hl3' he hd4 hc4
  generalize (Fp.since F3 _ w4) = F4 at *
  go_wp2_with fail
  refine (hl4.used (by decide)).mono ?_
  rintro e w5 ⟨rfl, hl5, -⟩
  obtain ⟨⟨F51, F52, l5, hk5, hg5, ha5, hs1, hs2, hi5, -, -⟩, hlow5, hx5⟩ := hl5
  clear hl4
  go_wp2_with fail
  refine (DkCrash F51 g _ 6 w5 hk5 (by decide) (by decide) (by rw [av_w]; decide)).mono ?_
  rintro e w6 ⟨rfl, hk6, hc6⟩
  have hg6 := hg5.chg hc6 ha5
  have hx6 : Ext w w6 := hc6.ext hx5 (fun k hk => hlow5 k (hs1 k hk))
  have ha6 : Fp.apart (F51.since w5 w6) F52 := Fp.apart.since ha5.symm hg5.isIn
  have hlow6 : ∀ k, F51.since w5 w6 k → w.heap.size ≤ k := since_low (fun k hk => hlow5 k (hs1 k hk)) hx5.size
  clear hk5 hg5 hc6 hx5 hlow5 hs1 hs2 hi5 ha5
  generalize (Fp.since F51 w5 w6) = F61 at *
  go_wp2_with fail
  refine (LgOpen_yes F61 g _ 4 30 w6 hk6 (by rw [crD_len, putS_len, appS_len, opD_len]; decide) (by decide) (by simp [crD]) (by rw [av_n]; decide) (by rw [av_n]; decide)).mono ?_
  rintro e w7 ⟨h7, v7, G1, G2, V, rfl, hk7, -, hv7, -, -, -, -, -, -, hc7⟩
  have hv : RdL w7 v7 [[97]] := by rw [← av_rec2]; exact hv7.rdl
  have hg7 := hg6.chg hc7 ha6.symm
  have hx7 : Ext w w7 := hc7.ext hx6 hlow6
  clear hv7 hc7 hx6 hlow6 hk6 hg6 ha6
  obtain ⟨A7, c7, rfl, _, _⟩ := hv.sliceN (n := 1) rfl
  obtain ⟨b7, o7, rfl, _, hcl⟩ := hv.at (by decide)
  obtain ⟨q, eq, hq⟩ := hcl 0 [97] rfl
  have eq' : w7.cell? ⟨b7, o7, none⟩ = some q := eq
  clear kc
  have kc := run_conv_rd (P := Try.prog) w7 38 9 5 Try.underlying38 Try.underlying5 Try.underlying9 q [97] hq
  obtain ⟨Q, cq, rfl, _, _⟩ := hq.sliceN (n := 1) rfl
  clear hcl hv hq eq
  go_wp2_with fail
  refine (LgRoom_any G1 _ h g av1 4 30 14 l5 5 w7 hk7 hg7 (by rw [av_l1]; decide) (by decide) (by decide) av_w1).mono ?_
  rintro e w8 ⟨he, hx8⟩
  obtain rfl := he.trans (congrArg (fun n => Ending.returned (.bool n)) (av_r5 l5))
  have hg8 := hg7.chg (F := fun _ => False) (Chg.of_ext hx8) (fun _ _ h => h)
  clear he hg7 kc
  go_wp2_with fail
  refine (LgRoom_any G1 _ h g av1 4 30 14 l5 60 w8 (hk7.ext hx8) hg8 (by rw [av_l1]; decide) (by decide) (by decide) av_w1).mono ?_
  rintro e w9 ⟨he, hx9⟩
  obtain rfl := he.trans (congrArg (fun n => Ending.returned (.bool n)) (av_r60 l5))
  have hx := (hx7.trans hx8).trans hx9
  clear he hg8 hx7 hx8 hx9 hk7
  go_wp2
  go_ret
  exact ⟨rfl, hx⟩

end Go.Proofs.Ytnihgpdkolmkgaa

/- Layer 5, the statements: may acts be looked at? -/
namespace Go.Proofs.Ytnihgpdkolmkgaa
open Go.RowKit

def fewL (l : List (Int × Int × List UInt8)) : Bool := decide (l.length ≤ 40) && l.all (fun x => decide (x.2.2.length ≤ 200))

theorem fewL_yes {l : List (Int × Int × List UInt8)} (h : fewL l = true) : l.length ≤ 40 ∧ ∀ x ∈ l, x.2.2.length ≤ 200 := by
  simp only [fewL, Bool.and_eq_true, decide_eq_true_eq, List.all_eq_true] at h
  exact h

theorem fewL_any (l : List (Int × Int × List UInt8)) (v : Value) (w : World) (hr : RdActs w v l) : Calls Try.prog 9 #[v] w fun e w' => e = .returned (.bool (fewL l)) ∧ w = w' := by
  obtain ⟨A, c, rfl, hlc, hcm⟩ := hr.slice_
  by_cases h40 : l.length ≤ 40
  · go_enter Try.func9, Try.ntmps9
    go_wp2
    go_loop [3] (fun i => ∃ k : Nat, i = .int .i64 k ∧ k ≤ l.length ∧ Hid ((l.take k).all (fun x => decide (x.2.2.length ≤ 200)) = true)) (fun i => l.length - (intOf i).toNat)
    case atStart => exact ⟨0, rfl, Nat.zero_le _, Lib.hid rfl⟩
    case round =>
      obtain ⟨k, rfl, hk, HA⟩ := hrel
      by_cases hlt : k < l.length
      · obtain ⟨b, o, rfl, hb, hc⟩ := hr.get (by omega)
        obtain ⟨_, _, _, _, u, hu, hru⟩ := hc k l[k] (List.getElem?_eq_getElem hlt)
        rw [← Nat.add_assoc] at hu
        obtain ⟨A1, c1, rfl, _, _⟩ := hru.sliceN (List.length_map _)
        have hs : l.take (k + 1) = l.take k ++ [l[k]] := List.take_succ_eq_append_getElem hlt
        have hall2 : l[k].2.2.length ≤ 200 → (l.take (k + 1)).all (fun x => decide (x.2.2.length ≤ 200)) = true := fun h => by
          rw [hs, List.all_append, HA.out]
          simpa using h
        have hno : 200 < l[k].2.2.length → fewL l = false := fun h => by
          rw [fewL, Bool.and_eq_false_iff]
          refine .inr ?_
          rw [List.all_eq_false]
          exact ⟨l[k], List.getElem_mem hlt, by simpa using h⟩
        have H2 := Lib.hid hall2
        have HN := Lib.hid hno
        clear hall2 hno hs hc
        generalize l[k].2.2.length = m at *
        by_cases hm : m ≤ 200
        · have hmd : decide (200 < m) = false := by simp; omega
          have H3 := Lib.hid (H2.out hm)
          clear H2 HN
          go_wp2
          go_round
          case rel => exact ⟨k + 1, by go_num, by omega, H3⟩
          case measure => simp [intOf]; omega
        · have H3 := Lib.hid (HN.out (by omega))
          have hmd : decide (200 < m) = true := by simp; omega
          clear H2 HN
          go_wp2
          go_ret
          exact ⟨by rw [H3.out]; rfl, rfl⟩
      · obtain rfl : k = l.length := by omega
        have hf : fewL l = true := by
          have := HA.out
          rw [List.take_length] at this
          rw [fewL, this, decide_eq_true h40]
          rfl
        have HF := Lib.hid hf
        clear hf HA
        go_wp2
        go_ret
        exact ⟨by rw [HF.out]; rfl, rfl⟩
  · have hf : fewL l = false := by rw [fewL, decide_eq_false h40]; rfl
    have HF := Lib.hid hf
    have hd : decide (40 < l.length) = true := by simp; omega
    clear hf
    go_enter Try.func9, Try.ntmps9
    go_wp2
    go_ret
    exact ⟨by rw [HF.out]; rfl, rfl⟩

end Go.Proofs.Ytnihgpdkolmkgaa

/- Layer 5, the reference: a log. -/
namespace Go.Proofs.Ytnihgpdkolmkgaa
open Go.RowKit

/-- The reference's log at m: its disk, its piece, its records. -/
def RLg0 (G : Fp) (w : World) (m r f z : Nat) (L : List (List UInt8)) (vL : Value) (vs : List Value) : Prop :=
  ObjF G w m 47 #[.pointer (some ⟨r, 0, none⟩), .int .i64 (f : Int), .int .i64 (z : Int), vL] [⟨38, 1, vL, vs.length, vs⟩] ∧ vs.length = L.length ∧
    ∀ (i : Nat) u l, vs[i]? = some u → L[i]? = some l → RdF (fun k => G k ∧ k ≠ m ∧ some k ≠ vL.ownBlock) w u (l.map B)
def RLg (G : Fp) (w : World) (m r f z : Nat) (L : List (List UInt8)) : Prop := ∃ vL vs, RLg0 G w m r f z L vL vs

section
variable {F G : Fp} {w w' : World} {m r f z : Nat} {L : List (List UInt8)} {vL : Value} {vs : List Value}
theorem RLg0.blk (h : RLg0 G w m r f z L vL vs) : Blk w m 47 #[.pointer (some ⟨r, 0, none⟩), .int .i64 (f : Int), .int .i64 (z : Int), vL] := ObjF.blk h.1
theorem RLg0.row (h : RLg0 G w m r f z L vL vs) : w.ownsRow 0 38 1 vL vs.length vs := (ObjF.ok h.1 ⟨38, 1, vL, vs.length, vs⟩ (by simp)).1
theorem RLg0.rdlF (h : RLg0 G w m r f z L vL vs) : RdLF G w vL L := by
  have hok := ObjF.ok h.1 ⟨38, 1, vL, vs.length, vs⟩ (by simp)
  have hrow : RowF G w 38 vL vs := ⟨hok.1, hok.2⟩
  exact ⟨vs, hrow.rdF, h.2.1, fun i u l hu hl => (h.2.2 i u l hu hl).mono fun k hk => hk.1⟩
theorem RLg0.chg (h : RLg0 G w m r f z L vL vs) (hc : Chg F w w') (ha : G.apart F) : RLg0 G w' m r f z L vL vs :=
  ⟨ObjF.chg h.1 hc ha, h.2.1, fun i u l hu hl => (h.2.2 i u l hu hl).chg hc fun k hk => ha k hk.1⟩
theorem RLg0.ext (h : RLg0 G w m r f z L vL vs) (hx : Ext w w') : RLg0 G w' m r f z L vL vs := h.chg (F := fun _ => False) (Chg.of_ext hx) (fun _ _ h => h)
theorem RLg0.mono (h : RLg0 G w m r f z L vL vs) (hf : ∀ k, G k → F k) (hi : F.isIn w) : RLg0 F w m r f z L vL vs :=
  ⟨ObjF.mono h.1 hf hi, h.2.1, fun i u l hu hl => (h.2.2 i u l hu hl).mono fun k hk => ⟨hf k hk.1, hk.2⟩⟩
theorem RLg.chg (h : RLg G w m r f z L) (hc : Chg F w w') (ha : G.apart F) : RLg G w' m r f z L := by
  obtain ⟨vL, vs, h⟩ := h
  exact ⟨vL, vs, h.chg hc ha⟩
theorem RLg.ext (h : RLg G w m r f z L) (hx : Ext w w') : RLg G w' m r f z L := h.chg (F := fun _ => False) (Chg.of_ext hx) (fun _ _ h => h)
theorem RLg.isIn (h : RLg G w m r f z L) : G.isIn w := by
  obtain ⟨vL, vs, h⟩ := h
  exact ObjF.isIn h.1
theorem RLg.mono (h : RLg G w m r f z L) (hf : ∀ k, G k → F k) (hi : F.isIn w) : RLg F w m r f z L := by
  obtain ⟨vL, vs, h⟩ := h
  exact ⟨vL, vs, h.mono hf hi⟩
end

theorem Rk.ext0 {F : Fp} {w w' : World} {r : Nat} {s : DkS} (h : Rk F w r s) (hx : Ext w w') : Rk F w' r s := Rk.chg (G := fun _ => False) h (Chg.of_ext hx) (fun _ _ h => h)
theorem RdF.made0 {e : TypeId} {w w' : World} {v : Value} {xs : List Value} (h : Grew w.heap.size e (.slice none 0 0) w xs v w') : RdF (fun k => w.heap.size ≤ k ∧ k < w'.heap.size) w' v xs := (RowF.made h).rdF

theorem catF_take {l : List (List UInt8)} {k : Nat} (h : k < l.length) : (catF (l.take (k + 1))).length = (catF (l.take k)).length + (frameB l[k]).length := by
  rw [List.take_succ_eq_append_getElem h, catF_snoc_len]
theorem catF_take_le (l : List (List UInt8)) (k : Nat) : (catF (l.take k)).length ≤ (catF l).length := by
  conv => rhs; rw [← List.take_append_drop k l, catF_append, List.length_append]
  omega

theorem RefUsed_any (G : Fp) (m r f z : Nat) (L : List (List UInt8)) (w : World) (hl : RLg G w m r f z L) (hc : (catF L).length ≤ 1000000000) (hn : L.length ≤ 1000000000) :
    Calls Try.prog 25 #[.pointer (some ⟨m, 0, none⟩)] w fun e w' => e = .returned (.int .i64 ((catF L).length : Int)) ∧ Ext w w' := by
  obtain ⟨vL, vs, hl⟩ := hl
  obtain ⟨A, c, rfl, _, _⟩ := hl.rdlF.rdl.sliceN rfl
  have HL := Lib.hid hl
  clear hl
  go_enter Try.func25, Try.ntmps25
  go_wp2
  go_loopw [3, 4] (fun n' i' wr => ∃ k : Nat, i' = .int .i64 k ∧ k ≤ L.length ∧ n' = .int .i64 ((catF (L.take k)).length : Int) ∧ Ext w wr) (fun _ i' _ => L.length - (intOf i').toNat)
  case atStart => exact ⟨0, rfl, Nat.zero_le _, rfl, Ext.refl _⟩
  case round =>
    obtain ⟨k, rfl, hk, rfl, hx⟩ := hrel
    have hlr := HL.out.ext hx
    have c3 : wr.cell? ⟨m, 3, none⟩ = some (.slice A L.length c) := hlr.blk.cell 3
    by_cases hlt : k < L.length
    · obtain ⟨b, o, rfl, hb, hcl⟩ := hlr.rdlF.rdl.at (by omega)
      obtain ⟨q, eq, hq⟩ := hcl k L[k] (List.getElem?_eq_getElem hlt)
      have hle := catF_take_le L (k + 1)
      have hst := catF_take hlt
      obtain ⟨Q, cq, rfl, hcq, hcmq⟩ := hq.sliceN (List.length_map _)
      generalize L[k] = p at *
      have HS := Lib.hid hst
      have h9 : (catF (L.take k)).length + (frameB p).length ≤ 1000000000 := by omega
      clear hcl hlr hst hle
      generalize (catF (L.take k)).length = n at *
      go_wp2_with fail
      refine (RefFrame_any p _ wr hq).mono ?_
      rintro e w1 ⟨v1, rfl, hg1⟩
      obtain ⟨A1, k1, rfl⟩ := hg1.slice_ (List.length_map _)
      have hx1 := hx.trans hg1.ext
      clear hg1
      go_wp2
      go_roundw
      case rel => exact ⟨k + 1, by go_num, by omega, by rw [HS.out]; go_num, hx1⟩
      case measure => simp [intOf]; omega
    · obtain rfl : k = L.length := by omega
      rw [List.take_of_length_le (Nat.le_refl _)]
      clear hlr
      go_wp2
      go_ret
      exact ⟨rfl, hx⟩

theorem RefZero_any (F G : Fp) (m r f z : Nat) (L : List (List UInt8)) (s : DkS) (u : Nat) (w : World) (hk : Rk F w r s) (hl : RLg G w m r f z L) (ha : G.apart F) (hz : f + z ≤ s.1.length) (hu : u ≤ z) (hb : s.1.length ≤ 65536)
    (hw : s.2.1.length ≤ 100000000) (hn0 : 0 ≤ s.2.2) (hn1 : s.2.2 ≤ 1000000000) :
    Calls Try.prog 36 #[.pointer (some ⟨m, 0, none⟩), .int .i64 (u : Int)] w fun e w' => e = .returned (.tuple #[]) ∧ Rk (F.since w w') w' r (zrD s f z u) ∧ Chg F w w' := by
  obtain ⟨vL, vs, hl⟩ := hl
  obtain ⟨w2, hmk, hg2⟩ := run_make_u8 w.drew (z - u) (by omega)
  obtain ⟨X, hX⟩ : ∃ X : Int, X = ((z - u : Nat) : Int) := ⟨_, rfl⟩
  have w1 : IntKind.i64.wrap ((z : Int) - (u : Int)) = X := by rw [IntKind.wrap_i64]; omega
  rw [← hX] at hmk
  obtain ⟨Y, hY⟩ : ∃ Y : Int, Y = ((f + u : Nat) : Int) := ⟨_, rfl⟩
  have w3 : IntKind.i64.wrap ((f : Int) + (u : Int)) = Y := by rw [IntKind.wrap_i64]; omega
  have hx2 : Ext w w2 := (Ext.dr (Ext.refl w)).trans hg2.ext
  have hl1 := hl.ext (Ext.dr (Ext.refl w))
  have hl2 := hl.ext hx2
  have c0 : w.drew.cell? ⟨m, 0, none⟩ = some (.pointer (some ⟨r, 0, none⟩)) := hl1.blk.cell 0
  have c1 : w.drew.cell? ⟨m, 1, none⟩ = some (.int .i64 (f : Int)) := hl1.blk.cell 1
  have c2 : w.drew.cell? ⟨m, 2, none⟩ = some (.int .i64 (z : Int)) := hl1.blk.cell 2
  have d0 : w2.cell? ⟨m, 0, none⟩ = some (.pointer (some ⟨r, 0, none⟩)) := hl2.blk.cell 0
  have d1 : w2.cell? ⟨m, 1, none⟩ = some (.int .i64 (f : Int)) := hl2.blk.cell 1
  have d2 : w2.cell? ⟨m, 2, none⟩ = some (.int .i64 (z : Int)) := hl2.blk.cell 2
  have hk2 := hk.ext0 hx2
  have hrd := RdF.made0 hg2
  have KW := RkWrite F (fun k => w.drew.heap.size ≤ k ∧ k < w2.heap.size) r s ((f + u : Nat) : Int) _ (List.replicate (z - u) 0) w2 hk2 hrd (fun k hk1 hk3 => by have := hk.isIn k hk3; have : w.drew.heap.size = w.heap.size := rfl; omega) (fun k hk => hk.2) hb (by omega)
  rw [← hY] at KW
  have KW' := Lib.hid KW
  have HX := Lib.hid hx2
  have HL := Lib.hid hl
  have HY := Lib.hid hY
  have HI := Lib.hid hk.isIn
  have HB : Hid (s.2.1.length ≤ 100000000 ∧ z ≤ 65536) := Lib.hid (show s.2.1.length ≤ 100000000 ∧ z ≤ 65536 from ⟨hw, by omega⟩)
  clear hX hY hz hu hb hw hk hl hl1 hl2 hg2 hrd KW hk2 hx2
  go_enter Try.func36, Try.ntmps36
  go_wp2
  go_region_law (go_simp; (go_at_call 43; refine KW'.out.mono ?_; rintro e w3 ⟨rfl, hk3, hc3⟩))
  all_goals
    have hl3 := (HL.out.ext HX.out).chg hc3 ha
    have e0 : w3.cell? ⟨m, 0, none⟩ = some (.pointer (some ⟨r, 0, none⟩)) := hl3.blk.cell 0
    have HK3 := Lib.hid hk3
    have HC3 := Lib.hid hc3
    clear hk3 hc3 hl3 hmk c0 c1 c2 d0 d1 d2
    go_wp2_with fail
    refine (RkSync _ r _ w3 HK3.out (by have := wrD_waits s Y (List.replicate (z - u) 0); rw [List.length_replicate] at this; have := HB.out; omega) (by rw [wrD_n]; exact hn0) (by rw [wrD_n]; exact hn1)).mono ?_
    rintro e w4 ⟨rfl, hk4, hc4⟩
    have HK4 := Lib.hid hk4
    have HC4 := Lib.hid hc4
    clear hk4 hc4
    go_wp2
    go_end0
    refine ⟨rfl, ?_, ?_⟩
    · have h4 := HK4.out
      rw [HY.out] at h4
      have hs : w.heap.size ≤ w2.heap.size := HX.out.size
      refine Rk.mono h4 (fun k hk => ?_) ((HI.out).since ?_)
      · rcases hk with hk | hk
        · exact .inl hk
        · exact .inr ⟨by omega, Nat.lt_of_lt_of_le hk.2 HC4.out.size⟩
      · exact Nat.le_trans hs (Nat.le_trans HC3.out.size HC4.out.size)
    · exact ((Chg.of_ext (F := F) HX.out).trans HC3.out (fun _ _ h => h)).trans HC4.out (fun x hx h => by
        rcases h with h | h
        · exact h
        · have := HX.out.size
          omega)

end Go.Proofs.Ytnihgpdkolmkgaa

/- Layer 5, the reference: a log is opened, put to, cleared. -/
namespace Go.Proofs.Ytnihgpdkolmkgaa
open Go.RowKit

theorem Grew.base0 {b : Nat} {e : TypeId} {v v' : Value} {w w' : World} {xs : List Value} (h : Grew b e v w xs v' w') : Grew 0 e v w xs v' w' := by
  obtain ⟨h1, h2, h3⟩ := h
  refine ⟨⟨h1.1, ?_⟩, h2, h3⟩
  rcases h1.2 with hv | ⟨g, cap, cur, hv, _, r⟩
  · exact .inl hv
  · exact .inr ⟨g, cap, cur, hv, Nat.zero_le _, r⟩

/-- The reference's disk and a log on it. -/
def RLD (F : Fp) (w : World) (m r : Nat) (s : DkS) (f z : Nat) (L : List (List UInt8)) : Prop :=
  ∃ F1 F2 : Fp, Rk F1 w r s ∧ RLg F2 w m r f z L ∧ F2.apart F1 ∧ (∀ k, F1 k → F k) ∧ (∀ k, F2 k → F k) ∧ F.isIn w

section
variable {F G : Fp} {w w' : World} {m r f z : Nat} {L : List (List UInt8)} {s : DkS}
theorem RLD.isIn (h : RLD F w m r s f z L) : F.isIn w := by
  obtain ⟨F1, F2, h1, h2, h3, h4, h5, h6⟩ := h
  exact h6
theorem RLD.rk (h : RLD F w m r s f z L) : Rk F w r s := by
  obtain ⟨F1, F2, h1, h2, h3, h4, h5, h6⟩ := h
  exact h1.mono h4 h6
theorem RLD.chg (h : RLD F w m r s f z L) (hc : Chg G w w') (ha : F.apart G) : RLD F w' m r s f z L := by
  obtain ⟨F1, F2, h1, h2, h3, h4, h5, h6⟩ := h
  exact ⟨F1, F2, h1.chg hc (fun k hk => ha k (h4 k hk)), h2.chg hc (fun k hk => ha k (h5 k hk)), h3, h4, h5, h6.chg hc⟩
theorem RLD.ext (h : RLD F w m r s f z L) (hx : Ext w w') : RLD F w' m r s f z L := h.chg (G := fun _ => False) (Chg.of_ext hx) (fun _ _ h => h)
theorem RLD.mono (h : RLD F w m r s f z L) (hf : ∀ k, F k → G k) (hi : G.isIn w) : RLD G w m r s f z L := by
  obtain ⟨F1, F2, h1, h2, h3, h4, h5, h6⟩ := h
  exact ⟨F1, F2, h1, h2, h3, fun k hk => hf k (h4 k hk), fun k hk => hf k (h5 k hk), hi⟩
theorem Rk.cell0 (h : Rk F w r s) : ∃ A c, w.cell? ⟨r, 0, none⟩ = some (.slice A s.1.length c) := by
  obtain ⟨as_, vs, vB, vA, vV, h1, h2, h3, h4⟩ := h
  obtain ⟨A, c, rfl⟩ := h1.slB
  exact ⟨A, c, h1.c0⟩
theorem Rk.lt (h : Rk F w r s) : r < w.heap.size := h.cells.1
end

/-- A log's struct, and the records that were read: a log. -/
theorem RLg.opened {w1 w2 : World} {m r f z : Nat} {v2 : Value} {L : List (List UInt8)}
    (h : ObjF (fun k => m ≤ k ∧ k < m + 1) w1 m 47 #[.pointer (some ⟨r, 0, none⟩), .int .i64 (f : Int), .int .i64 (z : Int), .slice none 0 0] [⟨38, 1, .slice none 0 0, 0, []⟩])
    (hw : OwnL w1.heap.size w1 38 v2 w2 L) : RLg (fun k => m ≤ k ∧ k < w2.heap.size) (w2.setCell ⟨m, 3, none⟩ v2) m r f z L ∧ Chg (fun k => k = m) w2 (w2.setCell ⟨m, 3, none⟩ v2) := by
  obtain ⟨vs, hg, hlen, hel⟩ := hw
  have hm := (ObjF.blk h).lt
  have hs : w1.heap.size ≤ w2.heap.size := hg.size
  have hc : Chg (fun k => k = m) w2 (w2.setCell ⟨m, 3, none⟩ v2) := (Chg.refl _ w2).setCell (fun _ => rfl)
  obtain ⟨h1, _⟩ := h.push 0 3 (by simp) rfl hg.base0
  refine ⟨⟨v2, vs, h1.mono (fun k hk => ?_) (fun k hk => by simpa using hk.2), hlen, fun i u l hu hl => ?_⟩, hc⟩
  · rcases hk with hk | hk
    · exact ⟨hk.1, by omega⟩
    · exact ⟨by omega, hk.2⟩
  · have he := (hel i u l hu hl).rdF (F := fun k => (m ≤ k ∧ k < w2.heap.size) ∧ k ≠ m ∧ some k ≠ v2.ownBlock) (fun k hk hr => ⟨⟨by have := hr.1; omega, hk⟩, by have := hr.1; omega, hr.2⟩)
    exact he.chg hc (fun k hk e => hk.2.1 e)

theorem RefOpen_no (F : Fp) (r : Nat) (s : DkS) (i n : Int) (w : World) (hk : Rk F w r s) (hb : s.1.length ≤ 65536) (h : ¬ (0 ≤ i ∧ 1 ≤ n ∧ i + n ≤ s.1.length)) :
    Calls Try.prog 13 #[.pointer (some ⟨r, 0, none⟩), .int .i64 i, .int .i64 n] w fun e w' => e = .returned (.tuple #[.pointer none, .bool false]) ∧ w = w' := by
  obtain ⟨A, c, c0⟩ := hk.cell0
  clear hk
  rcases (show i < 0 ∨ (0 ≤ i ∧ n < 1) ∨ (0 ≤ i ∧ 1 ≤ n ∧ (s.1.length : Int) < i) ∨ (0 ≤ i ∧ 1 ≤ n ∧ i ≤ (s.1.length : Int) ∧ (s.1.length : Int) - i < n) by omega) with h1 | ⟨h1, h2⟩ | ⟨h1, h2, h3⟩ | ⟨h1, h2, h3, h4⟩
  all_goals
    clear h
    go_enter Try.func13, Try.ntmps13
    go_wp2
    go_ret2
    exact ⟨rfl, rfl⟩

theorem RefOpen_yes (F : Fp) (r : Nat) (s : DkS) (f z : Nat) (w : World) (hk : Rk F w r s) (hb : s.1.length ≤ 65536) (hz : f + z ≤ s.1.length) (h1 : 1 ≤ z) (hw : s.2.1.length ≤ 100000000) (hn0 : 0 ≤ s.2.2) (hn1 : s.2.2 ≤ 1000000000) :
    Calls Try.prog 13 #[.pointer (some ⟨r, 0, none⟩), .int .i64 (f : Int), .int .i64 (z : Int)] w fun e w' =>
      ∃ m, e = .returned (.tuple #[.pointer (some ⟨m, 0, none⟩), .bool true]) ∧ RLD (F.since w w') w' m r (opD s f z) f z (recD s f z) ∧ Chg F w w' := by
  obtain ⟨A, c, c0⟩ := hk.cell0
  have HK := Lib.hid hk
  clear hk
  go_enter Try.func13, Try.ntmps13
  go_wp2_with fail
  have hE : Ext w (w.alloc (.cells #[.pointer (some ⟨r, 0, none⟩), .int .i64 (f : Int), .int .i64 (z : Int), .slice none 0 0] 47)) := (Below.refl _ _).alloc (Nat.le_refl _) _
  have hO := ObjF.new (w0 := w) (w := w) (rows := [⟨38, 1, .slice none 0 0, 0, []⟩]) (Nat.le_refl _) #[.pointer (some ⟨r, 0, none⟩), .int .i64 (f : Int), .int .i64 (z : Int), .slice none 0 0] 47
    (fun q hq => by
      obtain rfl := List.mem_singleton.1 hq
      exact ⟨World.ownsRow_nil _ _ _ _, fun k hk => by cases hk⟩) (by simp)
  generalize hm : w.heap.size = m at *
  generalize w.alloc _ = w0 at *
  refine (RkBytes F r s w0 (HK.out.ext0 hE) hb (by omega)).mono ?_
  rintro e w1 ⟨v1, rfl, hg1⟩
  have hlen := rdD_len s
  obtain ⟨g1, k1, hv1, hk1, _⟩ := hg1.form (by rw [List.length_map, hlen]; omega)
  rw [List.length_map, hlen] at hv1 hk1
  subst hv1
  have hr1 := (Rd.own hg1.own).cut f z (by rw [List.length_map, hlen]; exact hz)
  rw [if_neg (by omega), Option.map_some, Addr.add_lit, Nat.zero_add] at hr1
  have hp : (((rdD s).map B).drop f).take z = (pieceB (rdD s) f z).map B := by rw [pieceB, List.map_take, List.map_drop]
  rw [hp] at hr1
  have hpl := pieceB_len (b := rdD s) (f := f) (z := z) (by rw [hlen]; exact hz)
  have hend := recD_end s f z
  have HP := Lib.hid hpl
  have HE := Lib.hid hend
  have HG1 := Lib.hid hg1
  have HO := Lib.hid hO
  have HX := Lib.hid hE
  clear hp hpl hend hg1 hO hE
  go_wp2_with fail
  refine (RefFrameAll_any (pieceB (rdD s) f z) _ 0 w1 hr1 (by rw [HP.out]; omega)).mono ?_
  rintro e w2 ⟨v2, rfl, hown⟩
  obtain ⟨A2, c2, rfl, _, _⟩ := hown.rdl.sliceN rfl
  rw [HE.out]
  have hO2 := (HO.out.ext HG1.out.ext).ext hown.ext
  have e3 : w2.cell? ⟨m, 3, none⟩ = some (.slice none 0 0) := (ObjF.blk hO2).cell 3
  have f3 := (ObjF.blk hO2).frozen 3
  have HO2 := Lib.hid hO2
  have HW := Lib.hid hown
  clear hO2 hown hr1
  go_wp2_with fail
  obtain ⟨hL3, hc3⟩ := RLg.opened (r := r) (f := f) (z := z) (HO.out.ext HG1.out.ext) HW.out
  have hx2 : Ext w w2 := (HX.out.trans HG1.out.ext).trans HW.out.ext
  have hk3 : Rk F (w2.setCell ⟨m, 3, none⟩ (.slice A2 (recD s f z).length c2)) r s := (HK.out.ext0 hx2).chg hc3 (fun k hk e => by have := HK.out.isIn k hk; omega)
  have he := endD_le hz
  have hap : Fp.apart (fun k => m ≤ k ∧ k < w2.heap.size) F := fun k hk hF => by have := HK.out.isIn k hF; omega
  refine (RefZero_any F _ m r f z _ s (endD s f z) _ hk3 hL3 hap hz he hb hw hn0 hn1).mono ?_
  rintro e w4 ⟨rfl, hk4, hc4⟩
  have hL4 := hL3.chg hc4 hap
  have hs3 : (w2.setCell ⟨m, 3, none⟩ (.slice A2 (recD s f z).length c2)).heap.size = w2.heap.size := by simp
  have hs4 := hc4.size
  have hc04 : Chg F w w4 := ((Chg.of_ext (F := F) hx2).step (hc3.mono fun k _ e => .inr ⟨by omega, by have := (ObjF.blk HO2.out).lt; omega⟩)).trans hc4 (fun _ _ h => h)
  have hmlt := (ObjF.blk HO2.out).lt
  have hR : RLD (F.since w w4) w4 m r (opD s f z) f z (recD s f z) := by
    refine ⟨_, _, hk4, hL4, fun k hk hk2 => ?_, fun k hk => ?_, fun k hk => .inr ⟨by omega, by omega⟩, HK.out.isIn.since hc04.size⟩
    · rcases hk2 with hk2 | hk2
      · exact hap k hk hk2
      · omega
    · rcases hk with hk | hk
      · exact .inl hk
      · exact .inr ⟨by have := hx2.size; omega, hk.2⟩
  have HR := Lib.hid hR
  have HC := Lib.hid hc04
  clear hR hc04 hL4 hk4 hL3 hk3 hc3 hc4 hx2 hap hs3 hs4
  go_wp2
  go_ret2
  exact ⟨m, rfl, HR.out, HC.out⟩

end Go.Proofs.Ytnihgpdkolmkgaa

/- Layer 5, the reference: a log is put to, appended to, cleared. -/
namespace Go.Proofs.Ytnihgpdkolmkgaa
open Go.RowKit

theorem Chg.undrew {F : Fp} {a b : World} (h : Chg F a.drew b) : Chg F a b := ⟨h.os, h.tape, h.output, h.size, h.block⟩

theorem stepPush_row {w : World} {ops : Array Oper} {o : Oper} {a : Act} {K : Act → World → Prop} {Q : Exit → Act → World → Prop} {E : Prop} {gx : Nat} (s x : Operand)
    (hop : o.op = .call { callee := .builtin .append, args := #[s, x], argTypes := #[30, 30] }) (hw : Region.wanted o (yielded ops a.tmps) = true)
    (v : Value) (xs : List Value) (hown : w.ownsRow 0 38 1 v xs.length xs) (hs : a.eval s = v) (u : Value) (hu : u.oneCell' = true)
    (hx : a.eval x = .slice (some ⟨gx, 0, none⟩) 1 1) (hgx : gx = w.heap.size) (hn : xs.length ≤ 1000000000) (h : ∀ v' w', Grew 0 38 v w (xs ++ [u]) v' w' → K (a.put o.dst v') w') :
    if Region.wanted o (yielded ops a.tmps) = true then Oper.wp Try.prog o a (w.alloc (.cells #[u] 38)) K Q else E :=
  step_pushN s x 30 hop hw 0 38 (.slice none 0 0) 1 24 Try.underlying30 Try.infoRow rfl (by omega) v xs.length xs hown hs #[u] rfl
    (fun z hz => by
      obtain rfl := List.mem_singleton.1 hz
      exact hu) hx hgx (by unfold maxLen; omega) (by omega) (Nat.zero_le _) (fun v' w' hg => h v' w' ⟨by rw [List.length_append]; exact hg.1, hg.2⟩)

section
variable {F G : Fp} {w w' : World} {m r f z : Nat} {L : List (List UInt8)} {vL : Value} {vs : List Value}
/-- One record more. -/
theorem RLg0.pushed {w1 w2 : World} {v1 v2 : Value} {p : List UInt8} (h : RLg0 G w m r f z L vL vs) (hg : Grew w.heap.size 5 (.slice none 0 0) w (p.map B) v1 w1) (hn : Grew 0 38 vL w1 (vs ++ [v1]) v2 w2) :
    RLg (G.since w (w2.setCell ⟨m, 3, none⟩ v2)) (w2.setCell ⟨m, 3, none⟩ v2) m r f z (L ++ [p]) ∧ Chg G w (w2.setCell ⟨m, 3, none⟩ v2) := by
  have h1 := h.ext hg.ext
  obtain ⟨h2, h3⟩ := ObjF.push h1.1 0 3 (by simp) rfl hn
  have hs1 : w.heap.size ≤ w1.heap.size := hg.size
  have hs2 : w1.heap.size ≤ w2.heap.size := hn.size
  have hs3 : (w2.setCell ⟨m, 3, none⟩ v2).heap.size = w2.heap.size := by simp
  have hmG := h.1.here
  have hmlt := h.blk.lt
  have hcn : Chg (fun k => vL.ownBlock = some k) w1 w2 := Chg.of_grown hn.2.1 (fun k hk => hk)
  have hcm : Chg (fun k => k = m) w2 (w2.setCell ⟨m, 3, none⟩ v2) := (Chg.refl _ w2).setCell (fun _ => rfl)
  have hin := ObjF.isIn h.1
  refine ⟨⟨v2, vs ++ [v1], h2.mono (fun k hk => ?_) (hin.since (by omega)), by rw [List.length_append, List.length_append, h.2.1]; rfl, fun i u l hu hl => ?_⟩, ?_⟩
  · rcases hk with hk | hk
    · exact .inl hk
    · exact .inr ⟨by omega, by omega⟩
  · have hblk : v2.ownBlock = vL.ownBlock ∨ ∀ k, v2.ownBlock = some k → w1.heap.size ≤ k := hn.2.2
    by_cases hi : i < vs.length
    · rw [List.getElem?_append_left hi] at hu
      rw [List.getElem?_append_left (by rw [← h.2.1]; exact hi)] at hl
      have he := ((h1.2.2 i u l hu hl).chg hcn (fun k hk e => hk.2.2 e.symm)).chg hcm (fun k hk e => hk.2.1 e)
      refine he.mono fun k hk => ⟨.inl hk.1, hk.2.1, fun e => ?_⟩
      rcases hblk with hb | hb
      · exact hk.2.2 (by rw [e, hb])
      · have := hb k e.symm
        have := hin k hk.1
        omega
    · have hi2 : i = vs.length := by
        have := (List.getElem?_eq_some_iff.1 hu).1
        rw [List.length_append, List.length_singleton] at this
        omega
      subst hi2
      rw [List.getElem?_append_right (Nat.le_refl _), Nat.sub_self] at hu
      rw [h.2.1, List.getElem?_append_right (Nat.le_refl _), Nat.sub_self] at hl
      simp only [List.getElem?_cons_zero, Option.some.injEq] at hu hl
      subst hu hl
      have h0 := (RowF.made hg).rdF
      have he := (h0.chg hcn (fun k hk e => by have := (h.row.lt k e).2; omega)).chg hcm (fun k hk e => by omega)
      refine he.mono fun k hk => ⟨.inr ⟨hk.1, by omega⟩, by omega, fun e => ?_⟩
      rcases hblk with hb | hb
      · have := (h.row.lt k (by rw [← hb]; exact e.symm)).2
        omega
      · have := hb k e.symm
        omega
  · exact (Chg.of_ext (F := G) hg.ext).trans h3 (fun _ _ h => h)
theorem RLg0.blkL {w2 : World} {v2 : Value} {xs : List Value} (h : RLg0 G w m r f z L vL vs) (hn : Grew 0 38 vL w xs v2 w2) : w2.cell? ⟨m, 3, none⟩ = some vL ∧ w2.frozen? ⟨m, 3, none⟩ = false := by
  have hb := (ObjF.blk h.1).grown hn.2.1 (fun e => ObjF.off h.1 ⟨38, 1, vL, vs.length, vs⟩ (by simp) e.symm)
  exact ⟨hb.cell 3, hb.frozen 3⟩
end

theorem RefLogPut_no (F : Fp) (m r f z : Nat) (L : List (List UInt8)) (s : DkS) (p : List UInt8) (v : Value) (w : World) (hd : RLD F w m r s f z L) (hr : Rd w v (p.map B)) (hp : ¬ okP p) :
    Calls Try.prog 21 #[.pointer (some ⟨m, 0, none⟩), v] w fun e w' => e = .returned (.int .i64 1) ∧ Ext w w' := by
  obtain ⟨A, c, rfl, hlc, hcm⟩ := hr.sliceN (List.length_map _)
  have hf : frameB p = [] := frameB_no hp
  have KF := RefFrame_any p _ w hr
  rw [hf] at KF
  have HF := Lib.hid KF
  clear hd hr KF hf hp
  go_enter Try.func21, Try.ntmps21
  go_wp2_with fail
  refine HF.out.mono ?_
  rintro e w1 ⟨v1, rfl, hg1⟩
  obtain ⟨A1, k1, rfl⟩ := hg1.slice_ (n := 0) (by simp)
  have hx := hg1.ext
  clear hg1
  go_wp2
  go_ret
  exact ⟨rfl, hx⟩

/-- What is read of the log's struct, however much memory is made. -/
theorem RLg0.facts {G : Fp} {w w' : World} {m r f z : Nat} {L : List (List UInt8)} {A : Option Addr} {n c : Nat} {vs : List Value} (h : RLg0 G w m r f z L (.slice A n c) vs) (hx : Ext w w') :
    w'.cell? ⟨m, 0, none⟩ = some (.pointer (some ⟨r, 0, none⟩)) ∧ w'.cell? ⟨m, 1, none⟩ = some (.int .i64 (f : Int)) ∧ w'.cell? ⟨m, 2, none⟩ = some (.int .i64 (z : Int)) ∧ w'.cell? ⟨m, 3, none⟩ = some (.slice A n c) := by
  have h' := (h.ext hx).blk
  exact ⟨h'.cell 0, h'.cell 1, h'.cell 2, h'.cell 3⟩

theorem RefLogPut_full (F : Fp) (m r f z : Nat) (L : List (List UInt8)) (s : DkS) (p : List UInt8) (v : Value) (w : World) (hd : RLD F w m r s f z L) (hr : Rd w v (p.map B)) (hp : okP p) (hf : z - (catF L).length < (frameB p).length)
    (hu : (catF L).length ≤ z) (hz : z ≤ 65536) (hn : L.length ≤ 1000000) :
    Calls Try.prog 21 #[.pointer (some ⟨m, 0, none⟩), v] w fun e w' => e = .returned (.int .i64 3) ∧ Ext w w' := by
  obtain ⟨F1, F2, hk, ⟨vL, vs, hl⟩, h3, h4, h5, h6⟩ := hd
  obtain ⟨AL, cL, rfl, _, _⟩ := hl.rdlF.rdl.sliceN rfl
  obtain ⟨A, c, rfl, hlc, hcm⟩ := hr.sliceN (List.length_map _)
  have KF := RefFrame_any p _ w hr
  have hfl := frameB_len hp
  have h8 := numB_len8 (n := p.length) (by omega)
  obtain ⟨q, hq⟩ : ∃ q, q = (frameB p).length := ⟨_, rfl⟩
  obtain ⟨n, hcn⟩ : ∃ n, n = (catF L).length := ⟨_, rfl⟩
  obtain ⟨X, hX⟩ : ∃ X : Int, X = ((z - n : Nat) : Int) := ⟨_, rfl⟩
  have w1 : IntKind.i64.wrap ((z : Int) - (n : Int)) = X := by rw [IntKind.wrap_i64]; omega
  have q1 : X < (q : Int) := by omega
  have q0 : 0 < q := by omega
  have KU := fun w' (hx : Ext w w') => RefUsed_any F2 m r f z L w' ⟨_, _, hl.ext hx⟩ (by omega) (by omega)
  simp only [← hcn] at KU
  have HK := Lib.hid KU
  have HF := Lib.hid KF
  have HL := Lib.hid hl
  have HQ := Lib.hid hq
  clear hq hl hk h3 h4 h5 h6 KF KU hr hf hu hfl h8 hcn hX hp
  go_enter Try.func21, Try.ntmps21
  go_wp2_with fail
  refine HF.out.mono ?_
  rintro e w2 ⟨v1, rfl, hg1⟩
  obtain ⟨A1, k1, rfl⟩ := hg1.slice_ (n := q) (by rw [List.length_map, HQ.out])
  have hx1 := hg1.ext.trans (Ext.dr (Ext.refl w2))
  clear hg1
  go_wp2_with fail
  obtain ⟨c0, c1, c2, c3⟩ := HL.out.facts hx1
  have KU1 := HK.out _ hx1
  go_region_law (go_simp; (go_at_call 25; refine KU1.mono ?_; rintro e w3 ⟨rfl, hx3⟩; have hx4 := hx1.trans hx3; have hc4 := HL.out.facts hx4; have d2 := hc4.2.2.1))
  all_goals
    go_wp2
    go_ret
    exact ⟨rfl, hx4⟩

set_option maxHeartbeats 1000000 in
theorem RefLogPut_yes (F : Fp) (m r f z : Nat) (L : List (List UInt8)) (s : DkS) (H : Fp) (p : List UInt8) (v : Value) (w : World) (hd : RLD F w m r s f z L) (hr : RdF H w v (p.map B)) (ha : H.apart F) (hH : H.isIn w) (hp : okP p) (hf : (frameB p).length ≤ z - (catF L).length)
    (hb : s.1.length ≤ 65536) (hz : f + z ≤ s.1.length) (hu : (catF L).length ≤ z) (hw : s.2.1.length ≤ 100000000) (hn : L.length ≤ 1000000) :
    Calls Try.prog 21 #[.pointer (some ⟨m, 0, none⟩), v] w fun e w' => e = .returned (.int .i64 0) ∧ RLD (F.since w w') w' m r (ptD s f (catF L).length p) f z (L ++ [p]) ∧ Chg F w w' := by
  obtain ⟨F1, F2, hk, ⟨vL, vs, hl⟩, h3, h4, h5, h6⟩ := hd
  obtain ⟨AL, cL, rfl, _, _⟩ := hl.rdlF.rdl.sliceN rfl
  obtain ⟨A, c, rfl, hlc, hcm⟩ := hr.rd.sliceN (List.length_map _)
  have KF := RefFrame_any p _ w hr.rd
  have hfl := frameB_len hp
  have h8 := numB_len8 (n := p.length) (by omega)
  have hvl := hl.2.1
  obtain ⟨q, hq⟩ : ∃ q, q = (frameB p).length := ⟨_, rfl⟩
  obtain ⟨n, hcn⟩ : ∃ n, n = (catF L).length := ⟨_, rfl⟩
  obtain ⟨X, hX⟩ : ∃ X : Int, X = ((z - n : Nat) : Int) := ⟨_, rfl⟩
  have ww1 : IntKind.i64.wrap ((z : Int) - (n : Int)) = X := by rw [IntKind.wrap_i64]; omega
  obtain ⟨Y, hY⟩ : ∃ Y : Int, Y = ((f + n : Nat) : Int) := ⟨_, rfl⟩
  have ww2 : IntKind.i64.wrap ((f : Int) + (n : Int)) = Y := by rw [IntKind.wrap_i64]; omega
  have q1 : (q : Int) ≤ X := by omega
  have q0 : 0 < q := by omega
  have p0 : 0 < p.length := hp.1
  have p4 : p.length ≤ 4000 := hp.2
  have KU := fun w' (hx : Ext w w') => RefUsed_any F2 m r f z L w' ⟨_, _, hl.ext hx⟩ (by omega) (by omega)
  simp only [← hcn] at KU
  have KW := fun (w' : World) (hx : Ext w w') (v1 : Value) (H1 : Fp) (hr1 : RdF H1 w' v1 ((frameB p).map B)) (ha1 : H1.apart F1) (hi1 : H1.isIn w') => RkWrite F1 H1 r s Y v1 (frameB p) w' (hk.ext0 hx) hr1 ha1 hi1 hb (by omega)
  have hsd : wrD s Y (frameB p) = ptD s f (catF L).length p := by rw [ptD, hY, hcn]
  have hkin := hk.isIn
  have HK := Lib.hid KU
  have HW := Lib.hid KW
  have HF := Lib.hid KF
  have HL := Lib.hid hl
  have HQ := Lib.hid hq
  have HS := Lib.hid hsd
  have HR := Lib.hid hr
  have H34 := Lib.hid (And.intro h3 (And.intro h4 (And.intro h5 h6)))
  have HKI := Lib.hid hkin
  have HVL := Lib.hid hvl
  have HI2 := Lib.hid (ObjF.isIn hl.1)
  have HIF := Lib.hid h6
  have HA := Lib.hid ha
  have vlen : vs.length ≤ 1000000000 := by omega
  clear hq hl hk h3 h4 h5 h6 KF KU KW hr hf hu hfl h8 hcn hX hY hp hsd hkin hvl ha hH hb hz hw hn
  go_enter Try.func21, Try.ntmps21
  go_wp2_with fail
  refine HF.out.mono ?_
  rintro e w2 ⟨v1, rfl, hg1⟩
  obtain ⟨A1, k1, rfl⟩ := hg1.slice_ (n := q) (by rw [List.length_map, HQ.out])
  have hx1 := hg1.ext.trans (Ext.dr (Ext.refl w2))
  have hrf := RdF.made0 hg1
  have HRF := Lib.hid hrf
  have hs2 : w.heap.size ≤ w2.heap.size := hg1.size
  clear hg1 hrf
  go_wp2_with fail
  refine held_begin (by kernel_rfl) ?_
  have hHeld0 : True := True.intro
  refine held_more (S' := fun w' : World => w'.cell? ⟨m, 0, none⟩ = some (.pointer (some ⟨r, 0, none⟩)) ∧ w'.cell? ⟨m, 1, none⟩ = some (.int .i64 (f : Int)) ∧ w'.cell? ⟨m, 2, none⟩ = some (.int .i64 (z : Int)) ∧ w'.cell? ⟨m, 3, none⟩ = some (.slice AL L.length cL)) (fun _ _ => trivial) ?_
  have hHeld1 : (fun w' : World => w'.cell? ⟨m, 0, none⟩ = some (.pointer (some ⟨r, 0, none⟩)) ∧ w'.cell? ⟨m, 1, none⟩ = some (.int .i64 (f : Int)) ∧ w'.cell? ⟨m, 2, none⟩ = some (.int .i64 (z : Int)) ∧ w'.cell? ⟨m, 3, none⟩ = some (.slice AL L.length cL)) _ := (HL.out.facts hx1)
  clear hHeld0
  refine held_take (i := 0) (v := ?_) rfl (by kernel_rfl) (by kernel_rfl) (by kernel_rfl) (by rfl) (by first | assumption | exact True.intro) ?_ ?_
  rotate_left
  · (intro w hSw; (try dsimp only at hSw); go_simp; (try with_reducible rfl))
  try simp only [Act.put, List.setIfInBounds_toArray, List.set_cons_zero, List.set_cons_succ]
  refine held_take (i := 1) (v := ?_) rfl (by kernel_rfl) (by kernel_rfl) (by kernel_rfl) (by rfl) (by first | assumption | exact True.intro) ?_ ?_
  rotate_left
  · (intro w hSw; (try dsimp only at hSw); go_simp; (try with_reducible rfl))
  try simp only [Act.put, List.setIfInBounds_toArray, List.set_cons_zero, List.set_cons_succ]
  refine held_take (i := 2) (v := ?_) rfl (by kernel_rfl) (by kernel_rfl) (by kernel_rfl) (by rfl) (by first | assumption | exact True.intro) ?_ ?_
  rotate_left
  · (intro w hSw; (try dsimp only at hSw); go_simp; (try with_reducible rfl))
  try simp only [Act.put, List.setIfInBounds_toArray, List.set_cons_zero, List.set_cons_succ]
  refine held_take (i := 3) (v := ?_) rfl (by kernel_rfl) (by kernel_rfl) (by kernel_rfl) (by rfl) (by first | assumption | exact True.intro) ?_ ?_
  rotate_left
  · (intro w hSw; (try dsimp only at hSw); go_simp; (try with_reducible rfl))
  try simp only [Act.put, List.setIfInBounds_toArray, List.set_cons_zero, List.set_cons_succ]
  refine held_take (i := 4) (v := ?_) rfl (by kernel_rfl) (by kernel_rfl) (by kernel_rfl) (by rfl) (by first | assumption | exact True.intro) ?_ ?_
  rotate_left
  · (intro w hSw; (try dsimp only at hSw); go_simp; (try with_reducible rfl))
  try simp only [Act.put, List.setIfInBounds_toArray, List.set_cons_zero, List.set_cons_succ]
  refine held_take (i := 5) (v := ?_) rfl (by kernel_rfl) (by kernel_rfl) (by kernel_rfl) (by rfl) (by first | assumption | exact True.intro) ?_ ?_
  rotate_left
  · (intro w hSw; (try dsimp only at hSw); go_simp; (try with_reducible rfl))
  try simp only [Act.put, List.setIfInBounds_toArray, List.set_cons_zero, List.set_cons_succ]
  refine held_take (i := 6) (v := ?_) rfl (by kernel_rfl) (by kernel_rfl) (by kernel_rfl) (by rfl) (by first | assumption | exact True.intro) ?_ ?_
  rotate_left
  · (intro w hSw; (try dsimp only at hSw); go_simp; (try with_reducible rfl))
  try simp only [Act.put, List.setIfInBounds_toArray, List.set_cons_zero, List.set_cons_succ]
  refine held_op (i := 7) (by kernel_rfl) rfl (fun K hK => ?_)
  go_simp
  go_at_call 25
  (with_reducible refine (HK.out _ hx1).mono ?_)
  rintro e w3 ⟨rfl, hx3⟩
  have hx4 := hx1.trans hx3
  refine hK _ _ ?_ (fun hHeld2 => ?_)
  · exact (HL.out.facts hx4)
  clear hK K hHeld1
  try simp only [Act.put, List.setIfInBounds_toArray, List.set_cons_zero, List.set_cons_succ]
  refine held_take (i := 8) (v := ?_) rfl (by kernel_rfl) (by kernel_rfl) (by kernel_rfl) (by rfl) (by first | assumption | exact True.intro) ?_ ?_
  rotate_left
  · (intro w hSw; (try dsimp only at hSw); go_simp; (try with_reducible rfl))
  try simp only [Act.put, List.setIfInBounds_toArray, List.set_cons_zero, List.set_cons_succ]
  refine held_take (i := 9) (v := ?_) rfl (by kernel_rfl) (by kernel_rfl) (by kernel_rfl) (by rfl) (by first | assumption | exact True.intro) ?_ ?_
  rotate_left
  · (intro w hSw; (try dsimp only at hSw); go_simp; (try with_reducible rfl))
  try simp only [Act.put, List.setIfInBounds_toArray, List.set_cons_zero, List.set_cons_succ]
  refine wpAnyH_done (by kernel_rfl) ?_ _
  refine NoPanic.normal ?_
  clear hHeld2
  have hx5 := hx4.trans (Ext.dr (Ext.refl w3))
  have HX23 : Hid (Ext w2 w3) := Lib.hid ((Ext.dr (Ext.refl w2)).trans hx3)
  clear hx3 hx4 hx1
  have KW1 : ∀ w4, Ext w3.drew w4 → Calls Try.prog 43 #[.pointer (some ⟨r, 0, none⟩), .int .i64 Y, .slice A1 q k1] w4 fun e w' => e = .returned (.int .i64 (wrE s.1.length Y (frameB p).length)) ∧ Rk (F1.since w4 w') w' r (wrD s Y (frameB p)) ∧ Chg F1 w4 w' :=
    fun w4 hx => HW.out w4 (hx5.trans hx) _ (fun k => w.heap.size ≤ k ∧ k < w2.heap.size) (HRF.out.chg (G := fun _ => False) (Chg.of_ext ((HX23.out.trans (Ext.dr (Ext.refl w3))).trans hx)) (fun _ _ h => h)) (fun k hk1 hk2 => by have := HKI.out k hk2; omega) (fun k hk1 => by have := HX23.out.size; have := hx.size; have : w3.drew.heap.size = w3.heap.size := rfl; omega)
  go_wp2_with fail
  refine held_begin (by kernel_rfl) ?_
  have hHeld0 : True := True.intro
  refine held_more (S' := fun w' : World => w'.cell? ⟨m, 0, none⟩ = some (.pointer (some ⟨r, 0, none⟩)) ∧ w'.cell? ⟨m, 1, none⟩ = some (.int .i64 (f : Int)) ∧ w'.cell? ⟨m, 2, none⟩ = some (.int .i64 (z : Int)) ∧ w'.cell? ⟨m, 3, none⟩ = some (.slice AL L.length cL)) (fun _ _ => trivial) ?_
  have hHeld1 : (fun w' : World => w'.cell? ⟨m, 0, none⟩ = some (.pointer (some ⟨r, 0, none⟩)) ∧ w'.cell? ⟨m, 1, none⟩ = some (.int .i64 (f : Int)) ∧ w'.cell? ⟨m, 2, none⟩ = some (.int .i64 (z : Int)) ∧ w'.cell? ⟨m, 3, none⟩ = some (.slice AL L.length cL)) _ := (HL.out.facts hx5)
  clear hHeld0
  refine held_take (i := 0) (v := ?_) rfl (by kernel_rfl) (by kernel_rfl) (by kernel_rfl) (by rfl) (by first | assumption | exact True.intro) ?_ ?_
  rotate_left
  · (intro w hSw; (try dsimp only at hSw); go_simp; (try with_reducible rfl))
  try simp only [Act.put, List.setIfInBounds_toArray, List.set_cons_zero, List.set_cons_succ]
  refine held_take (i := 1) (v := ?_) rfl (by kernel_rfl) (by kernel_rfl) (by kernel_rfl) (by rfl) (by first | assumption | exact True.intro) ?_ ?_
  rotate_left
  · (intro w hSw; (try dsimp only at hSw); go_simp; (try with_reducible rfl))
  try simp only [Act.put, List.setIfInBounds_toArray, List.set_cons_zero, List.set_cons_succ]
  refine held_take (i := 2) (v := ?_) rfl (by kernel_rfl) (by kernel_rfl) (by kernel_rfl) (by rfl) (by first | assumption | exact True.intro) ?_ ?_
  rotate_left
  · (intro w hSw; (try dsimp only at hSw); go_simp; (try with_reducible rfl))
  try simp only [Act.put, List.setIfInBounds_toArray, List.set_cons_zero, List.set_cons_succ]
  refine held_take (i := 3) (v := ?_) rfl (by kernel_rfl) (by kernel_rfl) (by kernel_rfl) (by rfl) (by first | assumption | exact True.intro) ?_ ?_
  rotate_left
  · (intro w hSw; (try dsimp only at hSw); go_simp; (try with_reducible rfl))
  try simp only [Act.put, List.setIfInBounds_toArray, List.set_cons_zero, List.set_cons_succ]
  refine held_take (i := 4) (v := ?_) rfl (by kernel_rfl) (by kernel_rfl) (by kernel_rfl) (by rfl) (by first | assumption | exact True.intro) ?_ ?_
  rotate_left
  · (intro w hSw; (try dsimp only at hSw); go_simp; (try with_reducible rfl))
  try simp only [Act.put, List.setIfInBounds_toArray, List.set_cons_zero, List.set_cons_succ]
  refine held_take (i := 5) (v := ?_) rfl (by kernel_rfl) (by kernel_rfl) (by kernel_rfl) (by rfl) (by first | assumption | exact True.intro) ?_ ?_
  rotate_left
  · (intro w hSw; (try dsimp only at hSw); go_simp; (try with_reducible rfl))
  try simp only [Act.put, List.setIfInBounds_toArray, List.set_cons_zero, List.set_cons_succ]
  refine held_take (i := 6) (v := ?_) rfl (by kernel_rfl) (by kernel_rfl) (by kernel_rfl) (by rfl) (by first | assumption | exact True.intro) ?_ ?_
  rotate_left
  · (intro w hSw; (try dsimp only at hSw); go_simp; (try with_reducible rfl))
  try simp only [Act.put, List.setIfInBounds_toArray, List.set_cons_zero, List.set_cons_succ]
  refine held_take (i := 7) (v := ?_) rfl (by kernel_rfl) (by kernel_rfl) (by kernel_rfl) (by rfl) (by first | assumption | exact True.intro) ?_ ?_
  rotate_left
  · (intro w hSw; (try dsimp only at hSw); go_simp; (try with_reducible rfl))
  try simp only [Act.put, List.setIfInBounds_toArray, List.set_cons_zero, List.set_cons_succ]
  refine held_take (i := 8) (v := ?_) rfl (by kernel_rfl) (by kernel_rfl) (by kernel_rfl) (by rfl) (by first | assumption | exact True.intro) ?_ ?_
  rotate_left
  · (intro w hSw; (try dsimp only at hSw); go_simp; (try with_reducible rfl))
  try simp only [Act.put, List.setIfInBounds_toArray, List.set_cons_zero, List.set_cons_succ]
  refine held_take (i := 11) (v := ?_) rfl (by kernel_rfl) (by kernel_rfl) (by kernel_rfl) (by rfl) (by first | assumption | exact True.intro) ?_ ?_
  rotate_left
  · (intro w hSw; (try dsimp only at hSw); go_simp; (try with_reducible rfl))
  try simp only [Act.put, List.setIfInBounds_toArray, List.set_cons_zero, List.set_cons_succ]
  refine held_op (i := 9) (by kernel_rfl) rfl (fun K hK => ?_)
  go_simp
  go_at_call 25
  (with_reducible refine (HK.out _ hx5).mono ?_)
  rintro e w4 ⟨rfl, hx6⟩
  have hx7 := hx5.trans hx6
  refine hK _ _ ?_ (fun hHeld2 => ?_)
  · exact (HL.out.facts hx7)
  clear hK K hHeld1
  try simp only [Act.put, List.setIfInBounds_toArray, List.set_cons_zero, List.set_cons_succ]
  refine held_take (i := 10) (v := ?_) rfl (by kernel_rfl) (by kernel_rfl) (by kernel_rfl) (by rfl) (by first | assumption | exact True.intro) ?_ ?_
  rotate_left
  · (intro w hSw; (try dsimp only at hSw); go_simp; (try with_reducible rfl))
  try simp only [Act.put, List.setIfInBounds_toArray, List.set_cons_zero, List.set_cons_succ]
  refine held_op (i := 12) (by kernel_rfl) rfl (fun K hK => ?_)
  go_simp
  go_at_call 43
  (with_reducible refine (KW1 _ hx6).mono ?_)
  rintro e w5 ⟨rfl, hk5, hc5⟩
  have hl5 := (HL.out.ext hx7).chg hc5 H34.out.1
  refine hK _ _ ?_ (fun hHeld3 => ?_)
  · exact (hl5.facts (Ext.refl w5))
  clear hK K hHeld2
  try simp only [Act.put, List.setIfInBounds_toArray, List.set_cons_zero, List.set_cons_succ]
  refine wpAnyH_done (by kernel_rfl) ?_ _
  refine NoPanic.normal ?_
  clear hHeld3
  have hs7 : w.heap.size ≤ w4.heap.size := hx7.size
  have hl5 : RLg0 F2 w5 m r f z L (.slice AL L.length cL) vs := (HL.out.ext hx7).chg hc5 H34.out.1
  have hl6 := hl5.ext (Ext.dr (Ext.refl w5))
  have hr6 : Rd w5.drew (.slice A p.length c) (p.map B) := (((HR.out.chg (G := fun _ => False) (Chg.of_ext hx7) (fun _ _ h => h)).chg hc5 (fun k hk hk2 => HA.out k hk (H34.out.2.1 k hk2))).rd).ext (Ext.dr (Ext.refl w5))
  have c3 : w5.drew.cell? ⟨m, 3, none⟩ = some (.slice AL L.length cL) := (hl6.facts (Ext.refl _)).2.2.2
  have hlt : m < w5.heap.size := hl6.blk.lt
  have c3' : w5.cell? ⟨m, 3, none⟩ = some (.slice AL L.length cL) := c3
  have hxa : ∀ (o : Obj), Ext w5.drew (w5.drew.alloc o) := fun o => (Below.refl _ _).alloc (Nat.le_refl _) o
  have hr7 := hr6.ext (hxa (.cells #[] 5))
  have hv0 : Rd (w5.drew.alloc (.cells #[] 5)) (.slice (some ⟨w5.drew.heap.size, 0, none⟩) 0 0) (([] : List UInt8).map B) := ⟨_, 0, rfl, Nat.le_refl _, Nat.zero_le _, fun h => absurd h (by simp)⟩
  have u1 : 0 < 0 + p.length := by omega
  have u2 : ([] : List UInt8).length + p.length ≤ 140737488355328 := by rw [List.length_nil]; omega
  have uOne : ∀ (A : Option Addr) (n c : Nat), (Value.slice A n c).oneCell' = true := fun _ _ _ => rfl
  have HL6 := Lib.hid hl6
  have HK5 := Lib.hid hk5
  have HC5 := Lib.hid hc5
  clear hl5 hl6 hr6 hk5 hc5
  go_wp2_with fail
  go_region_law (first | ((refine stepG_u8 (.tmp 39) (.tmp 40) ?_ ?_ w5.drew.heap.size 0 0 0 [] ?_ hv0 (.slice A p.length c) p ?_ hr7 u1 u2 ?_; rfl; rfl; rfl; rfl; intro v7 w7 hg7; rw [List.nil_append] at hg7; obtain ⟨A7, k7, rfl⟩ := hg7.slice_ (List.length_map _); have hg8 := Grew.from_ext (hxa (.cells #[] 5)) hg7; have hl7 := HL6.out.ext hg8.ext; have d3 := (hl7.facts (Ext.refl _)).2.2.2; have hlt7 := hl7.blk.lt; have hown7 := hl7.row; have hu7 := uOne A7 p.length k7)) | ((refine stepPush_row (gx := w7.heap.size) (.tmp 38) (.tmp 42) ?_ ?_ (.slice AL L.length cL) vs hown7 ?_ (.slice A7 p.length k7) hu7 ?_ ?_ vlen ?_; rfl; rfl; rfl; rfl; rfl; intro v8 w8 hg9; have hb8 := hl7.blkL hg9; have b3 := hb8.1; have g3 := hb8.2; obtain ⟨A8, k8, rfl⟩ := hg9.slice_ (by rw [List.length_append, HVL.out]))))
  all_goals
    obtain ⟨hR, hc9⟩ := HL6.out.pushed hg8 hg9
    have hc9' := Chg.undrew hc9
    have hF2 : F2.isIn w4 := fun k hk => Nat.lt_of_lt_of_le (HI2.out k hk) hs7
    have hap : Fp.apart (F1.since w4 w5) F2 := Fp.apart.since (H34.out.1.symm) hF2
    have hkk := HK5.out.chg hc9' hap
    rw [HS.out] at hkk
    have hs5 := HC5.out.size
    have hs9 := hc9'.size
    have hcw := (((Chg.of_ext (F := F) hx7).trans (HC5.out.mono (G := F) fun k _ hk => H34.out.2.1 k hk) (fun _ _ h => h)).trans (hc9'.mono (G := F) fun k _ hk => H34.out.2.2.1 k hk) (fun _ _ h => h))
    have HCW := Lib.hid hcw
    have HKK := Lib.hid hkk
    have HRR := Lib.hid hR
    have HF2 := Lib.hid hF2
    clear hR hc9 hc9' hap hkk hcw hg8 hg9 hg7 hl7 hown7 hb8 b3 g3 d3 hF2
    go_wp2
    go_ret
    refine ⟨rfl, ⟨_, _, HKK.out, HRR.out, fun k hk2 hk1 => ?_, fun k hk => ?_, fun k hk => ?_, HIF.out.since HCW.out.size⟩, HCW.out⟩
    · rcases hk2 with hk2 | hk2
      · rcases hk1 with hk1 | hk1
        · exact H34.out.1 k hk2 hk1
        · have := HF2.out k hk2
          omega
      · have hd : w5.drew.heap.size = w5.heap.size := rfl
        rcases hk1 with hk1 | hk1
        · have := HKI.out k hk1
          omega
        · omega
    · rcases hk with hk | hk
      · exact .inl (H34.out.2.1 k hk)
      · exact .inr ⟨Nat.le_trans hs7 hk.1, Nat.lt_of_lt_of_le hk.2 hs9⟩
    · have hd : w5.drew.heap.size = w5.heap.size := rfl
      rcases hk with hk | hk
      · exact .inl (H34.out.2.2.1 k hk)
      · exact .inr ⟨by omega, hk.2⟩

theorem RefLogPut (F : Fp) (m r f z : Nat) (L : List (List UInt8)) (s : DkS) (H : Fp) (p : List UInt8) (v : Value) (w : World) (hd : RLD F w m r s f z L) (hr : RdF H w v (p.map B)) (ha : H.apart F) (hH : H.isIn w)
    (hb : s.1.length ≤ 65536) (hz : f + z ≤ s.1.length) (hu : (catF L).length ≤ z) (hw : s.2.1.length ≤ 100000000) (hn : L.length ≤ 1000000) :
    Calls Try.prog 21 #[.pointer (some ⟨m, 0, none⟩), v] w fun e w' => e = .returned (.int .i64 (putE z (catF L).length p)) ∧
      RLD (F.since w w') w' m r (if putE z (catF L).length p = 0 then ptD s f (catF L).length p else s) f z (if putE z (catF L).length p = 0 then L ++ [p] else L) ∧ Chg F w w' := by
  have hin := hd.isIn
  by_cases hp : okP p
  · by_cases hf : z - (catF L).length < (frameB p).length
    · have he : putE z (catF L).length p = 3 := by rw [putE, if_neg (by rw [frameB_nil]; omega), if_pos hf]
      rw [he, if_neg (by decide), if_neg (by decide)]
      refine (RefLogPut_full F m r f z L s p v w hd hr.rd hp hf hu (by omega) hn).mono ?_
      rintro e w' ⟨rfl, hx⟩
      exact ⟨rfl, (hd.ext hx).mono (fun k hk => .inl hk) (hin.since hx.size), Chg.of_ext hx⟩
    · have he : putE z (catF L).length p = 0 := by rw [putE, if_neg (by rw [frameB_nil]; omega), if_neg hf]
      rw [he, if_pos rfl, if_pos rfl]
      exact RefLogPut_yes F m r f z L s H p v w hd hr ha hH hp (by omega) hb hz hu hw hn
  · have he : putE z (catF L).length p = 1 := by rw [putE, if_pos (frameB_no hp)]
    rw [he, if_neg (by decide), if_neg (by decide)]
    refine (RefLogPut_no F m r f z L s p v w hd hr.rd hp).mono ?_
    rintro e w' ⟨rfl, hx⟩
    exact ⟨rfl, (hd.ext hx).mono (fun k hk => .inl hk) (hin.since hx.size), Chg.of_ext hx⟩

end Go.Proofs.Ytnihgpdkolmkgaa

/- Layer 5, the reference: a log is appended to, cleared. -/
namespace Go.Proofs.Ytnihgpdkolmkgaa
open Go.RowKit

theorem RefLogAppend (F : Fp) (m r f z : Nat) (L : List (List UInt8)) (s : DkS) (H : Fp) (p : List UInt8) (v : Value) (w : World) (hd : RLD F w m r s f z L) (hr : RdF H w v (p.map B)) (ha : H.apart F) (hH : H.isIn w)
    (hb : s.1.length ≤ 65536) (hz : f + z ≤ s.1.length) (hu : (catF L).length ≤ z) (hw : s.2.1.length ≤ 10000000) (hn : L.length ≤ 1000000) (hn0 : 0 ≤ s.2.2) (hn1 : s.2.2 ≤ 1000000000) :
    Calls Try.prog 19 #[.pointer (some ⟨m, 0, none⟩), v] w fun e w' => e = .returned (.int .i64 (putE z (catF L).length p)) ∧
      RLD (F.since w w') w' m r (if putE z (catF L).length p = 0 then syD (ptD s f (catF L).length p) else s) f z (if putE z (catF L).length p = 0 then L ++ [p] else L) ∧ Chg F w w' := by
  have hin := hd.isIn
  have KP := RefLogPut F m r f z L s H p v w hd hr ha hH hb hz hu (by omega) hn
  have HP := Lib.hid KP
  have HI := Lib.hid hin
  have hpl := ptD_waits s f (catF L).length p
  have hpn := ptD_n s f (catF L).length p
  obtain ⟨A, c, rfl, hlc, hcm⟩ := hr.rd.sliceN (List.length_map _)
  clear hd hr ha hH KP hin
  by_cases he : putE z (catF L).length p = 0
  · have hpy := putE_yes he
    have hw2 : (ptD s f (catF L).length p).2.1.length ≤ 1000000000 := by omega
    rw [if_pos he, if_pos he]
    have hp2 := HP.out
    rw [if_pos he, if_pos he, he] at hp2
    have HP2 := Lib.hid hp2
    rw [he]
    clear he hpy hpl hp2
    go_enter Try.func19, Try.ntmps19
    go_wp2_with fail
    refine HP2.out.mono ?_
    rintro e w1 ⟨rfl, ⟨F1, F2, hk, ⟨vL, vs, hl⟩, h3, h4, h5, h6⟩, hc1⟩
    have c0 : w1.cell? ⟨m, 0, none⟩ = some (.pointer (some ⟨r, 0, none⟩)) := hl.blk.cell 0
    go_wp2_with fail
    refine (RkSync F1 r _ w1 hk hw2 (by rw [hpn]; exact hn0) (by rw [hpn]; exact hn1)).mono ?_
    rintro e w2 ⟨rfl, hk2, hc2⟩
    have hl2 := hl.chg hc2 h3
    have hs1 := hc1.size
    have hs2 := hc2.size
    have hcw : Chg F w w2 := hc1.step (hc2.mono fun k _ hk => h4 k hk)
    have hR : RLD (F.since w w2) w2 m r (syD (ptD s f (catF L).length p)) f z (L ++ [p]) :=
      ⟨F1, F2, hk2, ⟨vL, vs, hl2⟩, h3, fun k hk => Fp.since_grow hs2 k (h4 k hk), fun k hk => Fp.since_grow hs2 k (h5 k hk), HI.out.since hcw.size⟩
    have HR := Lib.hid hR
    have HC := Lib.hid hcw
    clear hR hcw hl hl2 hk hk2 hc1 hc2 h3 h4 h5 h6
    go_wp2
    go_ret
    exact ⟨rfl, HR.out, HC.out⟩
  · rw [if_neg he, if_neg he]
    have hp2 := HP.out
    rw [if_neg he, if_neg he] at hp2
    have HP2 := Lib.hid hp2
    have hne : (putE z (catF L).length p == 0) = false := by rw [beq_eq_false_iff_ne]; exact he
    clear hp2 hpl
    generalize putE z (catF L).length p = q at *
    go_enter Try.func19, Try.ntmps19
    go_wp2_with fail
    refine HP2.out.mono ?_
    rintro e w1 ⟨rfl, hR, hc1⟩
    have HR := Lib.hid hR
    have HC := Lib.hid hc1
    clear hR hc1
    go_wp2
    go_ret
    exact ⟨rfl, HR.out, HC.out⟩

theorem RLg0.cleared {G : Fp} {w : World} {m r f z : Nat} {L : List (List UInt8)} {vL : Value} {vs : List Value} (h : RLg0 G w m r f z L vL vs) :
    RLg G (w.setCell ⟨m, 3, none⟩ (.slice none 0 0)) m r f z [] ∧ Chg G w (w.setCell ⟨m, 3, none⟩ (.slice none 0 0)) := by
  obtain ⟨h1, h2⟩ := ObjF.drop h.1 0 3 (by simp) 38 1
  exact ⟨⟨.slice none 0 0, [], h1, rfl, fun i u l hu _ => by simp at hu⟩, h2⟩

theorem RefLogClear (F : Fp) (m r f z : Nat) (L : List (List UInt8)) (s : DkS) (w : World) (hd : RLD F w m r s f z L) (hb : s.1.length ≤ 65536) (hz : f + z ≤ s.1.length) (hw : s.2.1.length ≤ 10000000) (hn0 : 0 ≤ s.2.2) (hn1 : s.2.2 ≤ 1000000000) :
    Calls Try.prog 20 #[.pointer (some ⟨m, 0, none⟩)] w fun e w' => e = .returned (.tuple #[]) ∧ RLD (F.since w w') w' m r (zrD s f z 0) f z [] ∧ Chg F w w' := by
  obtain ⟨F1, F2, hk, ⟨vL, vs, hl⟩, h3, h4, h5, h6⟩ := hd
  have c3 := hl.blk.cell 3
  have f3 := hl.blk.frozen 3
  obtain ⟨A, c, rfl, _, _⟩ := hl.rdlF.rdl.sliceN rfl
  have hcl := hl.cleared
  have HCL := Lib.hid hcl
  have HK := Lib.hid hk
  have H34 := Lib.hid (And.intro h3 (And.intro h4 (And.intro h5 h6)))
  have c3' : w.cell? ⟨m, 3, none⟩ = some (.slice A L.length c) := c3
  clear hl hcl hk h3 h4 h5 h6 c3
  go_enter Try.func20, Try.ntmps20
  go_wp2_with fail
  refine (RefZero_any F1 F2 m r f z [] s 0 _ (HK.out.chg HCL.out.2 (Fp.apart.symm H34.out.1)) HCL.out.1 H34.out.1 hz (Nat.zero_le _) hb (by omega) hn0 hn1).mono ?_
  rintro e w2 ⟨rfl, hk2, hc2⟩
  have hl2 := HCL.out.1.chg hc2 H34.out.1
  have hs1 := HCL.out.2.size
  have hs2 := hc2.size
  have hcw : Chg F w w2 := (HCL.out.2.mono (G := F) fun k _ hk => H34.out.2.2.1 k hk).trans (hc2.mono (G := F) fun k _ hk => H34.out.2.1 k hk) (fun _ _ h => h)
  have hR : RLD (F.since w w2) w2 m r (zrD s f z 0) f z [] := by
    refine ⟨_, F2, hk2, hl2, fun k hk2 hk1 => ?_, fun k hk => ?_, fun k hk => .inl (H34.out.2.2.1 k hk), H34.out.2.2.2.since hcw.size⟩
    · rcases hk1 with hk1 | hk1
      · exact H34.out.1 k hk2 hk1
      · have := HCL.out.1.isIn k hk2
        omega
    · rcases hk with hk | hk
      · exact .inl (H34.out.2.1 k hk)
      · exact .inr ⟨by omega, hk.2⟩
  have HR := Lib.hid hR
  have HC := Lib.hid hcw
  clear hR hcw hl2 hk2 hc2
  go_wp2
  go_end0
  exact ⟨rfl, HR.out, HC.out⟩

end Go.Proofs.Ytnihgpdkolmkgaa

/- Layer 5: both logs, each on its own disk, through the calls. -/
namespace Go.Proofs.Ytnihgpdkolmkgaa
open Go.RowKit

/-- Since w1 all that was there stands; both disks and logs were made since, and lie apart. -/
def Pr (w1 w : World) (h g m r : Nat) (f z : Nat) (s : DkS) (u : Nat) (t : DkS) (L : List (List UInt8)) : Prop :=
  ∃ F G : Fp, LgW w1 w h g s f z u F ∧ RLD G w m r t f z L ∧ (∀ k, G k → w1.heap.size ≤ k) ∧ F.apart G
/-- Both disks alone. -/
def PrD (w1 w : World) (g r : Nat) (s t : DkS) : Prop :=
  ∃ F G : Fp, DkW w1 w g s F ∧ Rk G w r t ∧ (∀ k, G k → w1.heap.size ≤ k) ∧ F.apart G

section
variable {w1 w w' : World} {h g m r f z u : Nat} {s t : DkS} {L : List (List UInt8)}
theorem Pr.ext (hp : Pr w1 w h g m r f z s u t L) (hx : Ext w w') : Pr w1 w' h g m r f z s u t L := by
  obtain ⟨F, G, h1, h2, h3, h4⟩ := hp
  exact ⟨F, G, h1.ext hx, h2.ext hx, h3, h4⟩
theorem PrD.ext (hp : PrD w1 w g r s t) (hx : Ext w w') : PrD w1 w' g r s t := by
  obtain ⟨F, G, h1, h2, h3, h4⟩ := hp
  exact ⟨F, G, h1.ext hx, Rk.chg (G := fun _ => False) h2 (Chg.of_ext hx) (fun _ _ h => h), h3, h4⟩
theorem Pr.ext0 (hp : Pr w1 w h g m r f z s u t L) : Ext w1 w := by
  obtain ⟨F, G, h1, _⟩ := hp
  exact h1.2.2
theorem PrD.ext0 (hp : PrD w1 w g r s t) : Ext w1 w := by
  obtain ⟨F, G, h1, _⟩ := hp
  exact h1.2.2
theorem Pr.disks (hp : Pr w1 w h g m r f z s u t L) : PrD w1 w g r s t := by
  obtain ⟨F, G, h1, h2, h3, h4⟩ := hp
  exact ⟨F, G, h1.dkW, h2.rk, h3, h4⟩
/-- A block that was made since, and is nobody's. -/
def Free (w : World) (i : Nat) (w1 : World) (h g m r f z : Nat) (s : DkS) (u : Nat) (t : DkS) (L : List (List UInt8)) : Prop :=
  ∃ F G : Fp, LgW w1 w h g s f z u F ∧ RLD G w m r t f z L ∧ (∀ k, G k → w1.heap.size ≤ k) ∧ F.apart G ∧ ¬ F i ∧ ¬ G i
def FreeD (w : World) (i : Nat) (w1 : World) (g r : Nat) (s t : DkS) : Prop :=
  ∃ F G : Fp, DkW w1 w g s F ∧ Rk G w r t ∧ (∀ k, G k → w1.heap.size ≤ k) ∧ F.apart G ∧ ¬ F i ∧ ¬ G i
theorem Pr.free (hp : Pr w1 w h g m r f z s u t L) {i : Nat} (hi : w.heap.size ≤ i) (hx : Ext w w') : Free w' i w1 h g m r f z s u t L := by
  obtain ⟨F, G, h1, h2, h3, h4⟩ := hp
  exact ⟨F, G, h1.ext hx, h2.ext hx, h3, h4, (fun hF => by have := h1.1.isIn i hF; omega), (fun hG => by have := h2.isIn i hG; omega)⟩
theorem Free.pr {i : Nat} (hp : Free w i w1 h g m r f z s u t L) : Pr w1 w h g m r f z s u t L := by
  obtain ⟨F, G, h1, h2, h3, h4, _⟩ := hp
  exact ⟨F, G, h1, h2, h3, h4⟩
theorem FreeD.pr {i : Nat} (hp : FreeD w i w1 g r s t) : PrD w1 w g r s t := by
  obtain ⟨F, G, h1, h2, h3, h4, _⟩ := hp
  exact ⟨F, G, h1, h2, h3, h4⟩
theorem Free.disks {i : Nat} (hp : Free w i w1 h g m r f z s u t L) : FreeD w i w1 g r s t := by
  obtain ⟨F, G, h1, h2, h3, h4, h5, h6⟩ := hp
  exact ⟨F, G, h1.dkW, h2.rk, h3, h4, h5, h6⟩
theorem Free.ext {i : Nat} (hp : Free w i w1 h g m r f z s u t L) (hx : Ext w w') : Free w' i w1 h g m r f z s u t L := by
  obtain ⟨F, G, h1, h2, h3, h4, h5, h6⟩ := hp
  exact ⟨F, G, h1.ext hx, h2.ext hx, h3, h4, h5, h6⟩

/-- What a call leaves of the block i, which is nobody's. -/
abbrev Keeps (i : Nat) (w w' : World) : Prop := ∀ (T : TypeId) (cs : Array Value), Blk w i T cs → Blk w' i T cs

section
variable {i : Nat} {p : List UInt8} {v : Value}
theorem keeps_chg {F : Fp} (hc : Chg F w w') (hi : ¬ F i) : Keeps i w w' := fun T cs hb => (hc.block i hb.lt hi).trans hb

/-- The code's log is turned by a call of its own. -/
theorem Free.codeStep {F : Fp} {s' : DkS} {u' h' : Nat} {G : Fp} (hilt : i < w.heap.size) (h2 : RLD G w m r t f z L) (h3 : ∀ k, G k → w1.heap.size ≤ k) (h4 : F.apart G) (h5 : ¬ F i) (h6 : ¬ G i) (hc : Chg F w w') (hd : LgW w1 w' h' g s' f z u' (F.since w w')) :
    Free w' i w1 h' g m r f z s' u' t L ∧ Keeps i w w' :=
  ⟨⟨F.since w w', G, hd, h2.chg hc h4.symm, h3, h4.since h2.isIn, nsince h5 hilt, h6⟩, keeps_chg hc h5⟩
/-- The reference's log is turned by a call of its own. -/
theorem Free.refStep {F : Fp} {G : Fp} {t' : DkS} {L' : List (List UInt8)} {m' : Nat} (hilt : i < w.heap.size) (h1 : LgW w1 w h g s f z u F) (h3 : ∀ k, G k → w1.heap.size ≤ k) (h4 : F.apart G) (h5 : ¬ F i) (h6 : ¬ G i) (hc : Chg G w w') (hd : RLD (G.since w w') w' m' r t' f z L') :
    Free w' i w1 h g m' r f z s u t' L' ∧ Keeps i w w' :=
  ⟨⟨F, G.since w w', h1.chg hc h4 h3, hd, since_low h3 h1.2.2.size, (h4.symm.since h1.1.isIn).symm, h5, nsince h6 hilt⟩, keeps_chg hc h6⟩

theorem Free.codeAppend (hp : Free w i w1 h g m r f z s u t L) (hilt : i < w.heap.size) (hr : Rd w1 v (p.map B)) (hz : f + z ≤ s.1.length) (hu : u ≤ z) (hw : s.2.1.length ≤ 10000000) (hn0 : 0 ≤ s.2.2) (hn1 : s.2.2 ≤ 100000000) :
    Calls Try.prog 16 #[.pointer (some ⟨h, 0, none⟩), v] w fun e w' => e = .returned (.int .i64 (putE z u p)) ∧ Free w' i w1 h g m r f z (appS s f z u p) (putU z u p) t L ∧ Keeps i w w' := by
  obtain ⟨F, G, h1, h2, h3, h4, h5, h6⟩ := hp
  exact (h1.append hr hz hu hw hn0 hn1).mono fun _ _ ⟨he, hd, hc⟩ => ⟨he, Free.codeStep hilt h2 h3 h4 h5 h6 hc hd⟩
theorem Free.codePut (hp : Free w i w1 h g m r f z s u t L) (hilt : i < w.heap.size) (hr : Rd w1 v (p.map B)) (hz : f + z ≤ s.1.length) (hu : u ≤ z) (hw : s.2.1.length ≤ 10000000) :
    Calls Try.prog 15 #[.pointer (some ⟨h, 0, none⟩), v] w fun e w' => e = .returned (.int .i64 (putE z u p)) ∧ Free w' i w1 h g m r f z (putS s f z u p) (putU z u p) t L ∧ Keeps i w w' := by
  obtain ⟨F, G, h1, h2, h3, h4, h5, h6⟩ := hp
  exact (h1.put hr hz hu hw).mono fun _ _ ⟨he, hd, hc⟩ => ⟨he, Free.codeStep hilt h2 h3 h4 h5 h6 hc hd⟩
theorem Free.codeClear (hp : Free w i w1 h g m r f z s u t L) (hilt : i < w.heap.size) (hz : f + z ≤ s.1.length) (hw : s.2.1.length ≤ 10000000) (hn0 : 0 ≤ s.2.2) (hn1 : s.2.2 ≤ 100000000) :
    Calls Try.prog 14 #[.pointer (some ⟨h, 0, none⟩)] w fun e w' => e = .returned (.tuple #[]) ∧ Free w' i w1 h g m r f z (zrD s f z 0) 0 t L ∧ Keeps i w w' := by
  obtain ⟨F, G, h1, h2, h3, h4, h5, h6⟩ := hp
  exact (h1.clear hz hw hn0 hn1).mono fun _ _ ⟨he, hd, hc⟩ => ⟨he, Free.codeStep hilt h2 h3 h4 h5 h6 hc hd⟩
theorem Free.refAppend (hp : Free w i w1 h g m r f z s u t L) (hilt : i < w.heap.size) (hr : Rd w1 v (p.map B)) (hb : t.1.length ≤ 65536) (hz : f + z ≤ t.1.length) (hu : (catF L).length ≤ z) (hw : t.2.1.length ≤ 10000000) (hn : L.length ≤ 1000000) (hn0 : 0 ≤ t.2.2) (hn1 : t.2.2 ≤ 1000000000) :
    Calls Try.prog 19 #[.pointer (some ⟨m, 0, none⟩), v] w fun e w' => e = .returned (.int .i64 (putE z (catF L).length p)) ∧
      Free w' i w1 h g m r f z s u (appS t f z (catF L).length p) (if putE z (catF L).length p = 0 then L ++ [p] else L) ∧ Keeps i w w' := by
  obtain ⟨F, G, h1, h2, h3, h4, h5, h6⟩ := hp
  exact (RefLogAppend G m r f z L t _ p v w h2 (old_rd hr h1.2.2) (old_apart h3) (old_in h1.2.2) hb hz hu hw hn hn0 hn1).mono fun _ _ ⟨he, hd, hc⟩ => ⟨he, Free.refStep hilt h1 h3 h4 h5 h6 hc hd⟩
theorem Free.refPut (hp : Free w i w1 h g m r f z s u t L) (hilt : i < w.heap.size) (hr : Rd w1 v (p.map B)) (hb : t.1.length ≤ 65536) (hz : f + z ≤ t.1.length) (hu : (catF L).length ≤ z) (hw : t.2.1.length ≤ 10000000) (hn : L.length ≤ 1000000) :
    Calls Try.prog 21 #[.pointer (some ⟨m, 0, none⟩), v] w fun e w' => e = .returned (.int .i64 (putE z (catF L).length p)) ∧
      Free w' i w1 h g m r f z s u (putS t f z (catF L).length p) (if putE z (catF L).length p = 0 then L ++ [p] else L) ∧ Keeps i w w' := by
  obtain ⟨F, G, h1, h2, h3, h4, h5, h6⟩ := hp
  exact (RefLogPut G m r f z L t _ p v w h2 (old_rd hr h1.2.2) (old_apart h3) (old_in h1.2.2) hb hz hu (by omega) hn).mono fun _ _ ⟨he, hd, hc⟩ => ⟨he, Free.refStep hilt h1 h3 h4 h5 h6 hc hd⟩
theorem Free.refClear (hp : Free w i w1 h g m r f z s u t L) (hilt : i < w.heap.size) (hb : t.1.length ≤ 65536) (hz : f + z ≤ t.1.length) (hw : t.2.1.length ≤ 10000000) (hn0 : 0 ≤ t.2.2) (hn1 : t.2.2 ≤ 1000000000) :
    Calls Try.prog 20 #[.pointer (some ⟨m, 0, none⟩)] w fun e w' => e = .returned (.tuple #[]) ∧ Free w' i w1 h g m r f z s u (zrD t f z 0) [] ∧ Keeps i w w' := by
  obtain ⟨F, G, h1, h2, h3, h4, h5, h6⟩ := hp
  exact (RefLogClear G m r f z L t w h2 hb hz hw hn0 hn1).mono fun _ _ ⟨he, hd, hc⟩ => ⟨he, Free.refStep hilt h1 h3 h4 h5 h6 hc hd⟩
theorem FreeD.codeCrash (hp : FreeD w i w1 g r s t) (hilt : i < w.heap.size) (k : Int) (h0 : -9223372036854775808 ≤ k) (h1 : k ≤ 9223372036854775807) (hw : s.2.1.length ≤ 1000000000) :
    Calls Try.prog 22 #[.pointer (some ⟨g, 0, none⟩), .int .i64 k] w fun e w' => e = .returned (.tuple #[]) ∧ FreeD w' i w1 g r (crD s k) t ∧ Keeps i w w' := by
  obtain ⟨F, G, h1', h2, h3, h4, h5, h6⟩ := hp
  exact (h1'.crash k h0 h1 hw).mono fun _ _ ⟨he, hd, hc⟩ => ⟨he, ⟨F.since _ _, G, hd, h2.chg hc h4.symm, h3, h4.since h2.isIn, nsince h5 hilt, h6⟩, keeps_chg hc h5⟩
theorem FreeD.refCrash (hp : FreeD w i w1 g r s t) (k : Int) (hw : t.2.1.length ≤ 1000000000) :
    Calls Try.prog 23 #[.pointer (some ⟨r, 0, none⟩), .int .i64 k] w fun e w' => e = .returned (.tuple #[]) ∧ FreeD w' i w1 g r s (crD t k) ∧ Keeps i w w' := by
  obtain ⟨F, G, h1, h2, h3, h4, h5, h6⟩ := hp
  refine (RkCrash G r t k w h2 hw).mono ?_
  rintro e w' ⟨he, hd, hc⟩
  exact ⟨he, ⟨F, G, ⟨Dk.chg h1.1 hc h4, h1.2.1, hc.ext h1.2.2 h3⟩, hd, h3, h4, h5, h6⟩, keeps_chg hc h6⟩
end
end

/-- The code's log is open, the reference's isn't yet; v reads as ls. -/
def PrM (w1 w : World) (h g r : Nat) (f z : Nat) (s : DkS) (u : Nat) (t : DkS) (v : Value) (ls : List (List UInt8)) : Prop :=
  ∃ F G V : Fp, LgW w1 w h g s f z u F ∧ Rk G w r t ∧ (∀ k, G k → w1.heap.size ≤ k) ∧ F.apart G ∧ RdLF V w v ls ∧ V.apart G
def FreeM (w : World) (i : Nat) (w1 : World) (h g r : Nat) (f z : Nat) (s : DkS) (u : Nat) (t : DkS) (v : Value) (ls : List (List UInt8)) : Prop :=
  ∃ F G V : Fp, LgW w1 w h g s f z u F ∧ Rk G w r t ∧ (∀ k, G k → w1.heap.size ≤ k) ∧ F.apart G ∧ RdLF V w v ls ∧ V.apart G ∧ ¬ F i ∧ ¬ G i

section
variable {w1 w w' : World} {h g m r f z u i : Nat} {s t : DkS} {L ls : List (List UInt8)} {v : Value}
theorem PrM.rdl (hp : PrM w1 w h g r f z s u t v ls) : RdL w v ls := by
  obtain ⟨F, G, V, h1, h2, h3, h4, h5, h6⟩ := hp
  exact h5.rdl
theorem FreeM.rdl (hp : FreeM w i w1 h g r f z s u t v ls) : RdL w v ls := by
  obtain ⟨F, G, V, h1, h2, h3, h4, h5, h6⟩ := hp
  exact h5.rdl
theorem PrD.codeOpen (hp : PrD w1 w g r s t) (hz : f + z ≤ s.1.length) (h1 : 1 ≤ z) (hw : s.2.1.length ≤ 10000000) (hn0 : 0 ≤ s.2.2) (hn1 : s.2.2 ≤ 100000000) :
    Calls Try.prog 12 #[.pointer (some ⟨g, 0, none⟩), .int .i64 (f : Int), .int .i64 (z : Int)] w fun e w' => ∃ (h : Nat) (v : Value), e = .returned (.tuple #[.pointer (some ⟨h, 0, none⟩), v, .int .i64 0]) ∧
      PrM w1 w' h g r f z (opD s f z) (endD s f z) t v (recD s f z) := by
  obtain ⟨F, G, a1, a2, a3, a4⟩ := hp
  refine (a1.open_ hz h1 hw hn0 hn1).mono ?_
  rintro e w' ⟨h, v, he, hl, hv, hc⟩
  exact ⟨h, v, he, F.since w w', G, _, hl, a2.chg hc a4.symm, a3, a4.since a2.isIn, hv, fun k hk hG => by have := a2.isIn k hG; omega⟩
theorem FreeD.codeOpen (hp : FreeD w i w1 g r s t) (hilt : i < w.heap.size) (hz : f + z ≤ s.1.length) (h1 : 1 ≤ z) (hw : s.2.1.length ≤ 10000000) (hn0 : 0 ≤ s.2.2) (hn1 : s.2.2 ≤ 100000000) :
    Calls Try.prog 12 #[.pointer (some ⟨g, 0, none⟩), .int .i64 (f : Int), .int .i64 (z : Int)] w fun e w' => ∃ (h : Nat) (v : Value), e = .returned (.tuple #[.pointer (some ⟨h, 0, none⟩), v, .int .i64 0]) ∧
      FreeM w' i w1 h g r f z (opD s f z) (endD s f z) t v (recD s f z) ∧ Keeps i w w' := by
  obtain ⟨F, G, a1, a2, a3, a4, a5, a6⟩ := hp
  refine (a1.open_ hz h1 hw hn0 hn1).mono ?_
  rintro e w' ⟨h, v, he, hl, hv, hc⟩
  exact ⟨h, v, he, ⟨F.since w w', G, _, hl, a2.chg hc a4.symm, a3, a4.since a2.isIn, hv, (fun k hk hG => by have := a2.isIn k hG; omega), nsince a5 hilt, a6⟩, keeps_chg hc a5⟩
theorem PrM.refOpen (hp : PrM w1 w h g r f z s u t v ls) (hb : t.1.length ≤ 65536) (hz : f + z ≤ t.1.length) (h1 : 1 ≤ z) (hw : t.2.1.length ≤ 10000000) (hn0 : 0 ≤ t.2.2) (hn1 : t.2.2 ≤ 100000000) :
    Calls Try.prog 13 #[.pointer (some ⟨r, 0, none⟩), .int .i64 (f : Int), .int .i64 (z : Int)] w fun e w' => ∃ m, e = .returned (.tuple #[.pointer (some ⟨m, 0, none⟩), .bool true]) ∧
      Pr w1 w' h g m r f z s u (opD t f z) (recD t f z) ∧ RdL w' v ls := by
  obtain ⟨F, G, V, a1, a2, a3, a4, a5, a6⟩ := hp
  refine (RefOpen_yes G r t f z w a2 hb hz h1 (by omega) hn0 (by omega)).mono ?_
  rintro e w' ⟨m, he, hd, hc⟩
  exact ⟨m, he, ⟨F, G.since w w', a1.chg hc a4 a3, hd, since_low a3 a1.2.2.size, (a4.symm.since a1.1.isIn).symm⟩, (a5.chg hc a6).rdl⟩
theorem FreeM.refOpen (hp : FreeM w i w1 h g r f z s u t v ls) (hilt : i < w.heap.size) (hb : t.1.length ≤ 65536) (hz : f + z ≤ t.1.length) (h1 : 1 ≤ z) (hw : t.2.1.length ≤ 10000000) (hn0 : 0 ≤ t.2.2) (hn1 : t.2.2 ≤ 100000000) :
    Calls Try.prog 13 #[.pointer (some ⟨r, 0, none⟩), .int .i64 (f : Int), .int .i64 (z : Int)] w fun e w' => ∃ m, e = .returned (.tuple #[.pointer (some ⟨m, 0, none⟩), .bool true]) ∧
      Free w' i w1 h g m r f z s u (opD t f z) (recD t f z) ∧ RdL w' v ls ∧ Keeps i w w' := by
  obtain ⟨F, G, V, a1, a2, a3, a4, a5, a6, a7, a8⟩ := hp
  refine (RefOpen_yes G r t f z w a2 hb hz h1 (by omega) hn0 (by omega)).mono ?_
  rintro e w' ⟨m, he, hd, hc⟩
  exact ⟨m, he, ⟨F, G.since w w', a1.chg hc a4 a3, hd, since_low a3 a1.2.2.size, (a4.symm.since a1.1.isIn).symm, a7, nsince a8 hilt⟩, (a5.chg hc a6).rdl, keeps_chg hc a8⟩

/-! ### What is looked at -/
theorem Pr.codeUsed (hp : Pr w1 w h g m r f z s u t L) (hu : u ≤ 65536) : Calls Try.prog 17 #[.pointer (some ⟨h, 0, none⟩)] w fun e w' => e = .returned (.int .i64 (u : Int)) ∧ Pr w1 w' h g m r f z s u t L ∧ Ext w w' := by
  have hp' := hp
  obtain ⟨F, G, a1, a2, a3, a4⟩ := hp
  exact (a1.used hu).mono fun _ _ ⟨he, _, hx⟩ => ⟨he, hp'.ext hx, hx⟩
theorem Pr.codeRoom (hp : Pr w1 w h g m r f z s u t L) (n : Int) (hz : z ≤ 65536) (hu : u ≤ z) (n0 : -9223372036854775808 ≤ n) (n1 : n ≤ 9223372036854775807) :
    Calls Try.prog 18 #[.pointer (some ⟨h, 0, none⟩), .int .i64 n] w fun e w' => e = .returned (.bool (roomB z u n)) ∧ Pr w1 w' h g m r f z s u t L ∧ Ext w w' := by
  have hp' := hp
  obtain ⟨F, G, a1, a2, a3, a4⟩ := hp
  exact (a1.room n hz hu n0 n1).mono fun _ _ ⟨he, _, hx⟩ => ⟨he, hp'.ext hx, hx⟩
theorem Pr.refUsed (hp : Pr w1 w h g m r f z s u t L) (hc : (catF L).length ≤ 1000000000) (hn : L.length ≤ 1000000000) : Calls Try.prog 25 #[.pointer (some ⟨m, 0, none⟩)] w fun e w' => e = .returned (.int .i64 ((catF L).length : Int)) ∧ Pr w1 w' h g m r f z s u t L ∧ Ext w w' := by
  have hp' := hp
  obtain ⟨F, G, a1, ⟨F1, F2, b1, b2, b3⟩, a3, a4⟩ := hp
  exact (RefUsed_any F2 m r f z L w b2 hc hn).mono fun _ _ ⟨he, hx⟩ => ⟨he, hp'.ext hx, hx⟩
theorem Pr.codeBytes (hp : Pr w1 w h g m r f z s u t L) (hw : s.2.1.length ≤ 1000000000) : Calls Try.prog 27 #[.pointer (some ⟨g, 0, none⟩)] w fun e w' =>
    ∃ A c, e = .returned (.slice A s.1.length c) ∧ Rd w' (.slice A s.1.length c) ((rdD s).map B) ∧ Pr w1 w' h g m r f z s u t L ∧ Ext w w' := by
  have hp' := hp
  obtain ⟨F, G, a1, a2, a3, a4⟩ := hp
  refine (DkBytes F g s w a1.1.dk hw).mono ?_
  rintro e w' ⟨v, rfl, hg⟩
  obtain ⟨A, c, rfl⟩ := hg.slice_ (n := s.1.length) (by rw [List.length_map, rdD_len])
  exact ⟨A, c, rfl, Rd.own hg.own, hp'.ext hg.ext, hg.ext⟩
theorem Pr.refBytes (hp : Pr w1 w h g m r f z s u t L) (hb : t.1.length ≤ 65536) (hw : t.2.1.length ≤ 1000000000) : Calls Try.prog 28 #[.pointer (some ⟨r, 0, none⟩)] w fun e w' =>
    ∃ A c, e = .returned (.slice A t.1.length c) ∧ Rd w' (.slice A t.1.length c) ((rdD t).map B) ∧ Pr w1 w' h g m r f z s u t L ∧ Ext w w' := by
  have hp' := hp
  obtain ⟨F, G, a1, a2, a3, a4⟩ := hp
  refine (RkBytes G r t w a2.rk hb hw).mono ?_
  rintro e w' ⟨v, rfl, hg⟩
  obtain ⟨A, c, rfl⟩ := hg.slice_ (n := t.1.length) (by rw [List.length_map, rdD_len])
  exact ⟨A, c, rfl, Rd.own hg.own, hp'.ext hg.ext, hg.ext⟩
/-- The reference's records, as its struct holds them. -/
theorem Pr.refL (hp : Pr w1 w h g m r f z s u t L) : ∃ A c, w.cell? ⟨m, 3, none⟩ = some (.slice A L.length c) ∧ RdL w (.slice A L.length c) L := by
  obtain ⟨F, G, a1, ⟨F1, F2, b1, ⟨vL, vs, b2⟩, b3⟩, a3, a4⟩ := hp
  have hr := b2.rdlF.rdl
  obtain ⟨A, c, rfl, _, _⟩ := hr.sliceN rfl
  exact ⟨A, c, b2.blk.cell 3, hr⟩
theorem PrD.first (hx : Ext w1 w) {F G : Fp} (hd : DkW w1 w g s F) (hk : Rk G w r t) (hg : ∀ k, G k → w1.heap.size ≤ k) (ha : F.apart G) : PrD w1 w g r s t := ⟨F, G, hd, hk, hg, ha⟩
end

end Go.Proofs.Ytnihgpdkolmkgaa

/- Package log: a nil log. -/
namespace Go.Proofs.Ytnihgpdkolmkgaa
open Go.RowKit

theorem LgUsed_nil (w : World) : Calls Try.prog 17 #[.pointer none] w fun e w' => e = .returned (.int .i64 0) ∧ Ext w w' := by
  go_enter Try.func17, Try.ntmps17
  go_wp2
  go_ret
  exact ⟨rfl, Ext.refl _⟩
theorem LgWrong_nil (n : Int) (w : World) : Calls Try.prog 37 #[.pointer none, .int .i64 n] w fun e w' => e = .returned (.int .i64 1) ∧ Ext w w' := by
  go_enter Try.func37, Try.ntmps37
  go_wp2
  go_ret
  exact ⟨rfl, Ext.refl _⟩
theorem LgRoom_nil (n : Int) (w : World) : Calls Try.prog 18 #[.pointer none, .int .i64 n] w fun e w' => e = .returned (.bool false) ∧ Ext w w' := by
  go_enter Try.func18, Try.ntmps18
  go_wp2_with fail
  refine (LgWrong_nil n w).mono ?_
  rintro e w1 ⟨rfl, hx⟩
  go_wp2
  go_ret
  exact ⟨rfl, hx⟩
theorem LgPut_nil (p : List UInt8) (v : Value) (w : World) (hr : Rd w v (p.map B)) : Calls Try.prog 15 #[.pointer none, v] w fun e w' => e = .returned (.int .i64 1) ∧ Ext w w' := by
  obtain ⟨A, c, rfl, hlc, hcm⟩ := hr.sliceN (List.length_map _)
  clear hr
  go_enter Try.func15, Try.ntmps15
  go_wp2_with fail
  refine (LgWrong_nil _ w).mono ?_
  rintro e w1 ⟨rfl, hx⟩
  go_wp2
  go_ret
  exact ⟨rfl, hx⟩
theorem LgAppend_nil (p : List UInt8) (v : Value) (w : World) (hr : Rd w v (p.map B)) : Calls Try.prog 16 #[.pointer none, v] w fun e w' => e = .returned (.int .i64 1) ∧ Ext w w' := by
  go_enter Try.func16, Try.ntmps16
  go_wp2_with fail
  refine (LgPut_nil p v w hr).mono ?_
  rintro e w1 ⟨rfl, hx⟩
  go_wp2
  go_ret
  exact ⟨rfl, hx⟩
theorem LgClear_nil (w : World) : Calls Try.prog 14 #[.pointer none] w fun e w' => e = .returned (.tuple #[]) ∧ Ext w w' := by
  go_enter Try.func14, Try.ntmps14
  go_wp2
  go_end0
  exact ⟨rfl, Ext.refl _⟩

end Go.Proofs.Ytnihgpdkolmkgaa
