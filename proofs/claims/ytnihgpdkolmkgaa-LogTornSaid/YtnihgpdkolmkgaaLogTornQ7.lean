/- Texts that the proof of LogTorn rests on, one behind the other. -/
import Derived.Test.YtnihgpdkolmkgaaLogTornQ6
import Derived.Test.YtnihgpdkolmkgaaRows
import Derived.Outline
import Derived.Lib.SlBytesConst
import Derived.Deep.RegionWith
import Derived.Deep.QuietTactic
import Derived.BigQuiet

/- Layer 5: a disk and a log that a call made itself, through the calls. -/
namespace Go.Proofs.Ytnihgpdkolmkgaa
open Go.RowKit

/-- Since w0 all that was there stands; the disk and the log were made since, and lie in F. -/
def LgW (w0 w : World) (h g : Nat) (s : DkS) (f z u : Nat) (F : Fp) : Prop := LD F w h g s f z u ∧ (∀ k, F k → w0.heap.size ≤ k) ∧ Ext w0 w
/-- A disk alone. -/
def DkW (w0 w : World) (g : Nat) (s : DkS) (F : Fp) : Prop := Dk F w g s ∧ (∀ k, F k → w0.heap.size ≤ k) ∧ Ext w0 w

section
variable {w0 w w' : World} {h g f z u : Nat} {s : DkS} {F G : Fp}
theorem since_low (hf : ∀ k, F k → w0.heap.size ≤ k) (hs : w0.heap.size ≤ w.heap.size) : ∀ k, F.since w w' k → w0.heap.size ≤ k := fun k hk => by
  rcases hk with hk | hk
  · exact hf k hk
  · exact Nat.le_trans hs hk.1
theorem LgW.ext (hl : LgW w0 w h g s f z u F) (hx : Ext w w') : LgW w0 w' h g s f z u F := ⟨hl.1.ext hx, hl.2.1, hl.2.2.trans hx⟩
theorem DkW.ext (hl : DkW w0 w g s F) (hx : Ext w w') : DkW w0 w' g s F := ⟨Dk.chg (G := fun _ => False) hl.1 (Chg.of_ext hx) (fun _ _ h => h), hl.2.1, hl.2.2.trans hx⟩
theorem LgW.dkW (hl : LgW w0 w h g s f z u F) : DkW w0 w g s F := ⟨hl.1.dk, hl.2⟩
theorem LgW.chg (hl : LgW w0 w h g s f z u F) (hc : Chg G w w') (ha : F.apart G) (hg : ∀ k, G k → w0.heap.size ≤ k) : LgW w0 w' h g s f z u F := ⟨hl.1.chg hc ha, hl.2.1, hc.ext hl.2.2 hg⟩
theorem nsince {i : Nat} (h1 : ¬ F i) (h2 : i < w.heap.size) : ¬ F.since w w' i := fun h => by
  rcases h with h | h
  · exact h1 h
  · omega
theorem old_apart (hf : ∀ k, F k → w0.heap.size ≤ k) : Fp.apart (fun k => k < w0.heap.size) F := fun k hk hF => by
  have := hf k hF
  omega
theorem old_rd {v : Value} {xs : List Value} (hr : Rd w0 v xs) (hx : Ext w0 w) : RdF (fun k => k < w0.heap.size) w v xs := hr.old.chg (G := fun _ => False) (Chg.of_ext hx) (fun _ _ h => h)
theorem old_in (hx : Ext w0 w) : Fp.isIn (fun k => k < w0.heap.size) w := fun k hk => Nat.lt_of_lt_of_le hk hx.size

theorem DkW.new (hx : Ext w0 w) (n : Nat) (h1 : 1 ≤ n) (h2 : n ≤ 65536) : Calls Try.prog 10 #[.int .i64 (n : Int)] w fun e w' =>
    ∃ g, e = .returned (.pointer (some ⟨g, 0, none⟩)) ∧ DkW w0 w' g (List.replicate n 0, [], 0) (fun k => w.heap.size ≤ k ∧ k < w'.heap.size) ∧ Ext w w' :=
  (DkNew_yes n w h1 h2).mono fun e w' ⟨g, he, hd, hx'⟩ => ⟨g, he, ⟨hd, fun k hk => Nat.le_trans hx.size hk.1, hx.trans hx'⟩, hx'⟩
theorem DkW.open_ (hl : DkW w0 w g s F) (hz : f + z ≤ s.1.length) (h1 : 1 ≤ z) (hw : s.2.1.length ≤ 10000000) (hn0 : 0 ≤ s.2.2) (hn1 : s.2.2 ≤ 100000000) :
    Calls Try.prog 12 #[.pointer (some ⟨g, 0, none⟩), .int .i64 (f : Int), .int .i64 (z : Int)] w fun e w' => ∃ (h : Nat) (v : Value), e = .returned (.tuple #[.pointer (some ⟨h, 0, none⟩), v, .int .i64 0]) ∧
      LgW w0 w' h g (opD s f z) f z (endD s f z) (F.since w w') ∧ RdLF (fun k => w.heap.size ≤ k ∧ k < w'.heap.size) w' v (recD s f z) ∧ Chg F w w' := by
  refine (LgOpen_yes F g s f z w hl.1 hz h1 hw hn0 hn1).mono ?_
  rintro e w' ⟨h, v, F1, F2, V, he, a1, a2, a3, a4, a5, a6, a7, a8, a9, hc⟩
  exact ⟨h, v, he, ⟨⟨F1, F2, _, a1, a2, a4, a7, fun k hk => .inr (a8 k hk), hl.1.isIn.since hc.size, .inl rfl, h1⟩, since_low hl.2.1 hl.2.2.size, hc.ext hl.2.2 hl.2.1⟩, a3.mono a9, hc⟩
theorem LgW.put (hl : LgW w0 w h g s f z u F) {p : List UInt8} {v : Value} (hr : Rd w0 v (p.map B)) (hz : f + z ≤ s.1.length) (hu : u ≤ z) (hw : s.2.1.length ≤ 10000000) :
    Calls Try.prog 15 #[.pointer (some ⟨h, 0, none⟩), v] w fun e w' => e = .returned (.int .i64 (putE z u p)) ∧ LgW w0 w' h g (putS s f z u p) f z (putU z u p) (F.since w w') ∧ Chg F w w' :=
  (LgPut F h g s f z u _ p v w hl.1 (old_rd hr hl.2.2) (old_apart hl.2.1) (old_in hl.2.2) hz hu hw).mono fun _ _ ⟨he, hd, hc⟩ => ⟨he, ⟨hd, since_low hl.2.1 hl.2.2.size, hc.ext hl.2.2 hl.2.1⟩, hc⟩
theorem LgW.append (hl : LgW w0 w h g s f z u F) {p : List UInt8} {v : Value} (hr : Rd w0 v (p.map B)) (hz : f + z ≤ s.1.length) (hu : u ≤ z) (hw : s.2.1.length ≤ 10000000) (hn0 : 0 ≤ s.2.2) (hn1 : s.2.2 ≤ 100000000) :
    Calls Try.prog 16 #[.pointer (some ⟨h, 0, none⟩), v] w fun e w' => e = .returned (.int .i64 (putE z u p)) ∧ LgW w0 w' h g (appS s f z u p) f z (putU z u p) (F.since w w') ∧ Chg F w w' :=
  (LgAppend F h g s f z u _ p v w hl.1 (old_rd hr hl.2.2) (old_apart hl.2.1) (old_in hl.2.2) hz hu hw hn0 hn1).mono fun _ _ ⟨he, hd, hc⟩ => ⟨he, ⟨hd, since_low hl.2.1 hl.2.2.size, hc.ext hl.2.2 hl.2.1⟩, hc⟩
theorem LgW.clear (hl : LgW w0 w h g s f z u F) (hz : f + z ≤ s.1.length) (hw : s.2.1.length ≤ 10000000) (hn0 : 0 ≤ s.2.2) (hn1 : s.2.2 ≤ 100000000) :
    Calls Try.prog 14 #[.pointer (some ⟨h, 0, none⟩)] w fun e w' => e = .returned (.tuple #[]) ∧ LgW w0 w' h g (zrD s f z 0) f z 0 (F.since w w') ∧ Chg F w w' :=
  (LgClear F h g s f z u w hl.1 hz hw hn0 hn1).mono fun _ _ ⟨he, hd, hc⟩ => ⟨he, ⟨hd, since_low hl.2.1 hl.2.2.size, hc.ext hl.2.2 hl.2.1⟩, hc⟩
theorem LgW.used (hl : LgW w0 w h g s f z u F) (hu : u ≤ 65536) : Calls Try.prog 17 #[.pointer (some ⟨h, 0, none⟩)] w fun e w' => e = .returned (.int .i64 (u : Int)) ∧ LgW w0 w' h g s f z u F ∧ Ext w w' :=
  (LDUsed F h g s f z u w hl.1 hu).mono fun _ _ ⟨he, hx⟩ => ⟨he, hl.ext hx, hx⟩
theorem LgW.room (hl : LgW w0 w h g s f z u F) (n : Int) (hz : z ≤ 65536) (hu : u ≤ z) (_ : -9223372036854775808 ≤ n) (_ : n ≤ 9223372036854775807) :
    Calls Try.prog 18 #[.pointer (some ⟨h, 0, none⟩), .int .i64 n] w fun e w' => e = .returned (.bool (roomB z u n)) ∧ LgW w0 w' h g s f z u F ∧ Ext w w' :=
  (LDRoom F h g s f z u n w hl.1 hz hu).mono fun _ _ ⟨he, hx⟩ => ⟨he, hl.ext hx, hx⟩
theorem DkW.crash (hl : DkW w0 w g s F) (k : Int) (h0 : -9223372036854775808 ≤ k) (h1 : k ≤ 9223372036854775807) (hw : s.2.1.length ≤ 1000000000) :
    Calls Try.prog 22 #[.pointer (some ⟨g, 0, none⟩), .int .i64 k] w fun e w' => e = .returned (.tuple #[]) ∧ DkW w0 w' g (crD s k) (F.since w w') ∧ Chg F w w' :=
  (DkCrash F g s k w hl.1 h0 h1 hw).mono fun _ _ ⟨he, hd, hc⟩ => ⟨he, ⟨hd, since_low hl.2.1 hl.2.2.size, hc.ext hl.2.2 hl.2.1⟩, hc⟩
theorem DkW.sync (hl : DkW w0 w g s F) (hw : s.2.1.length ≤ 1000000000) (hn0 : 0 ≤ s.2.2) (hn1 : s.2.2 ≤ 1000000000) :
    Calls Try.prog 30 #[.pointer (some ⟨g, 0, none⟩)] w fun e w' => e = .returned (.tuple #[]) ∧ DkW w0 w' g (syD s) (F.since w w') ∧ Chg F w w' :=
  (DkSync F g s w hl.1 hw hn0 hn1).mono fun _ _ ⟨he, hd, hc⟩ => ⟨he, ⟨hd, since_low hl.2.1 hl.2.2.size, hc.ext hl.2.2 hl.2.1⟩, hc⟩
end

end Go.Proofs.Ytnihgpdkolmkgaa

/- Two closed facts on the program that every row asks. -/
namespace Go.Proofs.Ytnihgpdkolmkgaa
open Go.RowKit

theorem Try.ownKnob : ownKnob Try.prog.godebug = none := by kernel_rfl

theorem Try.laidOut : laidOutB Try.prog = true := by kernel_rfl

end Go.Proofs.Ytnihgpdkolmkgaa

/- Layer 5, the statements: what all of them ask first. -/
namespace Go.Proofs.Ytnihgpdkolmkgaa
open Go.RowKit

/-- What the example comes to. -/
abbrev av0 : DkS := (List.replicate 40 0, [], 0)
theorem av_end : endD av0 4 30 = 0 := by decide +kernel
theorem av_rec : recD av0 4 30 = [] := by decide +kernel
theorem av_e1 : putE 30 0 [97] = 0 := by decide +kernel
theorem av_u1 : putU 30 0 [97] = 7 := by decide +kernel
theorem av_e2 : putE 30 7 [98] = 0 := by decide +kernel
theorem av_u2 : putU 30 7 [98] = 14 := by decide +kernel
theorem av_rec2 : recD (crD (putS (appS (opD av0 4 30) 4 30 0 [97]) 4 30 7 [98]) 6) 4 30 = [[97]] := by decide +kernel
abbrev av1 : DkS := opD (crD (putS (appS (opD av0 4 30) 4 30 0 [97]) 4 30 7 [98]) 6) 4 30
theorem av_end1 : endD av1 4 30 = 7 := by decide +kernel
theorem av_U (l : Nat) : usedD av1 4 30 14 l = 14 ∨ usedD av1 4 30 14 l = 7 := by
  unfold usedD
  split
  · exact .inl rfl
  · split
    · exact .inl rfl
    · exact .inr av_end1
theorem av_r5 (l : Nat) : roomB 30 (usedD av1 4 30 14 l) 5 = true := by
  rcases av_U l with h | h <;> rw [h] <;> decide +kernel
theorem av_r60 (l : Nat) : roomB 30 (usedD av1 4 30 14 l) 60 = false := by
  rcases av_U l with h | h <;> rw [h] <;> decide +kernel
theorem av_w1 : av1.2.1.length ≤ 1000000000 := by rw [opD_waits]; exact Nat.zero_le _
theorem av_l1 : av1.1.length = 40 := by rw [opD_len, crD_len, putS_len, appS_len, opD_len, List.length_replicate]
theorem av_w0 : (appS (opD av0 4 30) 4 30 0 [97]).2.1.length = 0 := by decide +kernel
theorem av_w : (putS (appS (opD av0 4 30) 4 30 0 [97]) 4 30 7 [98]).2.1.length = 7 := by decide +kernel
theorem av_n : (crD (putS (appS (opD av0 4 30) 4 30 0 [97]) 4 30 7 [98]) 6).2.2 = 2 := by decide +kernel
theorem av_lit (c : UInt8) : #[Value.int .u8 (c.toNat : Int)] = (([c] : List UInt8).map B).toArray := by simp [B]

/-- A constant's bytes. -/
theorem RdF.litM (w : World) (l : List UInt8) (cs : Array Value) (e : TypeId) (n g : Nat) (m : Nat × Nat) (h : l.length ≤ 4096) (hc : cs = (l.map B).toArray) (hn : n = l.length) (hg : g = w.heap.size) :
    RdF (fun k => w.heap.size ≤ k ∧ k < (w.alloc (.cells cs e m)).heap.size) (w.alloc (.cells cs e m)) (.slice (some ⟨g, 0, none⟩) n n) (l.map B) := by
  subst hc hn hg
  exact ⟨some ⟨w.heap.size, 0, none⟩, l.length, by rw [List.length_map], by rw [List.length_map]; exact Nat.le_refl _, by unfold maxLen; omega, fun _ => ⟨w.heap.size, 0, rfl, by simp, ⟨Nat.le_refl _, by simp⟩, fun j u hu => by
    rw [Nat.zero_add, cell_of_row _ _ _ (l.map B).toArray e m (heap_alloc_new w _)]
    simpa using hu⟩⟩

set_option maxHeartbeats 1000000 in
theorem alive_any (w : World) : Calls Try.prog 8 #[] w fun e w' => e = .returned (.bool true) ∧ Ext w w' := by
  have kc := fun (w : World) (C : Array Value) (n c : Nat) => Lib.run_convert_bytes_const (P := Try.prog) w 38 5 C n c Try.underlying38 Try.underlying5
  go_enter Try.func8, Try.ntmps8
  go_wp2_with fail
  refine (DkW.new (Ext.refl w) 40 (by decide) (by decide)).mono ?_
  rintro e w1 ⟨g, rfl, hd1, -⟩
  go_wp2_with fail
  refine (hd1.open_ (f := 4) (z := 30) (by decide) (by decide) (by decide) (by decide) (by decide)).mono ?_
  rintro e w2 ⟨h, v2, rfl, hl2, hr2, -⟩
  rw [av_end] at hl2
  have hr2' : RdL w2 v2 [] := by rw [← av_rec]; exact hr2.rdl
  obtain ⟨A2, c2, rfl, _, _⟩ := hr2'.sliceN (n := 0) rfl
  clear hd1 hr2 hr2'
  generalize (Fp.since _ w1 w2) = F2 at *
  go_wp2_with fail
  have xl := RdF.litM w2 [97] #[.int .u8 97] 5 1 w2.heap.size (1, 2) (by decide) (av_lit 97) rfl rfl
  have hE : Ext w2 (w2.alloc (.cells #[.int .u8 97] 5 (1, 2))) := (Below.refl _ _).alloc (Nat.le_refl _) _
  have hl2' := hl2.ext hE
  refine (LgAppend _ h g _ 4 30 0 _ [97] _ _ hl2'.1 xl (fun k hk hF => by have := hl2.1.isIn k hF; omega) (fun k hk => hk.2) (by decide) (by decide) (by decide) (by decide) (by decide)).mono ?_
  rintro e w3 ⟨he, hd3, hc3⟩
  obtain rfl := he.trans (congrArg (fun n => Ending.returned (.int .i64 n)) av_e1)
  rw [av_u1] at hd3
  have hl3 : LgW w w3 h g _ 4 30 7 _ := ⟨hd3, since_low hl2'.2.1 hl2'.2.2.size, hc3.ext hl2'.2.2 hl2'.2.1⟩
  clear xl hE hl2 hl2' he hd3 hc3
  generalize (Fp.since F2 _ w3) = F3 at *
  go_wp2_with fail
  have xl := RdF.litM w3 [98] #[.int .u8 98] 5 1 w3.heap.size (1, 2) (by decide) (av_lit 98) rfl rfl
  have hE : Ext w3 (w3.alloc (.cells #[.int .u8 98] 5 (1, 2))) := (Below.refl _ _).alloc (Nat.le_refl _) _
  have hl3' := hl3.ext hE
  refine (LgPut _ h g _ 4 30 7 _ [98] _ _ hl3'.1 xl (fun k hk hF => by have := hl3.1.isIn k hF; omega) (fun k hk => hk.2) (by rw [appS_len, opD_len]; decide) (by decide) (by rw [av_w0]; decide)).mono ?_
  rintro e w4 ⟨he, hd4, hc4⟩
  obtain rfl := he.trans (congrArg (fun n => Ending.returned (.int .i64 n)) av_e2)
  rw [av_u2] at hd4
  have hl4 : LgW w w4 h g _ 4 30 14 _ := ⟨hd4, since_low hl3'.2.1 hl3'.2.2.size, hc4.ext hl3'.2.2 hl3'.2.1⟩
  clear xl hE hl3 hl3' he hd4 hc4
  generalize (Fp.since F3 _ w4) = F4 at *
  go_wp2_with fail
  refine (hl4.used (by decide)).mono ?_
  rintro e w5 ⟨rfl, hl5, -⟩
  obtain ⟨⟨F51, F52, l5, hk5, hg5, ha5, hs1, hs2, hi5, -, -⟩, hlow5, hx5⟩ := hl5
  clear hl4
  go_wp2_with fail
  refine (DkCrash F51 g _ 6 w5 hk5 (by decide) (by decide) (by rw [av_w]; decide)).mono ?_
  rintro e w6 ⟨rfl, hk6, hc6⟩
  have hg6 := hg5.chg hc6 ha5
  have hx6 : Ext w w6 := hc6.ext hx5 (fun k hk => hlow5 k (hs1 k hk))
  have ha6 : Fp.apart (F51.since w5 w6) F52 := Fp.apart.since ha5.symm hg5.isIn
  have hlow6 : ∀ k, F51.since w5 w6 k → w.heap.size ≤ k := since_low (fun k hk => hlow5 k (hs1 k hk)) hx5.size
  clear hk5 hg5 hc6 hx5 hlow5 hs1 hs2 hi5 ha5
  generalize (Fp.since F51 w5 w6) = F61 at *
  go_wp2_with fail
  refine (LgOpen_yes F61 g _ 4 30 w6 hk6 (by rw [crD_len, putS_len, appS_len, opD_len]; decide) (by decide) (by simp [crD]) (by rw [av_n]; decide) (by rw [av_n]; decide)).mono ?_
  rintro e w7 ⟨h7, v7, G1, G2, V, rfl, hk7, -, hv7, -, -, -, -, -, -, hc7⟩
  have hv : RdL w7 v7 [[97]] := by rw [← av_rec2]; exact hv7.rdl
  have hg7 := hg6.chg hc7 ha6.symm
  have hx7 : Ext w w7 := hc7.ext hx6 hlow6
  clear hv7 hc7 hx6 hlow6 hk6 hg6 ha6
  obtain ⟨A7, c7, rfl, _, _⟩ := hv.sliceN (n := 1) rfl
  obtain ⟨b7, o7, rfl, _, hcl⟩ := hv.at (by decide)
  obtain ⟨q, eq, hq⟩ := hcl 0 [97] rfl
  have eq' : w7.cell? ⟨b7, o7, none⟩ = some q := eq
  clear kc
  have kc := run_conv_rd (P := Try.prog) w7 38 9 5 Try.underlying38 Try.underlying5 Try.underlying9 q [97] hq
  obtain ⟨Q, cq, rfl, _, _⟩ := hq.sliceN (n := 1) rfl
  clear hcl hv hq eq
  go_wp2_with fail
  refine (LgRoom_any G1 _ h g av1 4 30 14 l5 5 w7 hk7 hg7 (by rw [av_l1]; decide) (by decide) (by decide) av_w1).mono ?_
  rintro e w8 ⟨he, hx8⟩
  obtain rfl := he.trans (congrArg (fun n => Ending.returned (.bool n)) (av_r5 l5))
  have hg8 := hg7.chg (F := fun _ => False) (Chg.of_ext hx8) (fun _ _ h => h)
  clear he hg7 kc
  go_wp2_with fail
  refine (LgRoom_any G1 _ h g av1 4 30 14 l5 60 w8 (hk7.ext hx8) hg8 (by rw [av_l1]; decide) (by decide) (by decide) av_w1).mono ?_
  rintro e w9 ⟨he, hx9⟩
  obtain rfl := he.trans (congrArg (fun n => Ending.returned (.bool n)) (av_r60 l5))
  have hx := (hx7.trans hx8).trans hx9
  clear he hg8 hx7 hx8 hx9 hk7
  go_wp2
  go_ret
  exact ⟨rfl, hx⟩

end Go.Proofs.Ytnihgpdkolmkgaa

/- Layer 5, the statements: may acts be looked at? -/
namespace Go.Proofs.Ytnihgpdkolmkgaa
open Go.RowKit

def fewL (l : List (Int × Int × List UInt8)) : Bool := decide (l.length ≤ 40) && l.all (fun x => decide (x.2.2.length ≤ 200))

theorem fewL_yes {l : List (Int × Int × List UInt8)} (h : fewL l = true) : l.length ≤ 40 ∧ ∀ x ∈ l, x.2.2.length ≤ 200 := by
  simp only [fewL, Bool.and_eq_true, decide_eq_true_eq, List.all_eq_true] at h
  exact h

theorem fewL_any (l : List (Int × Int × List UInt8)) (v : Value) (w : World) (hr : RdActs w v l) : Calls Try.prog 9 #[v] w fun e w' => e = .returned (.bool (fewL l)) ∧ w = w' := by
  obtain ⟨A, c, rfl, hlc, hcm⟩ := hr.slice_
  by_cases h40 : l.length ≤ 40
  · go_enter Try.func9, Try.ntmps9
    go_wp2
    go_loop [3] (fun i => ∃ k : Nat, i = .int .i64 k ∧ k ≤ l.length ∧ Hid ((l.take k).all (fun x => decide (x.2.2.length ≤ 200)) = true)) (fun i => l.length - (intOf i).toNat)
    case atStart => exact ⟨0, rfl, Nat.zero_le _, Lib.hid rfl⟩
    case round =>
      obtain ⟨k, rfl, hk, HA⟩ := hrel
      by_cases hlt : k < l.length
      · obtain ⟨b, o, rfl, hb, hc⟩ := hr.get (by omega)
        obtain ⟨_, _, _, _, u, hu, hru⟩ := hc k l[k] (List.getElem?_eq_getElem hlt)
        rw [← Nat.add_assoc] at hu
        obtain ⟨A1, c1, rfl, _, _⟩ := hru.sliceN (List.length_map _)
        have hs : l.take (k + 1) = l.take k ++ [l[k]] := List.take_succ_eq_append_getElem hlt
        have hall2 : l[k].2.2.length ≤ 200 → (l.take (k + 1)).all (fun x => decide (x.2.2.length ≤ 200)) = true := fun h => by
          rw [hs, List.all_append, HA.out]
          simpa using h
        have hno : 200 < l[k].2.2.length → fewL l = false := fun h => by
          rw [fewL, Bool.and_eq_false_iff]
          refine .inr ?_
          rw [List.all_eq_false]
          exact ⟨l[k], List.getElem_mem hlt, by simpa using h⟩
        have H2 := Lib.hid hall2
        have HN := Lib.hid hno
        clear hall2 hno hs hc
        generalize l[k].2.2.length = m at *
        by_cases hm : m ≤ 200
        · have hmd : decide (200 < m) = false := by simp; omega
          have H3 := Lib.hid (H2.out hm)
          clear H2 HN
          go_wp2
          go_round
          case rel => exact ⟨k + 1, by go_num, by omega, H3⟩
          case measure => simp [intOf]; omega
        · have H3 := Lib.hid (HN.out (by omega))
          have hmd : decide (200 < m) = true := by simp; omega
          clear H2 HN
          go_wp2
          go_ret
          exact ⟨by rw [H3.out]; rfl, rfl⟩
      · obtain rfl : k = l.length := by omega
        have hf : fewL l = true := by
          have := HA.out
          rw [List.take_length] at this
          rw [fewL, this, decide_eq_true h40]
          rfl
        have HF := Lib.hid hf
        clear hf HA
        go_wp2
        go_ret
        exact ⟨by rw [HF.out]; rfl, rfl⟩
  · have hf : fewL l = false := by rw [fewL, decide_eq_false h40]; rfl
    have HF := Lib.hid hf
    have hd : decide (40 < l.length) = true := by simp; omega
    clear hf
    go_enter Try.func9, Try.ntmps9
    go_wp2
    go_ret
    exact ⟨by rw [HF.out]; rfl, rfl⟩

end Go.Proofs.Ytnihgpdkolmkgaa

/- A list of lists of bytes that the call itself puts together of its arguments, beside objects that lie in F. -/
namespace Go.Proofs.Ytnihgpdkolmkgaa
open Go.RowKit

def WantR (w0 w : World) (v : Value) (L : List (List UInt8)) (F : Fp) : Prop :=
  ∃ vs : List Value, w.ownsRow w0.heap.size 38 1 v vs.length vs ∧ vs.length = L.length ∧ (∀ k, v.ownBlock = some k → ¬ F k) ∧
    ∀ (i : Nat) u l, vs[i]? = some u → L[i]? = some l → RdF (fun k => k < w0.heap.size) w u (l.map B)

section
variable {w0 w w' : World} {v : Value} {L : List (List UInt8)} {F : Fp}
theorem WantR.nil (w0 w : World) (F : Fp) : WantR w0 w (.slice none 0 0) [] F := ⟨[], World.ownsRow_nil _ _ _ _, rfl, (fun k hk => by cases hk), fun i u l hu _ => by simp at hu⟩
theorem WantR.rdl (h : WantR w0 w v L F) : RdL w v L := by
  obtain ⟨vs, h1, h2, h3, h4⟩ := h
  exact ⟨vs, Rd.own h1, h2, fun i u l hu hl => (h4 i u l hu hl).rd⟩
theorem WantR.low (h : WantR w0 w v L F) : ∀ k, v.ownBlock = some k → w0.heap.size ≤ k ∧ k < w.heap.size ∧ ¬ F k := fun k hk => by
  obtain ⟨vs, h1, h2, h3, h4⟩ := h
  exact ⟨(h1.lt k hk).1, (h1.lt k hk).2, h3 k hk⟩
/-- What lies in F turned: the list stands. -/
theorem WantR.chg (h : WantR w0 w v L F) (hc : Chg F w w') (hf : ∀ k, F k → w0.heap.size ≤ k) : WantR w0 w' v L (F.since w w') := by
  obtain ⟨vs, h1, h2, h3, h4⟩ := h
  refine ⟨vs, ⟨h1.1, ?_⟩, h2, fun k hk hF => ?_, fun i u l hu hl => (h4 i u l hu hl).chg hc (fun k hk hF => by have := hf k hF; omega)⟩
  · rcases h1.2 with hv | ⟨g, cap, cur, hv, hg, hh, r⟩
    · exact .inl hv
    · exact .inr ⟨g, cap, cur, hv, hg, by rw [hc.block g (Array.getElem?_eq_some_iff.1 hh).1 (h3 g (by rw [hv]; rfl))]; exact hh, r⟩
  · rcases hF with hF | hF
    · exact h3 k hk hF
    · have := (h1.lt k hk).2
      omega
theorem WantR.ext (h : WantR w0 w v L F) (hx : Ext w w') : WantR w0 w' v L F := by
  obtain ⟨vs, h1, h2, h3, h4⟩ := h
  refine ⟨vs, ⟨h1.1, ?_⟩, h2, h3, fun i u l hu hl => (h4 i u l hu hl).chg (G := fun _ => False) (Chg.of_ext hx) (fun _ _ h => h)⟩
  rcases h1.2 with hv | ⟨g, cap, cur, hv, hg, hh, r⟩
  · exact .inl hv
  · exact .inr ⟨g, cap, cur, hv, hg, by rw [hx.block g (Array.getElem?_eq_some_iff.1 hh).1]; exact hh, r⟩
theorem WantR.to {G : Fp} (h : WantR w0 w v L F) (hg : ∀ k, G k → F k) : WantR w0 w v L G := by
  obtain ⟨vs, h1, h2, h3, h4⟩ := h
  exact ⟨vs, h1, h2, fun k hk hG => h3 k hk (hg k hG), h4⟩
end

/-- 'want = append(want, p)'. -/
theorem push_want {w0 w : World} {ops : Array Oper} {rest : List Oper} {o : Oper} {a : Act} {Q : Exit → Act → World → Prop} {gx : Nat} (hgd : o.guard = none) (s x : Operand)
    (ho : o.op = .call { callee := .builtin .append, args := #[s, x], argTypes := #[30, 30] })
    (v : Value) (L : List (List UInt8)) (F : Fp) (hW : WantR w0 w v L F) (hF : F.isIn w) (hx0 : w0.heap.size ≤ w.heap.size) (A : Option Addr) (n c : Nat) (l : List UInt8) (hu : RdF (fun k => k < w0.heap.size) w (.slice A n c) (l.map B)) (hs : a.eval s = v)
    (hx : a.eval x = .slice (some ⟨gx, 0, none⟩) 1 1) (hlen : L.length < 1000000000000)
    (h : ∀ v' w', WantR w0 w' v' (L ++ [l]) F → Chg (fun k => w0.heap.size ≤ k ∧ ¬ F k) w w' → wpList Try.prog ops Q rest (a.put o.dst v') w') (hgx : gx = w.heap.size := by simp) : wpList Try.prog ops Q (o :: rest) a (w.alloc (.cells #[.slice A n c] 38)) := by
  subst hgx
  have hlow := hW.low
  obtain ⟨vs, h1, h2, h3, h4⟩ := hW
  refine wpList_push hgd s x 30 ho w0.heap.size 38 (.slice none 0 0) 24 Try.underlying30 Try.infoRow rfl v vs hs h1 (.slice A n c) rfl hx (by unfold maxLen; omega) (by omega) hx0 (fun v' w' hg => ?_)
  have hc : Chg (fun k => v.ownBlock = some k) w w' := Chg.of_grown hg.2.1 (fun k hk => hk)
  refine h v' w' ⟨vs ++ [.slice A n c], hg.1, by rw [List.length_append, List.length_append, h2]; rfl, fun k hk hFk => ?_, fun i u q hi hq => ?_⟩ (hc.mono fun k _ hk => ⟨(hlow k hk).1, (hlow k hk).2.2⟩)
  · rcases hg.2.2 with hb | hb
    · exact h3 k (by rw [← hb]; exact hk) hFk
    · have := hb k hk
      have := hF k hFk
      omega
  · have hap : Fp.apart (fun k => k < w0.heap.size) (fun k => v.ownBlock = some k) := fun k hk hk2 => by
      have := (hlow k hk2).1
      omega
    by_cases hi2 : i < vs.length
    · rw [List.getElem?_append_left hi2] at hi
      rw [List.getElem?_append_left (by omega)] at hq
      exact (h4 i u q hi hq).chg hc hap
    · have hi3 : i = vs.length := by
        have := (List.getElem?_eq_some_iff.1 hi).1
        rw [List.length_append, List.length_singleton] at this
        omega
      subst hi3
      rw [List.getElem?_append_right (Nat.le_refl _), Nat.sub_self] at hi
      rw [h2, List.getElem?_append_right (Nat.le_refl _), Nat.sub_self] at hq
      simp only [List.getElem?_cons_zero, Option.some.injEq] at hi hq
      subst hi hq
      exact hu.chg hc hap

end Go.Proofs.Ytnihgpdkolmkgaa

/- Layer 3, the reference: the same lists of bytes? -/
namespace Go.Proofs.Ytnihgpdkolmkgaa
open Go.RowKit

set_option maxHeartbeats 1000000 in
theorem RefSame_any (xs ys : List (List UInt8)) (u v : Value) (w : World) (hu : RdL w u xs) (hv : RdL w v ys) :
    Calls Try.prog 24 #[u, v] w fun e w' => e = .returned (.bool (decide (xs = ys))) ∧ ∃ n, w' = w.drewN n := by
  obtain ⟨A, c, rfl, hlc, hcm⟩ := hu.sliceN rfl
  obtain ⟨A', c', rfl, hlc', hcm'⟩ := hv.sliceN rfl
  unfold maxLen at hcm hcm'
  by_cases hl : xs.length = ys.length
  · have HL := Lib.hid hl
    rw [hl] at hlc hu ⊢
    clear hl
    go_enter Try.func24, Try.ntmps24
    go_wp2
    go_loopw [5] (fun i' wr => ∃ i k : Nat, i' = .int .i64 i ∧ i ≤ ys.length ∧ xs.take i = ys.take i ∧ wr = w.drewN k) (fun i' _ => ys.length - (intOf i').toNat)
    case atStart => exact ⟨0, 0, rfl, by omega, rfl, rfl⟩
    case round =>
      obtain ⟨i, k, rfl, hi, htk, hwk⟩ := hrel
      have hu1 := hu.ext (Below.drewN' (Ext.refl w) k)
      have hv1 := hv.ext (Below.drewN' (Ext.refl w) k)
      rw [← hwk] at hu1 hv1
      have HW := Lib.hid hwk
      have HT := Lib.hid htk
      clear htk hwk
      by_cases hlt : i < ys.length
      · have hlx : i < xs.length := by have := HL.out; omega
        obtain ⟨b, o, rfl, hb, hc1⟩ := hu1.at (by have := HL.out; omega)
        obtain ⟨b', o', rfl, hb', hc2⟩ := hv1.at (by omega)
        obtain ⟨p, e1, hp⟩ := hc1 i xs[i] (List.getElem?_eq_getElem hlx)
        obtain ⟨q, e2, hq⟩ := hc2 i ys[i] (List.getElem?_eq_getElem hlt)
        obtain ⟨P, cp, rfl, _, _⟩ := hp.sliceN (List.length_map _)
        obtain ⟨Q, cq, rfl, _, _⟩ := hq.sliceN (List.length_map _)
        clear hc1 hc2
        generalize hx : xs[i] = x at *
        generalize hy : ys[i] = y at *
        have HX := Lib.hid hx
        have HY := Lib.hid hy
        clear hx hy
        have hcall : ∀ n, Calls Try.prog 26 #[.slice P x.length cp, .slice Q y.length cq] (wr.drewN n) fun e w' => e = .returned (.bool (decide (x = y))) ∧ ∃ m, w' = (wr.drewN n).drewN m :=
          fun n => Bytes_any x y _ _ _ (hp.ext (Below.drewN' (Ext.refl wr) n)) (hq.ext (Below.drewN' (Ext.refl wr) n))
        have HC := Lib.hid hcall
        clear hcall
        by_cases hxy : x = y
        · have hd : decide (x = y) = true := decide_eq_true hxy
          rw [hd] at HC
          have HXY := Lib.hid hxy
          clear hxy hd
          go_wp2_with fail
          go_quiet ((go_at_call 26; exact Calls.quiet_of (HC.out _)))
          go_wp2
          go_roundw
          case rel => exact ⟨i + 1, _, by go_num, by omega, by rw [take_snoc _ _ hlx, take_snoc _ _ hlt, HT.out, HX.out, HY.out, HXY.out], by rw [HW.out]; exact World.drewN_drewN _ _ _⟩
          case measure => simp [intOf]; omega
        · have hd : decide (x = y) = false := decide_eq_false hxy
          rw [hd] at HC
          have HXY := Lib.hid hxy
          clear hxy hd
          go_wp2_with fail
          go_quiet ((go_at_call 26; exact Calls.quiet_of (HC.out _)))
          go_wp2
          go_ret
          refine ⟨?_, _, by rw [HW.out]; exact World.drewN_drewN _ _ _⟩
          rw [decide_eq_false (fun e => HXY.out (by rw [← HX.out, ← HY.out]; simp only [e]))]
          rfl
      · obtain rfl : i = ys.length := by omega
        go_wp2
        go_ret
        refine ⟨?_, _, HW.out⟩
        have := HT.out
        rw [List.take_length, ← HL.out, List.take_length] at this
        rw [decide_eq_true this]
        rfl
  · have hlb : ((xs.length : Int) == (ys.length : Int)) = false := by rw [beq_eq_false_iff_ne]; omega
    have H := Lib.hid hl
    clear hl
    go_enter Try.func24, Try.ntmps24
    go_wp2
    go_ret
    exact ⟨by rw [decide_eq_false (fun e => H.out (by rw [e]))]; rfl, 0, rfl⟩

end Go.Proofs.Ytnihgpdkolmkgaa
