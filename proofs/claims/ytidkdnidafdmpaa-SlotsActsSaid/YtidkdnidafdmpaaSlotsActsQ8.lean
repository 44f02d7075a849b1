/- Texts that the proof of SlotsActs rests on, one behind the other. -/
import Derived.Test.YtidkdnidafdmpaaSlotsActsQ7
import Derived.Test.YtidkdnidafdmpaaRows
import Derived.Outline
import Derived.Lib.SlBytesConst
import Derived.Deep.RegionHeld3
import Derived.Deep.DeepCutAuto

/- Package slots: what its calls do. -/
namespace Go.Proofs.Ytidkdnidafdmpaa
open Go.RowKit

theorem SlStart (F : Fp) (h g : Nat) (s : DkS) (f z : Nat) (H : Fp) (p : List UInt8) (v : Value) (age : Int) (w : World) (hd : SD F w h g s f z) (hr : RdF H w v (p.map B)) (_ha : H.apart F) (_hH : H.isIn w) (hz : f + 2 * z ≤ s.1.length) (h1 : 1 ≤ z) (hw : s.2.1.length ≤ 100000000) (hn0 : 0 ≤ s.2.2) (hn1 : s.2.2 ≤ 100000000) (hp : p.length ≤ 1000000) (_a0 : -9223372036854775808 ≤ age) (_a1 : age ≤ 9223372036854775807) :
    Calls Try.prog 15 #[.pointer (some ⟨h, 0, none⟩), v, .int .i64 age] w fun e w' => e = .returned (.int .i64 (stE s f z p age)) ∧ SD (F.since w w') w' h g (stS s f z p age) f z ∧ Chg F w w' := by
  have hx : ∀ (E : Int), stE s f z p age = E → E ≠ 0 → Calls Try.prog 15 #[.pointer (some ⟨h, 0, none⟩), v, .int .i64 age] w (fun e w' => e = .returned (.int .i64 E) ∧ Ext w w') →
      Calls Try.prog 15 #[.pointer (some ⟨h, 0, none⟩), v, .int .i64 age] w fun e w' => e = .returned (.int .i64 (stE s f z p age)) ∧ SD (F.since w w') w' h g (stS s f z p age) f z ∧ Chg F w w' := by
    intro E hE h0 K
    refine K.mono ?_
    rintro e w' ⟨rfl, hx⟩
    rw [stS, hE, if_neg h0]
    exact ⟨rfl, hd.later hx, Chg.of_ext hx⟩
  by_cases hn : 0 ≤ age ∧ age < 9007199254740992
  · obtain ⟨n, rfl⟩ : ∃ n : Nat, age = n := ⟨age.toNat, by omega⟩
    by_cases ho : (n : Int) ≤ ageI (loadD s f z)
    · refine hx 6 ?_ (by decide) (SlStart_old F h g s f z v n w hd hz h1 (by omega) (by omega) ho)
      rw [stE, if_neg (fun h => h hn), if_pos ((load_old s f z n).1 ho)]
    · by_cases hf : frameB (payB n p) = [] ∨ z < (frameB (payB n p)).length
      · refine hx 3 ?_ (by decide) (SlStart_full F h g s f z p v n w hd hr.rd hz h1 (by omega) hp (by omega) ho hf)
        rw [stE, if_neg (fun h => h hn), if_neg (fun h => ho ((load_old s f z n).2 h)), frP, Int.toNat_natCast, if_pos hf]
      · have hE : stE s f z p n = 0 := by rw [stE, if_neg (fun h => h hn), if_neg (fun h => ho ((load_old s f z n).2 h)), frP, Int.toNat_natCast, if_neg hf]
        rw [stS, hE, if_pos rfl]
        exact SlStart_yes F h g s f z p v n w hd hr.rd hz h1 hw hn0 hn1 hp (by omega) ho hf
  · refine hx 1 ?_ (by decide) (SlStart_num _ v age w hn)
    rw [stE, if_pos hn]

theorem stE_le (s : DkS) (f z : Nat) (p : List UInt8) (age : Int) : 0 ≤ stE s f z p age ∧ stE s f z p age ≤ 6 := by
  unfold stE
  split
  · omega
  · split
    · omega
    · split <;> omega

set_option maxRecDepth 100000 in
theorem SlSave (F : Fp) (h g : Nat) (s : DkS) (f z : Nat) (H : Fp) (p : List UInt8) (v : Value) (age : Int) (w : World) (hd : SD F w h g s f z) (hr : RdF H w v (p.map B)) (ha : H.apart F) (hH : H.isIn w) (hz : f + 2 * z ≤ s.1.length) (h1 : 1 ≤ z) (hw : s.2.1.length ≤ 100000000) (hn0 : 0 ≤ s.2.2) (hn1 : s.2.2 ≤ 100000000) (hp : p.length ≤ 1000000) (a0 : -9223372036854775808 ≤ age) (a1 : age ≤ 9223372036854775807) :
    Calls Try.prog 14 #[.pointer (some ⟨h, 0, none⟩), v, .int .i64 age] w fun e w' => e = .returned (.int .i64 (stE s f z p age)) ∧ SD (F.since w w') w' h g (svS s f z p age) f z ∧ Chg F w w' := by
  have HK := Lib.hid (SlStart F h g s f z H p v age w hd hr ha hH hz h1 hw hn0 hn1 hp a0 a1)
  have HI := Lib.hid hd.isIn
  by_cases he : stE s f z p age = 0
  · have hS : svS s f z p age = syD (stS s f z p age) := by rw [svS, if_pos he, stS, if_pos he]
    have hy := stE_yes he
    have hwt : (stS s f z p age).2.1.length ≤ 1000000000 := by
      rw [stS, if_pos he]
      have := stD_waits s f z p age
      have := hd.lens
      omega
    have hnn : (stS s f z p age).2.2 = s.2.2 + 1 := by rw [stS, if_pos he, stD_n]
    have HS := Lib.hid (And.intro hS (And.intro hwt hnn))
    rw [he] at HK ⊢
    clear hd hr ha hH hz h1 hw hp a0 a1 he hS hy hwt hnn
    go_enter Try.func14, Try.ntmps14
    go_wp2_with fail
    refine HK.out.mono ?_
    rintro e w1 ⟨rfl, hd1, hc1⟩
    have c0 := hd1.sl.c0
    have HD1 := Lib.hid hd1
    have HC1 := Lib.hid hc1
    clear hd1 hc1 HK
    go_wp2_with fail
    refine (SD.turn HD1.out (fun F1 hd1 => DkSync F1 g _ w1 hd1 HS.out.2.1 (by rw [HS.out.2.2]; omega) (by rw [HS.out.2.2]; omega))).mono ?_
    rintro e w2 ⟨rfl, hd2, hc2⟩
    have HD2 := Lib.hid hd2
    have HC2 := Lib.hid hc2
    clear hd2 hc2
    go_wp2
    go_ret
    have t1 := HC1.out.size
    have t2 := HC2.out.size
    refine ⟨rfl, ?_, HC1.out.step HC2.out⟩
    rw [HS.out.1]
    exact HD2.out.mono (Fp.since_since t1 t2) (HI.out.since (by omega))
  · have hS : svS s f z p age = stS s f z p age := by rw [svS, if_neg he, stS, if_neg he]
    have hE : (stE s f z p age == 0) = false := by rw [beq_eq_false_iff_ne]; exact he
    have HS := Lib.hid hS
    clear hd hr ha hH hz h1 hw hp a0 a1 he hS hn0 hn1
    generalize stE s f z p age = E at *
    go_enter Try.func14, Try.ntmps14
    go_wp2_with fail
    refine HK.out.mono ?_
    rintro e w1 ⟨rfl, hd1, hc1⟩
    have HD1 := Lib.hid hd1
    have HC1 := Lib.hid hc1
    clear hd1 hc1 HK
    go_wp2
    go_ret
    rw [HS.out]
    exact ⟨rfl, HD1.out, HC1.out⟩

set_option maxRecDepth 100000 in
theorem SlSave_nil (p : List UInt8) (v : Value) (age : Int) (w : World) (hr : Rd w v (p.map B)) (a0 : -9223372036854775808 ≤ age) (a1 : age ≤ 9223372036854775807) : Calls Try.prog 14 #[.pointer none, v, .int .i64 age] w fun e w' => e = .returned (.int .i64 1) ∧ Ext w w' := by
  have HK := Lib.hid (SlStart_nil p v age w hr a0 a1)
  clear hr a0 a1
  go_enter Try.func14, Try.ntmps14
  go_wp2_with fail
  refine HK.out.mono ?_
  rintro e w1 ⟨rfl, hx1⟩
  go_wp2
  go_ret
  exact ⟨rfl, hx1⟩

end Go.Proofs.Ytidkdnidafdmpaa

/- Layer 6: a disk and slots that a call made itself, through the calls. -/
namespace Go.Proofs.Ytidkdnidafdmpaa
open Go.RowKit

/-- Since w0 all that was there stands; the disk and the slots were made since, and lie in F. -/
def SlW (w0 w : World) (h g : Nat) (s : DkS) (f z : Nat) (F : Fp) : Prop := SD F w h g s f z ∧ (∀ k, F k → w0.heap.size ≤ k) ∧ Ext w0 w
/-- A disk alone. -/
def DsW (w0 w : World) (g : Nat) (s : DkS) (F : Fp) : Prop := Dk F w g s ∧ (∀ k, F k → w0.heap.size ≤ k) ∧ Ext w0 w

section
variable {w0 w w' : World} {h g f z : Nat} {s : DkS} {F G : Fp} {p : List UInt8} {v : Value} {age : Int}
theorem since_lowS (hf : ∀ k, F k → w0.heap.size ≤ k) (hs : w0.heap.size ≤ w.heap.size) : ∀ k, F.since w w' k → w0.heap.size ≤ k := fun k hk => by
  rcases hk with hk | hk
  · exact hf k hk
  · exact Nat.le_trans hs hk.1
theorem old_apartS (hf : ∀ k, F k → w0.heap.size ≤ k) : Fp.apart (fun k => k < w0.heap.size) F := fun k hk hF => by
  have := hf k hF
  omega
theorem old_rdS {xs : List Value} (hr : Rd w0 v xs) (hx : Ext w0 w) : RdF (fun k => k < w0.heap.size) w v xs := hr.old.chg (G := fun _ => False) (Chg.of_ext hx) (fun _ _ h => h)
theorem old_inS (hx : Ext w0 w) : Fp.isIn (fun k => k < w0.heap.size) w := fun _ hk => Nat.lt_of_lt_of_le hk hx.size
theorem nsinceS {i : Nat} (h1 : ¬ F i) (h2 : i < w.heap.size) : ¬ F.since w w' i := fun h => by
  rcases h with h | h
  · exact h1 h
  · omega
theorem SlW.ext (hl : SlW w0 w h g s f z F) (hx : Ext w w') : SlW w0 w' h g s f z F := ⟨hl.1.ext hx, hl.2.1, hl.2.2.trans hx⟩
theorem SlW.chg (hl : SlW w0 w h g s f z F) (hc : Chg G w w') (ha : F.apart G) (hg : ∀ k, G k → w0.heap.size ≤ k) : SlW w0 w' h g s f z F := ⟨hl.1.chg hc ha, hl.2.1, hc.ext hl.2.2 hg⟩
theorem SlW.dsW (hl : SlW w0 w h g s f z F) : DsW w0 w g s F := ⟨hl.1.dk, hl.2⟩
theorem DsW.ext (hl : DsW w0 w g s F) (hx : Ext w w') : DsW w0 w' g s F := ⟨Dk.ext hl.1 hx, hl.2.1, hl.2.2.trans hx⟩
theorem DsW.new (hx : Ext w0 w) (n : Nat) (h1 : 1 ≤ n) (h2 : n ≤ 65536) : Calls Try.prog 9 #[.int .i64 (n : Int)] w fun e w' =>
    ∃ g, e = .returned (.pointer (some ⟨g, 0, none⟩)) ∧ DsW w0 w' g (List.replicate n 0, [], 0) (fun k => w.heap.size ≤ k ∧ k < w'.heap.size) ∧ Ext w w' :=
  (DkNew_yes n w h1 h2).mono fun _ _ ⟨g, he, hd, hx'⟩ => ⟨g, he, ⟨hd, fun _ hk => Nat.le_trans hx.size hk.1, hx.trans hx'⟩, hx'⟩
theorem DsW.open_ (hl : DsW w0 w g s F) (hz : f + 2 * z ≤ s.1.length) (h1 : 1 ≤ z) :
    Calls Try.prog 11 #[.pointer (some ⟨g, 0, none⟩), .int .i64 (f : Int), .int .i64 (z : Int)] w fun e w' => ∃ h : Nat, e = .returned (.tuple #[.pointer (some ⟨h, 0, none⟩), .int .i64 0]) ∧
      SlW w0 w' h g s f z (F.since w w') ∧ Ext w w' := by
  refine (SlOpen_yes F g s f z w hl.1 hz h1).mono ?_
  rintro e w' ⟨h, he, hs, hx⟩
  refine ⟨h, he, ⟨⟨F, _, Dk.ext hl.1 hx, hs, fun k hk hF => ?_, fun _ hk => .inl hk, fun _ hk => .inr hk, hl.1.isIn.since hx.size⟩, since_lowS hl.2.1 hl.2.2.size, hl.2.2.trans hx⟩, hx⟩
  have := hl.1.isIn k hF
  omega
theorem SlW.start (hl : SlW w0 w h g s f z F) (hr : Rd w0 v (p.map B)) (hz : f + 2 * z ≤ s.1.length) (h1 : 1 ≤ z) (hw : s.2.1.length ≤ 100000000) (hn0 : 0 ≤ s.2.2) (hn1 : s.2.2 ≤ 100000000) (hp : p.length ≤ 1000000) (a0 : -9223372036854775808 ≤ age) (a1 : age ≤ 9223372036854775807) :
    Calls Try.prog 15 #[.pointer (some ⟨h, 0, none⟩), v, .int .i64 age] w fun e w' => e = .returned (.int .i64 (stE s f z p age)) ∧ SlW w0 w' h g (stS s f z p age) f z (F.since w w') ∧ Chg F w w' :=
  (SlStart F h g s f z _ p v age w hl.1 (old_rdS hr hl.2.2) (old_apartS hl.2.1) (old_inS hl.2.2) hz h1 hw hn0 hn1 hp a0 a1).mono fun _ _ ⟨he, hd, hc⟩ => ⟨he, ⟨hd, since_lowS hl.2.1 hl.2.2.size, hc.ext hl.2.2 hl.2.1⟩, hc⟩
theorem SlW.save (hl : SlW w0 w h g s f z F) (hr : Rd w0 v (p.map B)) (hz : f + 2 * z ≤ s.1.length) (h1 : 1 ≤ z) (hw : s.2.1.length ≤ 100000000) (hn0 : 0 ≤ s.2.2) (hn1 : s.2.2 ≤ 100000000) (hp : p.length ≤ 1000000) (a0 : -9223372036854775808 ≤ age) (a1 : age ≤ 9223372036854775807) :
    Calls Try.prog 14 #[.pointer (some ⟨h, 0, none⟩), v, .int .i64 age] w fun e w' => e = .returned (.int .i64 (stE s f z p age)) ∧ SlW w0 w' h g (svS s f z p age) f z (F.since w w') ∧ Chg F w w' :=
  (SlSave F h g s f z _ p v age w hl.1 (old_rdS hr hl.2.2) (old_apartS hl.2.1) (old_inS hl.2.2) hz h1 hw hn0 hn1 hp a0 a1).mono fun _ _ ⟨he, hd, hc⟩ => ⟨he, ⟨hd, since_lowS hl.2.1 hl.2.2.size, hc.ext hl.2.2 hl.2.1⟩, hc⟩
theorem SlW.load (hl : SlW w0 w h g s f z F) (hz : f + 2 * z ≤ s.1.length) (h1 : 1 ≤ z) (hw : s.2.1.length ≤ 1000000000) :
    Calls Try.prog 13 #[.pointer (some ⟨h, 0, none⟩)] w fun e w' => LoadP (loadD s f z) w e w' ∧ SlW w0 w' h g s f z F :=
  (SlLoad F h g s f z w hl.1 hz h1 hw).mono fun _ _ hp => ⟨hp, by obtain ⟨v, _, _, hx⟩ := hp; exact hl.ext hx⟩
theorem SlW.crash (hl : SlW w0 w h g s f z F) (k : Int) (h0 : -9223372036854775808 ≤ k) (h1 : k ≤ 9223372036854775807) (hw : s.2.1.length ≤ 1000000000) :
    Calls Try.prog 18 #[.pointer (some ⟨g, 0, none⟩), .int .i64 k] w fun e w' => e = .returned (.tuple #[]) ∧ SlW w0 w' h g (crD s k) f z (F.since w w') ∧ Chg F w w' :=
  (hl.1.turn fun F1 hd => DkCrash F1 g s k w hd h0 h1 hw).mono fun _ _ ⟨he, hd, hc⟩ => ⟨he, ⟨hd, since_lowS hl.2.1 hl.2.2.size, hc.ext hl.2.2 hl.2.1⟩, hc⟩
end

end Go.Proofs.Ytidkdnidafdmpaa

/- Two closed facts on the program that every row asks. -/
namespace Go.Proofs.Ytidkdnidafdmpaa
open Go.RowKit

theorem Try.ownKnob : ownKnob Try.prog.godebug = none := by kernel_rfl

theorem Try.laidOut : laidOutB Try.prog = true := by kernel_rfl

end Go.Proofs.Ytidkdnidafdmpaa

/- Layer 6, the statements: what all of them ask first. -/
namespace Go.Proofs.Ytidkdnidafdmpaa
open Go.RowKit

/-- What the example comes to. -/
abbrev aw0 : DkS := (List.replicate 60 0, [], 0)
abbrev aw1 : DkS := svS aw0 2 20 [97] 1
abbrev aw2 : DkS := stS aw1 2 20 [98] 2
abbrev aw3 : DkS := crD aw2 3
theorem aw_e1 : stE aw0 2 20 [97] 1 = 0 := by decide +kernel
theorem aw_e2 : stE aw1 2 20 [98] 2 = 0 := by decide +kernel
theorem aw_w1 : aw1.2.1.length = 0 := by decide +kernel
theorem aw_n1 : aw1.2.2 = 2 := by decide +kernel
theorem aw_l1 : aw1.1.length = 60 := by decide +kernel
theorem aw_w2 : aw2.2.1.length = 8 := by decide +kernel
theorem aw_n3 : aw3.2.2 = 3 := by decide +kernel
theorem aw_l3 : aw3.1.length = 60 := by decide +kernel
theorem aw_l2 : aw2.1.length = 60 := by decide +kernel
theorem aw_ld : loadD aw3 2 20 = some ([97], 1) := by decide +kernel
theorem aw_e3 : stE aw3 2 20 [] 1 = 6 := by decide +kernel
theorem aw_lit (c : UInt8) : #[Value.int .u8 (c.toNat : Int)] = (([c] : List UInt8).map B).toArray := by simp [B]

/-- A constant's bytes. -/
theorem RdF.litS (w : World) (l : List UInt8) (cs : Array Value) (e : TypeId) (n g : Nat) (m : Nat × Nat) (h : l.length ≤ 4096) (hc : cs = (l.map B).toArray) (hn : n = l.length) (hg : g = w.heap.size) :
    RdF (fun k => w.heap.size ≤ k ∧ k < (w.alloc (.cells cs e m)).heap.size) (w.alloc (.cells cs e m)) (.slice (some ⟨g, 0, none⟩) n n) (l.map B) := by
  subst hc hn hg
  exact ⟨some ⟨w.heap.size, 0, none⟩, l.length, by rw [List.length_map], by rw [List.length_map]; exact Nat.le_refl _, by unfold maxLen; omega, fun _ => ⟨w.heap.size, 0, rfl, by simp, ⟨Nat.le_refl _, by simp⟩, fun j u hu => by
    rw [Nat.zero_add, cell_of_row _ _ _ (l.map B).toArray e m (heap_alloc_new w _)]
    simpa using hu⟩⟩

set_option maxRecDepth 100000 in
set_option maxHeartbeats 1000000 in
theorem alive6_any (w : World) : Calls Try.prog 7 #[] w fun e w' => e = .returned (.bool true) ∧ Ext w w' := by
  have kc := fun (w : World) (C : Array Value) (n c : Nat) => Lib.run_convert_bytes_const (P := Try.prog) w 36 5 C n c Try.underlying36 Try.underlying5
  go_enter Try.func7, Try.ntmps7
  go_wp2_with fail
  refine (DsW.new (Ext.refl w) 60 (by decide) (by decide)).mono ?_
  rintro e w1 ⟨g, rfl, hd1, -⟩
  go_wp2_with fail
  refine (hd1.open_ (f := 2) (z := 20) (by decide) (by decide)).mono ?_
  rintro e w2 ⟨h, rfl, hl2, -⟩
  clear hd1
  generalize (Fp.since _ w1 w2) = F2 at *
  go_wp2_with fail
  have xl := RdF.litS w2 [97] #[.int .u8 97] 5 1 w2.heap.size (1, 2) (by decide) (aw_lit 97) rfl rfl
  have hE : Ext w2 (w2.alloc (.cells #[.int .u8 97] 5 (1, 2))) := (Below.refl _ _).alloc (Nat.le_refl _) _
  have hl2' := hl2.ext hE
  refine (SlSave _ h g _ 2 20 _ [97] _ 1 _ hl2'.1 xl (fun k hk hF => by have := hl2.1.isIn k hF; omega) (fun k hk => hk.2) (by decide) (by decide) (by decide) (by decide) (by decide) (by decide) (by decide) (by decide)).mono ?_
  rintro e w3 ⟨he, hd3, hc3⟩
  obtain rfl := he.trans (congrArg (fun n => Ending.returned (.int .i64 n)) aw_e1)
  have hl3 : SlW w w3 h g aw1 2 20 _ := ⟨hd3, since_lowS hl2'.2.1 hl2'.2.2.size, hc3.ext hl2'.2.2 hl2'.2.1⟩
  clear xl hE hl2 hl2' he hd3 hc3
  generalize (Fp.since F2 _ w3) = F3 at *
  go_wp2_with fail
  have xl := RdF.litS w3 [98] #[.int .u8 98] 5 1 w3.heap.size (1, 2) (by decide) (aw_lit 98) rfl rfl
  have hE : Ext w3 (w3.alloc (.cells #[.int .u8 98] 5 (1, 2))) := (Below.refl _ _).alloc (Nat.le_refl _) _
  have hl3' := hl3.ext hE
  refine (SlStart _ h g _ 2 20 _ [98] _ 2 _ hl3'.1 xl (fun k hk hF => by have := hl3.1.isIn k hF; omega) (fun k hk => hk.2) (by rw [aw_l1]; decide) (by decide) (by rw [aw_w1]; decide) (by rw [aw_n1]; decide) (by rw [aw_n1]; decide) (by decide) (by decide) (by decide)).mono ?_
  rintro e w4 ⟨he, hd4, hc4⟩
  obtain rfl := he.trans (congrArg (fun n => Ending.returned (.int .i64 n)) aw_e2)
  have hl4 : SlW w w4 h g aw2 2 20 _ := ⟨hd4, since_lowS hl3'.2.1 hl3'.2.2.size, hc4.ext hl3'.2.2 hl3'.2.1⟩
  clear xl hE hl3 hl3' he hd4 hc4
  generalize (Fp.since F3 _ w4) = F4 at *
  go_wp2_with fail
  refine (hl4.crash 3 (by decide) (by decide) (by rw [aw_w2]; decide)).mono ?_
  rintro e w5 ⟨rfl, hl5, -⟩
  clear hl4
  generalize (Fp.since F4 _ w5) = F5 at *
  go_wp2_with fail
  refine (hl5.load (by rw [aw_l3]; decide) (by decide) (by simp [crD])).mono ?_
  rintro e w6 ⟨⟨v6, he, hr6, -⟩, hl6⟩
  rw [aw_ld] at he hr6
  obtain rfl := he
  have hr6 : Rd w6 v6 (([97] : List UInt8).map B) := hr6
  obtain ⟨A6, c6, rfl, _, _⟩ := hr6.sliceN (n := 1) rfl
  have kc6 := run_conv_rd (P := Try.prog) w6 36 9 5 Try.underlying36 Try.underlying5 Try.underlying9 _ [97] hr6
  have HL6 := Lib.hid hl6
  clear hl5 hl6 hr6 kc
  go_wp2_with fail
  refine (SlSave _ h g _ 2 20 (fun _ => False) [] _ 1 _ HL6.out.1 ⟨none, 0, rfl, Nat.le_refl _, Nat.zero_le _, fun h => absurd h (by simp)⟩ (fun _ hk => hk.elim) (fun _ hk => hk.elim) (by rw [aw_l3]; decide) (by decide) (by simp [crD]) (by rw [aw_n3]; decide) (by rw [aw_n3]; decide) (by decide) (by decide) (by decide)).mono ?_
  rintro e w7 ⟨he, hd7, hc7⟩
  obtain rfl := he.trans (congrArg (fun n => Ending.returned (.int .i64 n)) aw_e3)
  have hx7 := hc7.ext HL6.out.2.2 HL6.out.2.1
  clear he hd7 hc7
  go_wp2
  go_ret
  exact ⟨rfl, hx7⟩

end Go.Proofs.Ytidkdnidafdmpaa

/- Layer 6, the statements: may acts be looked at? -/
namespace Go.Proofs.Ytidkdnidafdmpaa
open Go.RowKit

def fewS (l : List Act3) : Bool := decide (l.length ≤ 40) && l.all (fun x => decide (x.2.2.2.length ≤ 200))

theorem fewS_yes {l : List Act3} (h : fewS l = true) : l.length ≤ 40 ∧ ∀ x ∈ l, x.2.2.2.length ≤ 200 := by
  simp only [fewS, Bool.and_eq_true, decide_eq_true_eq, List.all_eq_true] at h
  exact h

theorem fewS_any (l : List Act3) (v : Value) (w : World) (hr : RdActs3 w v l) : Calls Try.prog 8 #[v] w fun e w' => e = .returned (.bool (fewS l)) ∧ w = w' := by
  obtain ⟨A, c, rfl, hlc, hcm⟩ := hr.slice_
  by_cases h40 : l.length ≤ 40
  · go_enter Try.func8, Try.ntmps8
    go_wp2
    go_loop [3] (fun i => ∃ k : Nat, i = .int .i64 k ∧ k ≤ l.length ∧ Hid ((l.take k).all (fun x => decide (x.2.2.2.length ≤ 200)) = true)) (fun i => l.length - (intOf i).toNat)
    case atStart => exact ⟨0, rfl, Nat.zero_le _, Lib.hid rfl⟩
    case round =>
      obtain ⟨k, rfl, hk, HA⟩ := hrel
      by_cases hlt : k < l.length
      · obtain ⟨b, o, rfl, hb, hc⟩ := hr.get (by omega)
        obtain ⟨_, _, _, _, _, _, u, hu, hru⟩ := hc k l[k] (List.getElem?_eq_getElem hlt)
        obtain ⟨A1, c1, rfl, _, _⟩ := hru.sliceN (List.length_map _)
        have hs : l.take (k + 1) = l.take k ++ [l[k]] := List.take_succ_eq_append_getElem hlt
        have hall2 : l[k].2.2.2.length ≤ 200 → (l.take (k + 1)).all (fun x => decide (x.2.2.2.length ≤ 200)) = true := fun h => by
          rw [hs, List.all_append, HA.out]
          simpa using h
        have hno : 200 < l[k].2.2.2.length → fewS l = false := fun h => by
          rw [fewS, Bool.and_eq_false_iff]
          refine .inr ?_
          rw [List.all_eq_false]
          exact ⟨l[k], List.getElem_mem hlt, by simpa using h⟩
        have H2 := Lib.hid hall2
        have HN := Lib.hid hno
        clear hall2 hno hs hc
        generalize l[k].2.2.2.length = m at *
        by_cases hm : m ≤ 200
        · have hmd : decide (200 < m) = false := by simp; omega
          have H3 := Lib.hid (H2.out hm)
          clear H2 HN
          go_wp2
          go_round
          case rel => exact ⟨k + 1, by go_num, by omega, H3⟩
          case measure => simp [intOf]; omega
        · have H3 := Lib.hid (HN.out (by omega))
          have hmd : decide (200 < m) = true := by simp; omega
          clear H2 HN
          go_wp2
          go_ret
          exact ⟨by rw [H3.out]; rfl, rfl⟩
      · obtain rfl : k = l.length := by omega
        have hf : fewS l = true := by
          have := HA.out
          rw [List.take_length] at this
          rw [fewS, this, decide_eq_true h40]
          rfl
        have HF := Lib.hid hf
        clear hf HA
        go_wp2
        go_ret
        exact ⟨by rw [HF.out]; rfl, rfl⟩
  · have hf : fewS l = false := by rw [fewS, decide_eq_false h40]; rfl
    have HF := Lib.hid hf
    have hd : decide (40 < l.length) = true := by simp; omega
    clear hf
    go_enter Try.func8, Try.ntmps8
    go_wp2
    go_ret
    exact ⟨by rw [HF.out]; rfl, rfl⟩

end Go.Proofs.Ytidkdnidafdmpaa

/- Layer 4, the reference's disk: more words. -/
namespace Go.Proofs.Ytidkdnidafdmpaa
open Go.RowKit

theorem Rk.ext0 {F : Fp} {w w' : World} {r : Nat} {s : DkS} (h : Rk F w r s) (hx : Ext w w') : Rk F w' r s := Rk.chg (G := fun _ => False) h (Chg.of_ext hx) (fun _ _ h => h)
theorem RdF.made0 {e : TypeId} {w w' : World} {v : Value} {xs : List Value} (h : Grew w.heap.size e (.slice none 0 0) w xs v w') : RdF (fun k => w.heap.size ≤ k ∧ k < w'.heap.size) w' v xs := (RowF.made h).rdF
section
variable {F : Fp} {w : World} {r : Nat} {s : DkS}
theorem Rk.cell0 (h : Rk F w r s) : ∃ A c, w.cell? ⟨r, 0, none⟩ = some (.slice A s.1.length c) := by
  obtain ⟨as_, vs, vB, vA, vV, h1, h2, h3, h4⟩ := h
  obtain ⟨A, c, rfl⟩ := h1.slB
  exact ⟨A, c, h1.c0⟩
theorem Rk.lt (h : Rk F w r s) : r < w.heap.size := h.cells.1
end

end Go.Proofs.Ytidkdnidafdmpaa

/- Layer 6, the reference: slots are opened; the picture of a slot; the picture. -/
namespace Go.Proofs.Ytidkdnidafdmpaa
open Go.RowKit

/-- The reference's slots at m. -/
def RSl (G : Fp) (w : World) (m r f z : Nat) : Prop := ObjF G w m 67 #[.pointer (some ⟨r, 0, none⟩), .int .i64 (f : Int), .int .i64 (z : Int)] []

section
variable {F G : Fp} {w w' : World} {m r f z : Nat}
theorem RSl.isIn (h : RSl G w m r f z) : G.isIn w := ObjF.isIn h
theorem RSl.chg (h : RSl G w m r f z) (hc : Chg F w w') (ha : G.apart F) : RSl G w' m r f z := ObjF.chg h hc ha
theorem RSl.ext (h : RSl G w m r f z) (hx : Ext w w') : RSl G w' m r f z := ObjF.ext h hx
theorem RSl.mono (h : RSl G w m r f z) (hf : ∀ k, G k → F k) (hi : F.isIn w) : RSl F w m r f z := ObjF.mono h hf hi
theorem RSl.c0 (h : RSl G w m r f z) : w.cell? ⟨m, 0, none⟩ = some (.pointer (some ⟨r, 0, none⟩)) := (ObjF.blk h).cell 0
theorem RSl.c1 (h : RSl G w m r f z) : w.cell? ⟨m, 1, none⟩ = some (.int .i64 (f : Int)) := (ObjF.blk h).cell 1
theorem RSl.c2 (h : RSl G w m r f z) : w.cell? ⟨m, 2, none⟩ = some (.int .i64 (z : Int)) := (ObjF.blk h).cell 2
end

theorem RefSlOpen_no (F : Fp) (r : Nat) (s : DkS) (i n : Int) (w : World) (hk : Rk F w r s) (hb : s.1.length ≤ 65536) (h : ¬ (0 ≤ i ∧ 1 ≤ n ∧ i + 2 * n ≤ s.1.length)) :
    Calls Try.prog 12 #[.pointer (some ⟨r, 0, none⟩), .int .i64 i, .int .i64 n] w fun e w' => e = .returned (.tuple #[.pointer none, .bool false]) ∧ w = w' := by
  obtain ⟨A, c, c0⟩ := hk.cell0
  clear hk
  by_cases g1 : i < 0
  · have d1 : decide (i < 0) = true := by simp; omega
    clear h
    go_enter Try.func12, Try.ntmps12
    go_wp2
    go_ret2
    exact ⟨rfl, rfl⟩
  · have d1 : decide (i < 0) = false := by simp; omega
    by_cases g2 : n < 1
    · have d2 : decide (n < 1) = true := by simp; omega
      clear h
      go_enter Try.func12, Try.ntmps12
      go_wp2
      go_ret2
      exact ⟨rfl, rfl⟩
    · have d2 : decide (n < 1) = false := by simp; omega
      by_cases g3 : (s.1.length : Int) < i
      · have d3 : decide ((s.1.length : Int) < i) = true := by simp; omega
        clear h
        go_enter Try.func12, Try.ntmps12
        go_wp2
        go_ret2
        exact ⟨rfl, rfl⟩
      · have d3 : decide ((s.1.length : Int) < i) = false := by simp; omega
        go_enter Try.func12, Try.ntmps12
        go_wp2
        go_ret2
        exact ⟨rfl, rfl⟩

theorem RefSlOpen_yes (F : Fp) (r : Nat) (s : DkS) (f z : Nat) (w : World) (hk : Rk F w r s) (hb : s.1.length ≤ 65536) (hz : f + 2 * z ≤ s.1.length) (h1 : 1 ≤ z) :
    Calls Try.prog 12 #[.pointer (some ⟨r, 0, none⟩), .int .i64 (f : Int), .int .i64 (z : Int)] w fun e w' =>
      ∃ m, e = .returned (.tuple #[.pointer (some ⟨m, 0, none⟩), .bool true]) ∧ RSl (fun k => w.heap.size ≤ k ∧ k < w'.heap.size) w' m r f z ∧ Ext w w' := by
  obtain ⟨A, c, c0⟩ := hk.cell0
  have d1 : decide ((f : Int) < 0) = false := by simp
  have d2 : decide ((z : Int) < 1) = false := by simp; omega
  have d3 : decide ((s.1.length : Int) < (f : Int)) = false := by simp; omega
  have d4 : decide (((s.1.length : Int) - (f : Int)) / 2 < (z : Int)) = false := by simp; omega
  have d5 : (z : Int) ≤ ((s.1.length : Int) - (f : Int)) / 2 := by omega
  have hO : ObjF (fun k => w.heap.size ≤ k ∧ k < w.heap.size + 1) (w.alloc (.cells #[.pointer (some ⟨r, 0, none⟩), .int .i64 (f : Int), .int .i64 (z : Int)] 67)) w.heap.size 67 #[.pointer (some ⟨r, 0, none⟩), .int .i64 (f : Int), .int .i64 (z : Int)] [] :=
    ObjF.new (w0 := w) (rows := []) (Nat.le_refl _) _ _ (fun r hr => absurd hr List.not_mem_nil) List.Pairwise.nil
  have HO := Lib.hid hO
  clear hk hO
  go_enter Try.func12, Try.ntmps12
  go_wp2
  go_ret2
  refine ⟨w.heap.size, rfl, ?_, (Below.refl _ _).alloc (Nat.le_refl _) _⟩
  have h := HO.out
  have hs : (w.alloc (.cells #[.pointer (some ⟨r, 0, none⟩), .int .i64 (f : Int), .int .i64 (z : Int)] 67)).heap.size = w.heap.size + 1 := by simp
  rw [RSl, hs]
  exact h

/-- What is answered of a picture. -/
def PicP (x : Pic) (w : World) (e : Ending) (w' : World) : Prop := ∃ v, e = .returned (.tuple #[v, .int .i64 (ageI x)]) ∧ Rd w' v ((bytP x).map B) ∧ Ext w w'

set_option maxHeartbeats 400000 in
theorem RefPicture_k (F G : Fp) (m r f z k : Nat) (s : DkS) (w : World) (hk : Rk F w r s) (hl : RSl G w m r f z) (hb : s.1.length ≤ 65536) (hz : f + 2 * z ≤ s.1.length) (h1 : 1 ≤ z) (hk1 : k ≤ 1) (hw : s.2.1.length ≤ 1000000000) :
    Calls Try.prog 34 #[.pointer (some ⟨m, 0, none⟩), .int .i64 (k : Int)] w (PicP (picD s f z k) w) := by
  have hin := slot_in hz hk1
  have c0 := hl.c0
  obtain ⟨kz, hkz⟩ : ∃ x : Nat, x = k * z := ⟨_, rfl⟩
  obtain ⟨k1, hk1'⟩ : ∃ x : Nat, x = k + 1 := ⟨_, rfl⟩
  obtain ⟨kz1, hkz1⟩ : ∃ x : Nat, x = k1 * z := ⟨_, rfl⟩
  obtain ⟨a, ha⟩ : ∃ x : Nat, x = f + kz := ⟨_, rfl⟩
  obtain ⟨b, hbb⟩ : ∃ x : Nat, x = f + kz1 := ⟨_, rfl⟩
  have e1 : kz1 = kz + z := by rw [hkz1, hk1', hkz, Nat.succ_mul]
  have w1 : IntKind.i64.wrap ((k : Int) * (z : Int)) = (kz : Int) := by rw [← Int.natCast_mul, ← hkz, IntKind.wrap_i64]; omega
  have w2 : IntKind.i64.wrap ((f : Int) + (kz : Int)) = (a : Int) := by rw [IntKind.wrap_i64]; omega
  have w3 : IntKind.i64.wrap ((k : Int) + 1) = (k1 : Int) := by rw [IntKind.wrap_i64]; omega
  have w4 : IntKind.i64.wrap ((k1 : Int) * (z : Int)) = (kz1 : Int) := by rw [← Int.natCast_mul, ← hkz1, IntKind.wrap_i64]; omega
  have w5 : IntKind.i64.wrap ((f : Int) + (kz1 : Int)) = (b : Int) := by rw [IntKind.wrap_i64]; omega
  have p1 : a ≤ b := by omega
  have p2 : b - a = z := by omega
  have hpd : picD s f z k = picB (pieceB (rdD s) a z) := by rw [picD, ha, hkz]
  have hab : a + z ≤ s.1.length := by omega
  rw [hpd]
  have HL := Lib.hid hl
  have HK := Lib.hid hk
  have HB : Hid (s.1.length ≤ 65536 ∧ a + z ≤ s.1.length ∧ b = a + z ∧ 1 ≤ z) := Lib.hid ⟨hb, hab, by omega, h1⟩
  clear hl hk hpd hab hkz hk1' hkz1 ha hbb e1 hin hz h1
  go_enter Try.func34, Try.ntmps34
  go_wp2_with fail
  refine (RkBytes F r s w HK.out HB.out.1 hw).mono ?_
  rintro e w3' ⟨v3, rfl, hg3⟩
  obtain ⟨b3, c3, rfl, q1, q2, q3⟩ := hg3.form (by rw [List.length_map, rdD_len]; have := HB.out; omega)
  have hrl : ((rdD s).map B).length = s.1.length := by rw [List.length_map, rdD_len]
  rw [hrl] at q1
  have hr3 := (Rd.own hg3.own).cut a z (by rw [hrl]; exact HB.out.2.1)
  have p3 : (b : Int) ≤ (c3 : Int) := by have := HB.out; omega
  have p4 : ¬ c3 = a := by have := HB.out; omega
  rw [if_neg p4, Option.map_some, Addr.add_lit, Nat.zero_add] at hr3
  have hp : (((rdD s).map B).drop a).take z = (pieceB (rdD s) a z).map B := by rw [pieceB, List.map_take, List.map_drop]
  rw [hp] at hr3
  have hxd := hg3.ext.trans (Ext.dr (Ext.refl w3'))
  have d1 := (HL.out.ext hxd).c1
  have d2 := (HL.out.ext hxd).c2
  have HX3 := Lib.hid hxd
  have KG := Lib.hid (RefFrameGet_any (pieceB (rdD s) a z) _ 0 w3'.drew (hr3.ext (Ext.dr (Ext.refl w3'))))
  have HRL := Lib.hid hrl
  clear hg3 hr3 hp c0 hrl q1 hxd
  go_wp2_with fail
  go_region_held3 (fun w' => w'.cell? ⟨m, 1, none⟩ = some (.int .i64 (f : Int)) ∧ w'.cell? ⟨m, 2, none⟩ = some (.int .i64 (z : Int))) (first | go_keep | (exact ⟨e1, e2⟩)) (first | (go_at_call 48; (with_reducible refine KG.out.mono ?_); rintro e w4' ⟨v4, rfl, hg4⟩; have hx4 := HX3.out.trans hg4.ext; have e1 := (HL.out.ext hx4).c1; have e2 := (HL.out.ext hx4).c2))
  all_goals
    have hr4 := Rd.own hg4.own
    have HX4 := Lib.hid hx4
    have hpb : picB (pieceB (rdD s) a z) = if (getF (pieceB (rdD s) a z) 0).2.2 = 1 then payP (getF (pieceB (rdD s) a z) 0).1 else none := rfl
    have HPB := Lib.hid hpb
    clear hg4 hx4 e1 e2 d1 d2 KG HX3 w1 w2 w3 w4 w5 p1 p2 p3 p4 hpb
    generalize picB (pieceB (rdD s) a z) = P at *
    generalize (getF (pieceB (rdD s) a z) 0).2.1 = nx at *
    generalize (getF (pieceB (rdD s) a z) 0).2.2 = wh at *
    generalize (getF (pieceB (rdD s) a z) 0).1 = p at *
    obtain ⟨A4, c4, rfl, hc4, hm4⟩ := hr4.sliceN (List.length_map _)
    unfold maxLen at hm4
    by_cases hw1 : wh = 1
    · have d1 : (wh != 1) = false := by simp [hw1]
      have hP : P = payP p := by rw [HPB.out, if_pos hw1]
      clear HPB
      cases hg : getN p with
      | none =>
        have hP2 : P = none := by rw [hP, payP, hg]
        have KN := Lib.hid (RefGetNum_none p _ 0 _ hr4 (by decide) (by rw [List.drop_zero]; exact hg))
        have HP2 := Lib.hid hP2
        clear hP hP2 hg hw1 hr4
        go_wp2_with fail
        refine KN.out.mono ?_
        rintro e w5' ⟨rfl, hx5⟩
        go_wp2
        go_ret2
        rw [PicP, HP2.out]
        exact ⟨_, rfl, Rd.nil _, HX4.out.trans hx5⟩
      | some x =>
        obtain ⟨n, j⟩ := x
        have hP2 : P = some (p.drop j, n) := by rw [hP, payP, hg]
        have hj := getN_le hg
        have hjl : j ≤ p.length := hj.2.1
        have KN := Lib.hid (RefGetNum_some p _ 0 n j _ hr4 (by decide) (by rw [List.drop_zero]; exact hg))
        have hz0 : ((0 + j : Nat) : Int) = (j : Int) := by omega
        rw [hz0] at KN
        have HP2 := Lib.hid hP2
        have HR4 := Lib.hid hr4
        have p1 : (j : Int) ≤ (p.length : Int) := by omega
        clear hP hP2 hg hw1 hr4 hz0 hj
        go_wp2_with fail
        refine KN.out.mono ?_
        rintro e w5' ⟨rfl, hx5⟩
        have hc := (HR4.out.ext hx5).cut j (p.length - j) (by rw [List.length_map]; omega)
        have hd : ((p.map B).drop j).take (p.length - j) = (bytP (some (p.drop j, n))).map B := by rw [bytP, List.map_drop, List.take_of_length_le (by rw [List.length_drop, List.length_map]; omega)]
        rw [hd] at hc
        by_cases hcj : c4 = j
        · rw [if_pos hcj, hcj, Nat.sub_self] at hc
          have HC := Lib.hid hc
          clear hc hd
          go_wp2
          go_ret2
          rw [PicP, HP2.out]
          exact ⟨_, rfl, HC.out, HX4.out.trans hx5⟩
        · rw [if_neg hcj] at hc
          have HC := Lib.hid hc
          clear hc hd
          go_wp2
          go_ret2
          rw [PicP, HP2.out]
          exact ⟨_, rfl, HC.out, HX4.out.trans hx5⟩
    · have d1 : (wh != 1) = true := by simp [hw1]
      have hP : P = none := by rw [HPB.out, if_neg hw1]
      have HP2 := Lib.hid hP
      clear HPB hP hr4 hw1
      go_wp2
      go_ret2
      rw [PicP, HP2.out]
      exact ⟨_, rfl, Rd.nil _, HX4.out⟩

end Go.Proofs.Ytidkdnidafdmpaa

/- SlotsActs, where there are no slots: sizes and acts that are passed by, and pieces that aren't on the disk. -/
namespace Go.Proofs.Ytidkdnidafdmpaa
open Go.RowKit

set_option maxRecDepth 100000 in
theorem SlotsActs_out (N i z : Int) (l : List Act3) (v : Value) (w : World) (hr : RdActs3 w v l) (h : N < 1 ∨ (1 ≤ N ∧ 400 < N) ∨ (1 ≤ N ∧ N ≤ 400 ∧ fewS l = false)) :
    Calls Try.prog 3 #[.int .i64 N, .int .i64 i, .int .i64 z, v] w fun e w' => e = .returned (.bool true) ∧ Ext w w' := by
  obtain ⟨A, c, rfl, hlc, hcm⟩ := hr.slice_
  rcases h with h | ⟨h0, h⟩ | ⟨h0, h1, h⟩
  · go_enter Try.func3, Try.ntmps3
    go_wp2_with fail
    refine (alive6_any w).mono ?_
    rintro e w1 ⟨rfl, hx1⟩
    go_wp2
    go_ret
    exact ⟨rfl, hx1⟩
  · go_enter Try.func3, Try.ntmps3
    go_wp2_with fail
    refine (alive6_any w).mono ?_
    rintro e w1 ⟨rfl, hx1⟩
    go_wp2
    go_ret
    exact ⟨rfl, hx1⟩
  · go_enter Try.func3, Try.ntmps3
    go_wp2_with fail
    refine (alive6_any w).mono ?_
    rintro e w1 ⟨rfl, hx1⟩
    go_wp2_with fail
    refine (fewS_any l _ _ (hr.ext hx1)).mono ?_
    rintro e w1' ⟨rfl, rfl⟩
    rw [h]
    go_wp2
    go_ret
    exact ⟨rfl, hx1⟩

set_option maxRecDepth 100000 in
set_option maxHeartbeats 2000000 in
theorem SlotsActs_no (N : Nat) (i z : Int) (l : List Act3) (v : Value) (w : World) (hr : RdActs3 w v l) (hf : fewS l = true) (hN1 : 1 ≤ N) (hN4 : N ≤ 400) (hno : ¬ (0 ≤ i ∧ 1 ≤ z ∧ i + 2 * z ≤ N))
    (i0 : -9223372036854775808 ≤ i) (i1 : i ≤ 9223372036854775807) (z0 : -9223372036854775808 ≤ z) (z1 : z ≤ 9223372036854775807) :
    Calls Try.prog 3 #[.int .i64 (N : Int), .int .i64 i, .int .i64 z, v] w fun e w' => e = .returned (.bool true) ∧ Ext w w' := by
  obtain ⟨A, c, rfl, hlc, hcm⟩ := hr.slice_
  have hNd : decide (400 < N) = false := by simp; omega
  have HB := Lib.hid (And.intro i0 (And.intro i1 (And.intro z0 z1)))
  have HN := Lib.hid hno
  clear i0 i1 z0 z1 hno
  go_enter Try.func3, Try.ntmps3
  go_wp2_with fail
  refine (alive6_any w).mono ?_
  rintro e w1 ⟨rfl, hx1⟩
  go_wp2_with fail
  refine (fewS_any l _ _ (hr.ext hx1)).mono ?_
  rintro e w1' ⟨rfl, rfl⟩
  rw [hf]
  go_wp2_with fail
  refine (DkNew_yes N w1 hN1 (by omega)).mono ?_
  rintro e w2 ⟨g, rfl, hd2, hx2⟩
  obtain ⟨s0, hs0⟩ : ∃ s0 : DkS, s0 = (List.replicate N 0, [], 0) := ⟨_, rfl⟩
  have sl0 : s0.1.length = N := by rw [hs0, List.length_replicate]
  rw [← hs0] at hd2
  go_wp2_with fail
  refine (RkNew N w2 (by omega)).mono ?_
  rintro e w3 ⟨r, rfl, hk3, hx3⟩
  rw [← hs0] at hk3
  have hd3 := Dk.ext hd2 hx3
  clear hs0 hd2
  go_wp2_with fail
  refine (SlOpen_no _ g s0 i z w3 hd3 (by rw [sl0]; exact HN.out) HB.out.1 HB.out.2.1 HB.out.2.2.1 HB.out.2.2.2).mono ?_
  rintro e w4 ⟨rfl, hx4⟩
  have hk4 := hk3.ext0 hx4
  clear hd3 hk3
  go_wp2_with fail
  refine (RefSlOpen_no _ r s0 i z w4 hk4 (by rw [sl0]; omega) (by rw [sl0]; exact HN.out)).mono ?_
  rintro e w5 ⟨rfl, rfl⟩
  have hx := hx1.trans ((hx2.trans hx3).trans hx4)
  clear hk4 sl0 hx2 hx3 hx4
  go_wp2_with fail
  refine (SlLoad_nil w4).mono ?_
  rintro e w6 ⟨rfl, hx6⟩
  have hx := hx.trans hx6
  clear hx6
  go_wp2_with fail
  refine (SlSave_nil [] _ 1 w6 (Rd.nil _) (by decide) (by decide)).mono ?_
  rintro e w7 ⟨rfl, hx7⟩
  have hx := hx.trans hx7
  clear hx7
  go_wp2_with fail
  refine (SlStart_nil [] _ 1 w7 (Rd.nil _) (by decide) (by decide)).mono ?_
  rintro e w8 ⟨rfl, hx8⟩
  have hx := hx.trans hx8
  clear hx8
  go_wp2
  go_ret
  exact ⟨rfl, hx⟩

end Go.Proofs.Ytidkdnidafdmpaa

/- Layer 6, the reference: the picture, and Start. -/
namespace Go.Proofs.Ytidkdnidafdmpaa
open Go.RowKit

theorem RefPicture_0 (F G : Fp) (m r f z : Nat) (s : DkS) (w : World) (hk : Rk F w r s) (hl : RSl G w m r f z) (hb : s.1.length ≤ 65536) (hz : f + 2 * z ≤ s.1.length) (h1 : 1 ≤ z) (hw : s.2.1.length ≤ 1000000000) :
    Calls Try.prog 34 #[.pointer (some ⟨m, 0, none⟩), .int .i64 0] w (PicP (picD s f z 0) w) := RefPicture_k F G m r f z 0 s w hk hl hb hz h1 (by decide) hw
theorem RefPicture_1 (F G : Fp) (m r f z : Nat) (s : DkS) (w : World) (hk : Rk F w r s) (hl : RSl G w m r f z) (hb : s.1.length ≤ 65536) (hz : f + 2 * z ≤ s.1.length) (h1 : 1 ≤ z) (hw : s.2.1.length ≤ 1000000000) :
    Calls Try.prog 34 #[.pointer (some ⟨m, 0, none⟩), .int .i64 1] w (PicP (picD s f z 1) w) := RefPicture_k F G m r f z 1 s w hk hl hb hz h1 (by decide) hw

/-- The reference's disk and slots on it. -/
def RSD (F : Fp) (w : World) (m r : Nat) (s : DkS) (f z : Nat) : Prop :=
  ∃ F1 F2 : Fp, Rk F1 w r s ∧ RSl F2 w m r f z ∧ F2.apart F1 ∧ (∀ k, F1 k → F k) ∧ (∀ k, F2 k → F k) ∧ F.isIn w
section
variable {F G : Fp} {w w' : World} {m r f z : Nat} {s : DkS}
theorem RSD.isIn (h : RSD F w m r s f z) : F.isIn w := by
  obtain ⟨F1, F2, h1, h2, h3, h4, h5, h6⟩ := h
  exact h6
theorem RSD.rk (h : RSD F w m r s f z) : Rk F w r s := by
  obtain ⟨F1, F2, h1, h2, h3, h4, h5, h6⟩ := h
  exact h1.mono h4 h6
theorem RSD.sl (h : RSD F w m r s f z) : RSl F w m r f z := by
  obtain ⟨F1, F2, h1, h2, h3, h4, h5, h6⟩ := h
  exact h2.mono h5 h6
theorem RSD.chg (h : RSD F w m r s f z) (hc : Chg G w w') (ha : F.apart G) : RSD F w' m r s f z := by
  obtain ⟨F1, F2, h1, h2, h3, h4, h5, h6⟩ := h
  exact ⟨F1, F2, h1.chg hc (fun k hk => ha k (h4 k hk)), h2.chg hc (fun k hk => ha k (h5 k hk)), h3, h4, h5, h6.chg hc⟩
theorem RSD.ext (h : RSD F w m r s f z) (hx : Ext w w') : RSD F w' m r s f z := h.chg (G := fun _ => False) (Chg.of_ext hx) (fun _ _ h => h)
theorem RSD.mono (h : RSD F w m r s f z) (hf : ∀ k, F k → G k) (hi : G.isIn w) : RSD G w m r s f z := by
  obtain ⟨F1, F2, h1, h2, h3, h4, h5, h6⟩ := h
  exact ⟨F1, F2, h1, h2, h3, fun k hk => hf k (h4 k hk), fun k hk => hf k (h5 k hk), hi⟩
/-- The disk alone is turned. -/
theorem RSD.turn {s' : DkS} (h : RSD F w m r s f z) (hd : ∀ F1, Rk F1 w r s → Rk (F1.since w w') w' r s' ∧ Chg F1 w w') : RSD (F.since w w') w' m r s' f z ∧ Chg F w w' := by
  obtain ⟨F1, F2, h1, h2, h3, h4, h5, h6⟩ := h
  obtain ⟨g1, g2⟩ := hd F1 h1
  refine ⟨⟨_, F2, g1, h2.chg g2 h3, (h3.symm.since h2.isIn).symm, fun k hk => ?_, fun k hk => .inl (h5 k hk), h6.since g2.size⟩, g2.mono fun k _ hk => h4 k hk⟩
  rcases hk with hk | hk
  · exact .inl (h4 k hk)
  · exact .inr hk
end

theorem RefLoad_any (F : Fp) (m r f z : Nat) (s : DkS) (w : World) (hd : RSD F w m r s f z) (hb : s.1.length ≤ 65536) (hz : f + 2 * z ≤ s.1.length) (h1 : 1 ≤ z) (hw : s.2.1.length ≤ 1000000000) :
    Calls Try.prog 20 #[.pointer (some ⟨m, 0, none⟩)] w (PicP (loadD s f z) w) := by
  have HD := Lib.hid hd
  have hld : loadD s f z = if ageI (picD s f z 0) < ageI (picD s f z 1) then picD s f z 1 else picD s f z 0 := rfl
  have HLD := Lib.hid hld
  clear hd hld
  go_enter Try.func20, Try.ntmps20
  go_wp2_with fail
  refine (RefPicture_0 F F m r f z s w HD.out.rk HD.out.sl hb hz h1 hw).mono ?_
  rintro e w1 ⟨v1, rfl, hr1, hx1⟩
  obtain ⟨A1, c1, rfl, _, _⟩ := hr1.sliceN (List.length_map _)
  have HR1 := Lib.hid hr1
  have HX1 := Lib.hid hx1
  clear hr1 hx1
  go_wp2_with fail
  refine (RefPicture_1 F F m r f z s w1 (HD.out.ext HX1.out).rk (HD.out.ext HX1.out).sl hb hz h1 hw).mono ?_
  rintro e w2 ⟨v2, rfl, hr2, hx2⟩
  obtain ⟨A2, c2, rfl, _, _⟩ := hr2.sliceN (List.length_map _)
  have HR1' := Lib.hid (HR1.out.ext hx2)
  have HR2 := Lib.hid hr2
  have HX2 := Lib.hid (HX1.out.trans hx2)
  clear hr2 hx2 HR1 HX1
  generalize loadD s f z = L at *
  generalize picD s f z 0 = P0 at *
  generalize picD s f z 1 = P1 at *
  by_cases hc : ageI P0 < ageI P1
  · have hL : L = P1 := by rw [HLD.out, if_pos hc]
    have HL := Lib.hid hL
    clear HLD hL
    go_wp2
    go_ret2
    rw [PicP, HL.out]
    exact ⟨_, rfl, HR2.out, HX2.out⟩
  · have hL : L = P0 := by rw [HLD.out, if_neg hc]
    have HL := Lib.hid hL
    clear HLD hL
    go_wp2
    go_ret2
    rw [PicP, HL.out]
    exact ⟨_, rfl, HR1'.out, HX2.out⟩

theorem RefStart_age (F : Fp) (m r f z : Nat) (s : DkS) (p : List UInt8) (v : Value) (age : Int) (w : World) (_hd : RSD F w m r s f z) (_hr : Rd w v (p.map B)) (h : ¬ (0 ≤ age ∧ age < 9007199254740992)) :
    Calls Try.prog 16 #[.pointer (some ⟨m, 0, none⟩), v, .int .i64 age] w fun e w' => e = .returned (.int .i64 1) ∧ Ext w w' := by
  have K := Lib.hid (RefIs_no age w h)
  clear _hd _hr h
  go_enter Try.func16, Try.ntmps16
  go_wp2_with fail
  refine K.out.mono ?_
  rintro e w1 ⟨rfl, rfl⟩
  go_wp2
  go_ret
  exact ⟨rfl, Ext.refl _⟩

theorem RefStart_old (F : Fp) (m r f z : Nat) (s : DkS) (p : List UInt8) (v : Value) (age : Int) (w : World) (hd : RSD F w m r s f z) (_hr : Rd w v (p.map B)) (hb : s.1.length ≤ 65536) (hz : f + 2 * z ≤ s.1.length) (h1 : 1 ≤ z) (hw : s.2.1.length ≤ 1000000000)
    (h : 0 ≤ age ∧ age < 9007199254740992) (ho : age ≤ ageI (picD s f z 0) ∨ age ≤ ageI (picD s f z 1)) :
    Calls Try.prog 16 #[.pointer (some ⟨m, 0, none⟩), v, .int .i64 age] w fun e w' => e = .returned (.int .i64 6) ∧ Ext w w' := by
  have K := Lib.hid (RefIs_yes age w h.1 h.2)
  have HD := Lib.hid hd
  clear hd _hr h
  go_enter Try.func16, Try.ntmps16
  go_wp2_with fail
  refine K.out.mono ?_
  rintro e w1 ⟨rfl, rfl⟩
  go_wp2_with fail
  refine (RefPicture_0 F F m r f z s w HD.out.rk HD.out.sl hb hz h1 hw).mono ?_
  rintro e w1 ⟨v1, rfl, hr1, hx1⟩
  obtain ⟨A1, c1, rfl, _, _⟩ := hr1.sliceN (List.length_map _)
  have HX1 := Lib.hid hx1
  clear hr1 hx1
  go_wp2_with fail
  refine (RefPicture_1 F F m r f z s w1 (HD.out.ext HX1.out).rk (HD.out.ext HX1.out).sl hb hz h1 hw).mono ?_
  rintro e w2 ⟨v2, rfl, hr2, hx2⟩
  obtain ⟨A2, c2, rfl, _, _⟩ := hr2.sliceN (List.length_map _)
  have HX2 := Lib.hid (HX1.out.trans hx2)
  clear hr2 hx2 HX1
  generalize picD s f z 0 = P0 at *
  generalize picD s f z 1 = P1 at *
  generalize ageI P0 = x at *
  generalize ageI P1 = y at *
  by_cases hx : age ≤ x
  · have d1 : decide (age ≤ x) = true := decide_eq_true hx
    clear ho
    go_wp2
    go_ret
    exact ⟨rfl, HX2.out⟩
  · have hy : age ≤ y := by omega
    have d1 : decide (age ≤ x) = false := decide_eq_false hx
    have d2 : decide (age ≤ y) = true := decide_eq_true hy
    clear ho
    go_wp2
    go_ret
    exact ⟨rfl, HX2.out⟩

end Go.Proofs.Ytidkdnidafdmpaa

/- Layer 6, the reference: Start of what has no room, and of what has. -/
namespace Go.Proofs.Ytidkdnidafdmpaa
open Go.RowKit

set_option maxRecDepth 100000 in
set_option maxHeartbeats 400000 in
theorem RefStart_full (F : Fp) (m r f z : Nat) (s : DkS) (p : List UInt8) (v : Value) (age : Int) (w : World) (hd : RSD F w m r s f z) (hr : Rd w v (p.map B)) (hb : s.1.length ≤ 65536) (hz : f + 2 * z ≤ s.1.length) (h1 : 1 ≤ z) (hw : s.2.1.length ≤ 1000000000) (hp : p.length ≤ 1000000)
    (h : 0 ≤ age ∧ age < 9007199254740992) (ho : ageI (picD s f z 0) < age ∧ ageI (picD s f z 1) < age) (hf : frP age p = [] ∨ z < (frP age p).length) :
    Calls Try.prog 16 #[.pointer (some ⟨m, 0, none⟩), v, .int .i64 age] w fun e w' => e = .returned (.int .i64 3) ∧ Ext w w' := by
  have K := Lib.hid (RefIs_yes age w h.1 h.2)
  obtain ⟨A, c, rfl, hlc, hcm⟩ := hr.sliceN (List.length_map _)
  unfold maxLen at hcm
  have HD := Lib.hid hd
  have HR := Lib.hid hr
  obtain ⟨n, rfl⟩ : ∃ n : Nat, age = n := ⟨age.toNat, by omega⟩
  have hn : n < 9007199254740992 := by omega
  have h8 := numB_len8 hn
  rw [frP, Int.toNat_natCast] at hf
  have HF := Lib.hid hf
  clear hd hr h hf
  go_enter Try.func16, Try.ntmps16
  go_wp2_with fail
  refine K.out.mono ?_
  rintro e w1 ⟨rfl, rfl⟩
  go_wp2_with fail
  refine (RefPicture_0 F F m r f z s w HD.out.rk HD.out.sl hb hz h1 hw).mono ?_
  rintro e w1 ⟨v1, rfl, hr1, hx1⟩
  obtain ⟨A1, c1, rfl, _, _⟩ := hr1.sliceN (List.length_map _)
  have HX1 := Lib.hid hx1
  clear hr1 hx1
  go_wp2_with fail
  refine (RefPicture_1 F F m r f z s w1 (HD.out.ext HX1.out).rk (HD.out.ext HX1.out).sl hb hz h1 hw).mono ?_
  rintro e w2 ⟨v2, rfl, hr2, hx2⟩
  obtain ⟨A2, c2, rfl, _, _⟩ := hr2.sliceN (List.length_map _)
  have HX2 := Lib.hid (HX1.out.trans hx2)
  clear hr2 hx2 HX1
  generalize picD s f z 0 = P0 at *
  generalize picD s f z 1 = P1 at *
  generalize ageI P0 = x at *
  generalize ageI P1 = y at *
  have d1 : decide ((n : Int) ≤ x) = false := decide_eq_false (by omega)
  have d2 : decide ((n : Int) ≤ y) = false := decide_eq_false (by omega)
  clear ho
  go_wp2_with fail
  refine (RefNum_yes n w2 hn).mono ?_
  rintro e w3 ⟨v3, rfl, hg3⟩
  have HX3 := Lib.hid (HX2.out.trans hg3.ext)
  have hown := hg3.own
  have hlt3 := hg3.size
  have HG3 := Lib.hid hg3
  have HX2' := HX2
  clear hg3 HX2
  go_wp2_with (at_builtin; refine app_u8 rfl _ _ rfl w2.heap.size _ _ rfl hown _ p rfl (HR.out.ext HX3.out) (by rw [List.length_map]; omega) hlt3 ?_; intro v4 w4 hg4)
  have hg5 := HG3.out.trans hg4
  have hr5 : Rd w4 v4 ((payB n p).map B) := by rw [payB, List.map_append]; exact Rd.own hg5.own
  have HX4 := Lib.hid (HX2'.out.trans hg5.ext)
  obtain ⟨A4, c4, rfl, _, _⟩ := hr5.sliceN (List.length_map _)
  clear hg4 hg5 hown hlt3 HG3 HX3 HX2'
  go_wp2_with fail
  refine (RefFrame_any (payB n p) _ w4 hr5).mono ?_
  rintro e w5 ⟨v5, rfl, hg6⟩
  have HX5 := Lib.hid (HX4.out.trans hg6.ext)
  have c2' := (HD.out.sl.ext HX5.out).c2
  obtain ⟨q, hq⟩ : ∃ q, q = (frameB (payB n p)).length := ⟨_, rfl⟩
  obtain ⟨A5, c5, rfl⟩ := hg6.slice_ (n := q) (by rw [List.length_map, hq])
  have hqq : q = 0 ∨ (¬ q = 0 ∧ z < q) := by
    rcases HF.out with h0 | h0
    · left
      rw [hq, h0]
      rfl
    · by_cases h00 : q = 0
      · exact .inl h00
      · exact .inr ⟨h00, by rw [hq]; exact h0⟩
  clear hg6 hr5 HF hq HX4
  rcases hqq with h0 | ⟨h0, hzq⟩
  · subst h0
    go_wp2
    go_ret
    exact ⟨rfl, HX5.out⟩
  · have d3 : ((q : Int) == 0) = false := by rw [beq_eq_false_iff_ne]; omega
    have d4 : decide ((z : Int) < (q : Int)) = true := by simp; omega
    have d5 : ¬ (q : Int) = 0 := by omega
    go_wp2
    go_ret
    exact ⟨rfl, HX5.out⟩

set_option maxRecDepth 100000 in
set_option maxHeartbeats 1000000 in
theorem RefStart_yes (F F1 F2 : Fp) (m r f z : Nat) (s : DkS) (p : List UInt8) (v : Value) (age : Int) (w : World) (hdk : Rk F1 w r s) (hsl : RSl F2 w m r f z) (hap : F2.apart F1) (hd : RSD F w m r s f z) (hr : Rd w v (p.map B)) (hb : s.1.length ≤ 65536) (hz : f + 2 * z ≤ s.1.length) (h1 : 1 ≤ z) (hw : s.2.1.length ≤ 100000000) (hn0 : 0 ≤ s.2.2) (hn1 : s.2.2 ≤ 100000000) (hp : p.length ≤ 1000000)
    (he : stE s f z p age = 0) :
    Calls Try.prog 16 #[.pointer (some ⟨m, 0, none⟩), v, .int .i64 age] w fun e w' => e = .returned (.int .i64 0) ∧ Rk (F1.since w w') w' r (stD s f z p age) ∧ Chg F1 w w' := by
  obtain ⟨g0, g1, g2, g3, g4, g5⟩ := stE_yes he
  have h : 0 ≤ age ∧ age < 9007199254740992 := ⟨g0, g1⟩
  have ho : ageI (picD s f z 0) < age ∧ ageI (picD s f z 1) < age := ⟨g2, g3⟩
  have hf : (frP age p).length ≤ z ∧ okP (payB age.toNat p) := ⟨g5, g4⟩
  have hstk : stK s f z = if ageI (picD s f z 1) ≤ ageI (picD s f z 0) ∧ 0 ≤ ageI (picD s f z 0) then 1 else 0 := rfl
  have hstd : stD s f z p age = wrD (wpD s f z (stK s f z)) ((f + stK s f z * z : Nat) : Int) (frP age p) := rfl
  have K := Lib.hid (RefIs_yes age w h.1 h.2)
  obtain ⟨A, c, rfl, hlc, hcm⟩ := hr.sliceN (List.length_map _)
  unfold maxLen at hcm
  have HD := Lib.hid hd
  have HR := Lib.hid hr
  obtain ⟨n, rfl⟩ : ∃ n : Nat, age = n := ⟨age.toNat, by omega⟩
  have hn : n < 9007199254740992 := by omega
  have h8 := numB_len8 hn
  simp only [frP, Int.toNat_natCast] at hf hstd
  have HF := Lib.hid hf
  have HSD := Lib.hid hstd
  have HSK := Lib.hid hstk
  have HDK := Lib.hid hdk
  have HSL := Lib.hid hsl
  have HAP := Lib.hid hap
  clear hd hr h hf hstk hstd hdk hsl hap he g0 g1 g2 g3 g4 g5
  go_enter Try.func16, Try.ntmps16
  go_wp2_with fail
  refine K.out.mono ?_
  rintro e w1 ⟨rfl, rfl⟩
  go_wp2_with fail
  refine (RefPicture_0 F F m r f z s w HD.out.rk HD.out.sl hb hz h1 (by omega)).mono ?_
  rintro e w1 ⟨v1, rfl, hr1, hx1⟩
  obtain ⟨A1, c1, rfl, _, _⟩ := hr1.sliceN (List.length_map _)
  have HX1 := Lib.hid hx1
  clear hr1 hx1
  go_wp2_with fail
  refine (RefPicture_1 F F m r f z s w1 (HD.out.ext HX1.out).rk (HD.out.ext HX1.out).sl hb hz h1 (by omega)).mono ?_
  rintro e w2 ⟨v2, rfl, hr2, hx2⟩
  obtain ⟨A2, c2, rfl, _, _⟩ := hr2.sliceN (List.length_map _)
  have HX2 := Lib.hid (HX1.out.trans hx2)
  clear hr2 hx2 HX1
  generalize stK s f z = K0 at *
  generalize picD s f z 0 = P0 at *
  generalize picD s f z 1 = P1 at *
  generalize ageI P0 = x at *
  generalize ageI P1 = y at *
  have d1 : decide ((n : Int) ≤ x) = false := decide_eq_false (by omega)
  have d2 : decide ((n : Int) ≤ y) = false := decide_eq_false (by omega)
  clear ho
  go_wp2_with fail
  refine (RefNum_yes n w2 hn).mono ?_
  rintro e w3 ⟨v3, rfl, hg3⟩
  have HX3 := Lib.hid (HX2.out.trans hg3.ext)
  have hown := hg3.own
  have hlt3 := hg3.size
  have HG3 := Lib.hid hg3
  have HX2' := HX2
  clear hg3 HX2
  go_wp2_with (at_builtin; refine app_u8 rfl _ _ rfl w2.heap.size _ _ rfl hown _ p rfl (HR.out.ext HX3.out) (by rw [List.length_map]; omega) hlt3 ?_; intro v4 w4 hg4)
  have hg5 := HG3.out.trans hg4
  have hr5 : Rd w4 v4 ((payB n p).map B) := by rw [payB, List.map_append]; exact Rd.own hg5.own
  have HX4 := Lib.hid (HX2'.out.trans hg5.ext)
  obtain ⟨A4, c4, rfl, _, _⟩ := hr5.sliceN (List.length_map _)
  clear hg4 hg5 hown hlt3 HG3 HX3 HX2'
  go_wp2_with fail
  refine (RefFrame_any (payB n p) _ w4 hr5).mono ?_
  rintro e w5 ⟨v5, rfl, hg6⟩
  have HX5 := Lib.hid (HX4.out.trans hg6.ext)
  have hr6 := RdF.made0 hg6
  have hs5 := hg6.size
  have hs4 := HX4.out.size
  have c1' := (HSL.out.ext HX5.out).c1
  have c2' := (HSL.out.ext HX5.out).c2
  obtain ⟨q, hq⟩ : ∃ q, q = (frameB (payB n p)).length := ⟨_, rfl⟩
  obtain ⟨A5, c5, rfl⟩ := hg6.slice_ (n := q) (by rw [List.length_map, hq])
  have hq1 : 1 ≤ q := by
    have := frameB_len HF.out.2
    omega
  have hqz : q ≤ z := by rw [hq]; exact HF.out.1
  have d3 : ((q : Int) == 0) = false := by rw [beq_eq_false_iff_ne]; omega
  have d4 : decide ((z : Int) < (q : Int)) = false := by simp; omega
  have d5 : ¬ (q : Int) = 0 := by omega
  have d6 : ¬ (z : Int) < (q : Int) := by omega
  have HR6 := Lib.hid hr6
  have HQ := Lib.hid hq
  have HS5 : Hid (w.heap.size ≤ w4.heap.size ∧ w4.heap.size ≤ w5.heap.size) := Lib.hid ⟨hs4, hs5⟩
  clear hg6 hr5 hr6 hq HX4 hs5 hs4 d1 d2
  have hthree : (decide (y ≤ x) = true ∧ decide (0 ≤ x) = true ∧ K0 = 1) ∨ (decide (y ≤ x) = true ∧ decide (0 ≤ x) = false ∧ K0 = 0) ∨ (decide (y ≤ x) = false ∧ K0 = 0) := by
    have hk := HSK.out
    by_cases e1 : y ≤ x
    · by_cases e2 : 0 ≤ x
      · rw [if_pos ⟨e1, e2⟩] at hk
        exact .inl ⟨decide_eq_true e1, decide_eq_true e2, hk⟩
      · rw [if_neg (fun h => e2 h.2)] at hk
        exact .inr (.inl ⟨decide_eq_true e1, decide_eq_false e2, hk⟩)
    · rw [if_neg (fun h => e1 h.1)] at hk
      exact .inr (.inr ⟨decide_eq_false e1, hk⟩)
  clear HSK
  go_upto_region 11 with (fail)
  rcases hthree with ⟨q1, q2, rfl⟩ | ⟨q1, q2, rfl⟩ | ⟨q1, rfl⟩
  · obtain ⟨Y, hY⟩ : ∃ Y : Int, Y = ((f + 1 * z : Nat) : Int) := ⟨_, rfl⟩
    have w9 : IntKind.i64.wrap ((f : Int) + (z : Int)) = Y := by rw [IntKind.wrap_i64]; omega
    have HY := Lib.hid hY
    clear hY
    obtain ⟨w6, hmk, hg6⟩ := run_make_u8 w5.drew z (by omega)
    have hx5 : Ext w w5.drew := HX5.out.trans (Ext.dr (Ext.refl w5))
    have hx6 : Ext w w6 := hx5.trans hg6.ext
    have hs6 : w5.heap.size ≤ w6.heap.size := hg6.size
    have e0 := (HSL.out.ext hx5).c0
    have e2 := (HSL.out.ext hx5).c2
    have d0 := (HSL.out.ext hx6).c0
    have d2 := (HSL.out.ext hx6).c2
    have hrd := RdF.made0 hg6
    have KW := RkWrite F1 (fun k => w5.drew.heap.size ≤ k ∧ k < w6.heap.size) r s Y _ (List.replicate z (0 : UInt8)) w6 (HDK.out.ext0 hx6) hrd (fun k hk1 hk3 => by have := HDK.out.isIn k hk3; have := HS5.out; have : w5.drew.heap.size = w5.heap.size := rfl; omega) (fun k hk => hk.2) hb (by omega)
    have hrf := (HR6.out.chg (G := fun _ => False) (Chg.of_ext ((Ext.dr (Ext.refl w5)).trans hg6.ext)) (fun _ _ h => h))
    have KW' := Lib.hid KW
    have HX6 := Lib.hid hx6
    have HRF := Lib.hid hrf
    have HS6 := Lib.hid hs6
    clear KW hx5 hx6 hrd hg6 hrf hs6 HR6 HX5
    go_wp2
    clear c1' c2'
    go_region_law (go_simp; (go_at_call 37; refine KW'.out.mono ?_; rintro e w7 ⟨rfl, hk7, hc7⟩))
    all_goals
      have hl7 := (HSL.out.ext HX6.out).chg hc7 HAP.out
      have g0 : w7.cell? ⟨m, 0, none⟩ = some (.pointer (some ⟨r, 0, none⟩)) := hl7.c0
      have hrf7 := HRF.out.chg hc7 (fun k hk hF => by have := HDK.out.isIn k hF; have := HS5.out; omega)
      have hap7 : F2.apart (F1.since w6 w7) := (HAP.out.symm.since (HSL.out.ext HX6.out).isIn).symm
      have hwt := wrD_waits s Y (List.replicate z (0 : UInt8))
      rw [List.length_replicate] at hwt
      have HW7 := Lib.hid hwt
      have HK7 := Lib.hid hk7
      have HC7 := Lib.hid hc7
      have HL7 := Lib.hid hl7
      have HRF7 := Lib.hid hrf7
      have HAP7 := Lib.hid hap7
      clear hk7 hc7 hl7 hmk e0 e2 d0 d2 hrf7 hap7 hwt KW' HRF
      go_wp2_with fail
      refine (RkSync _ r _ w7 HK7.out (by have := HW7.out; omega) (by rw [wrD_n]; exact hn0) (by rw [wrD_n]; omega)).mono ?_
      rintro e w8 ⟨rfl, hk8, HC8'⟩
      have hl8 := HL7.out.chg HC8' HAP7.out
      have hi5 : ∀ k, F1.since w6 w7 k → ¬ (w4.heap.size ≤ k ∧ k < w5.heap.size) := fun k hk hk2 => by
        rcases hk with hk | hk
        · have := HDK.out.isIn k hk
          have := HS5.out
          omega
        · have := HS6.out
          omega
      have hrf8 := HRF7.out.chg HC8' (fun k hk hF => hi5 k hF hk)
      have g0 : w8.cell? ⟨m, 0, none⟩ = some (.pointer (some ⟨r, 0, none⟩)) := hl8.c0
      have h68 : w6.heap.size ≤ w8.heap.size := Nat.le_trans HC7.out.size HC8'.size
      have hs2 : (syD (wrD s Y (List.replicate z (0 : UInt8)))).1.length = s.1.length := by rw [syD_len, wrD_len]
      have KW2 := RkWrite _ (fun k => w4.heap.size ≤ k ∧ k < w5.heap.size) r _ Y _ (frameB (payB n p)) w8 hk8 hrf8 (fun k hk hF => hi5 k hF hk) (fun k hk => by have := HS6.out; omega) (by rw [hs2]; exact hb) (by simp [syD])
      have KW2' := Lib.hid KW2
      have HC8 := Lib.hid HC8'
      have HSZ := Lib.hid h68
      clear hk8 HC8' hl8 hrf8 hi5 h68 hs2 KW2 HK7
      go_wp2_with fail
      refine KW2'.out.mono ?_
      rintro e w9' ⟨rfl, hk9, hc9⟩
      have HK9 := Lib.hid hk9
      have HC9 := Lib.hid hc9
      clear hk9 hc9 KW2'
      go_wp2
      go_ret
      have t1 := HX6.out.size
      have t2 := HC7.out.size
      have t3 := HC8.out.size
      have t4 := HC9.out.size
      have hfin : stD s f z p n = wrD (syD (wrD s Y (List.replicate z (0 : UInt8)))) Y (frameB (payB n p)) := by
        rw [HSD.out, wpD, ← HY.out]
      refine ⟨rfl, ?_, ?_⟩
      · rw [hfin]
        refine Rk.mono HK9.out (fun k hk => ?_) (HDK.out.isIn.since (by omega))
        rcases hk with (hk | hk) | hk
        · exact .inl hk
        · exact .inr ⟨by omega, by omega⟩
        · exact .inr ⟨by omega, by omega⟩
      · have u1 : Chg F1 w w7 := (Chg.of_ext HX6.out).trans HC7.out (fun _ _ h => h)
        have u2 : Chg F1 w w8 := u1.trans HC8.out (fun x hx hF => by
          rcases hF with hF | hF
          · exact hF
          · omega)
        exact u2.trans HC9.out (fun x hx hF => by
          rcases hF with hF | hF
          · exact hF
          · omega)
  · have hf0 : ((f + 0 * z : Nat) : Int) = (f : Int) := by omega
    have HY := Lib.hid hf0
    clear hf0
    obtain ⟨w6, hmk, hg6⟩ := run_make_u8 w5.drew z (by omega)
    have hx5 : Ext w w5.drew := HX5.out.trans (Ext.dr (Ext.refl w5))
    have hx6 : Ext w w6 := hx5.trans hg6.ext
    have hs6 : w5.heap.size ≤ w6.heap.size := hg6.size
    have e0 := (HSL.out.ext hx5).c0
    have e2 := (HSL.out.ext hx5).c2
    have d0 := (HSL.out.ext hx6).c0
    have d2 := (HSL.out.ext hx6).c2
    have hrd := RdF.made0 hg6
    have KW := RkWrite F1 (fun k => w5.drew.heap.size ≤ k ∧ k < w6.heap.size) r s (f : Int) _ (List.replicate z (0 : UInt8)) w6 (HDK.out.ext0 hx6) hrd (fun k hk1 hk3 => by have := HDK.out.isIn k hk3; have := HS5.out; have : w5.drew.heap.size = w5.heap.size := rfl; omega) (fun k hk => hk.2) hb (by omega)
    have hrf := (HR6.out.chg (G := fun _ => False) (Chg.of_ext ((Ext.dr (Ext.refl w5)).trans hg6.ext)) (fun _ _ h => h))
    have KW' := Lib.hid KW
    have HX6 := Lib.hid hx6
    have HRF := Lib.hid hrf
    have HS6 := Lib.hid hs6
    clear KW hx5 hx6 hrd hg6 hrf hs6 HR6 HX5
    go_wp2
    clear c1' c2'
    go_region_law (go_simp; (go_at_call 37; refine KW'.out.mono ?_; rintro e w7 ⟨rfl, hk7, hc7⟩))
    all_goals
      have hl7 := (HSL.out.ext HX6.out).chg hc7 HAP.out
      have g0 : w7.cell? ⟨m, 0, none⟩ = some (.pointer (some ⟨r, 0, none⟩)) := hl7.c0
      have hrf7 := HRF.out.chg hc7 (fun k hk hF => by have := HDK.out.isIn k hF; have := HS5.out; omega)
      have hap7 : F2.apart (F1.since w6 w7) := (HAP.out.symm.since (HSL.out.ext HX6.out).isIn).symm
      have hwt := wrD_waits s (f : Int) (List.replicate z (0 : UInt8))
      rw [List.length_replicate] at hwt
      have HW7 := Lib.hid hwt
      have HK7 := Lib.hid hk7
      have HC7 := Lib.hid hc7
      have HL7 := Lib.hid hl7
      have HRF7 := Lib.hid hrf7
      have HAP7 := Lib.hid hap7
      clear hk7 hc7 hl7 hmk e0 e2 d0 d2 hrf7 hap7 hwt KW' HRF
      go_wp2_with fail
      refine (RkSync _ r _ w7 HK7.out (by have := HW7.out; omega) (by rw [wrD_n]; exact hn0) (by rw [wrD_n]; omega)).mono ?_
      rintro e w8 ⟨rfl, hk8, HC8'⟩
      have hl8 := HL7.out.chg HC8' HAP7.out
      have hi5 : ∀ k, F1.since w6 w7 k → ¬ (w4.heap.size ≤ k ∧ k < w5.heap.size) := fun k hk hk2 => by
        rcases hk with hk | hk
        · have := HDK.out.isIn k hk
          have := HS5.out
          omega
        · have := HS6.out
          omega
      have hrf8 := HRF7.out.chg HC8' (fun k hk hF => hi5 k hF hk)
      have g0 : w8.cell? ⟨m, 0, none⟩ = some (.pointer (some ⟨r, 0, none⟩)) := hl8.c0
      have h68 : w6.heap.size ≤ w8.heap.size := Nat.le_trans HC7.out.size HC8'.size
      have hs2 : (syD (wrD s (f : Int) (List.replicate z (0 : UInt8)))).1.length = s.1.length := by rw [syD_len, wrD_len]
      have KW2 := RkWrite _ (fun k => w4.heap.size ≤ k ∧ k < w5.heap.size) r _ (f : Int) _ (frameB (payB n p)) w8 hk8 hrf8 (fun k hk hF => hi5 k hF hk) (fun k hk => by have := HS6.out; omega) (by rw [hs2]; exact hb) (by simp [syD])
      have KW2' := Lib.hid KW2
      have HC8 := Lib.hid HC8'
      have HSZ := Lib.hid h68
      clear hk8 HC8' hl8 hrf8 hi5 h68 hs2 KW2 HK7
      go_wp2_with fail
      refine KW2'.out.mono ?_
      rintro e w9' ⟨rfl, hk9, hc9⟩
      have HK9 := Lib.hid hk9
      have HC9 := Lib.hid hc9
      clear hk9 hc9 KW2'
      go_wp2
      go_ret
      have t1 := HX6.out.size
      have t2 := HC7.out.size
      have t3 := HC8.out.size
      have t4 := HC9.out.size
      have hfin : stD s f z p n = wrD (syD (wrD s (f : Int) (List.replicate z (0 : UInt8)))) (f : Int) (frameB (payB n p)) := by
        rw [HSD.out, wpD, HY.out]
      refine ⟨rfl, ?_, ?_⟩
      · rw [hfin]
        refine Rk.mono HK9.out (fun k hk => ?_) (HDK.out.isIn.since (by omega))
        rcases hk with (hk | hk) | hk
        · exact .inl hk
        · exact .inr ⟨by omega, by omega⟩
        · exact .inr ⟨by omega, by omega⟩
      · have u1 : Chg F1 w w7 := (Chg.of_ext HX6.out).trans HC7.out (fun _ _ h => h)
        have u2 : Chg F1 w w8 := u1.trans HC8.out (fun x hx hF => by
          rcases hF with hF | hF
          · exact hF
          · omega)
        exact u2.trans HC9.out (fun x hx hF => by
          rcases hF with hF | hF
          · exact hF
          · omega)
  · have hf0 : ((f + 0 * z : Nat) : Int) = (f : Int) := by omega
    have HY := Lib.hid hf0
    clear hf0
    obtain ⟨w6, hmk, hg6⟩ := run_make_u8 w5.drew z (by omega)
    have hx5 : Ext w w5.drew := HX5.out.trans (Ext.dr (Ext.refl w5))
    have hx6 : Ext w w6 := hx5.trans hg6.ext
    have hs6 : w5.heap.size ≤ w6.heap.size := hg6.size
    have e0 := (HSL.out.ext hx5).c0
    have e2 := (HSL.out.ext hx5).c2
    have d0 := (HSL.out.ext hx6).c0
    have d2 := (HSL.out.ext hx6).c2
    have hrd := RdF.made0 hg6
    have KW := RkWrite F1 (fun k => w5.drew.heap.size ≤ k ∧ k < w6.heap.size) r s (f : Int) _ (List.replicate z (0 : UInt8)) w6 (HDK.out.ext0 hx6) hrd (fun k hk1 hk3 => by have := HDK.out.isIn k hk3; have := HS5.out; have : w5.drew.heap.size = w5.heap.size := rfl; omega) (fun k hk => hk.2) hb (by omega)
    have hrf := (HR6.out.chg (G := fun _ => False) (Chg.of_ext ((Ext.dr (Ext.refl w5)).trans hg6.ext)) (fun _ _ h => h))
    have KW' := Lib.hid KW
    have HX6 := Lib.hid hx6
    have HRF := Lib.hid hrf
    have HS6 := Lib.hid hs6
    clear KW hx5 hx6 hrd hg6 hrf hs6 HR6 HX5
    go_wp2
    clear c1' c2'
    go_region_law (go_simp; (go_at_call 37; refine KW'.out.mono ?_; rintro e w7 ⟨rfl, hk7, hc7⟩))
    all_goals
      have hl7 := (HSL.out.ext HX6.out).chg hc7 HAP.out
      have g0 : w7.cell? ⟨m, 0, none⟩ = some (.pointer (some ⟨r, 0, none⟩)) := hl7.c0
      have hrf7 := HRF.out.chg hc7 (fun k hk hF => by have := HDK.out.isIn k hF; have := HS5.out; omega)
      have hap7 : F2.apart (F1.since w6 w7) := (HAP.out.symm.since (HSL.out.ext HX6.out).isIn).symm
      have hwt := wrD_waits s (f : Int) (List.replicate z (0 : UInt8))
      rw [List.length_replicate] at hwt
      have HW7 := Lib.hid hwt
      have HK7 := Lib.hid hk7
      have HC7 := Lib.hid hc7
      have HL7 := Lib.hid hl7
      have HRF7 := Lib.hid hrf7
      have HAP7 := Lib.hid hap7
      clear hk7 hc7 hl7 hmk e0 e2 d0 d2 hrf7 hap7 hwt KW' HRF
      go_wp2_with fail
      refine (RkSync _ r _ w7 HK7.out (by have := HW7.out; omega) (by rw [wrD_n]; exact hn0) (by rw [wrD_n]; omega)).mono ?_
      rintro e w8 ⟨rfl, hk8, HC8'⟩
      have hl8 := HL7.out.chg HC8' HAP7.out
      have hi5 : ∀ k, F1.since w6 w7 k → ¬ (w4.heap.size ≤ k ∧ k < w5.heap.size) := fun k hk hk2 => by
        rcases hk with hk | hk
        · have := HDK.out.isIn k hk
          have := HS5.out
          omega
        · have := HS6.out
          omega
      have hrf8 := HRF7.out.chg HC8' (fun k hk hF => hi5 k hF hk)
      have g0 : w8.cell? ⟨m, 0, none⟩ = some (.pointer (some ⟨r, 0, none⟩)) := hl8.c0
      have h68 : w6.heap.size ≤ w8.heap.size := Nat.le_trans HC7.out.size HC8'.size
      have hs2 : (syD (wrD s (f : Int) (List.replicate z (0 : UInt8)))).1.length = s.1.length := by rw [syD_len, wrD_len]
      have KW2 := RkWrite _ (fun k => w4.heap.size ≤ k ∧ k < w5.heap.size) r _ (f : Int) _ (frameB (payB n p)) w8 hk8 hrf8 (fun k hk hF => hi5 k hF hk) (fun k hk => by have := HS6.out; omega) (by rw [hs2]; exact hb) (by simp [syD])
      have KW2' := Lib.hid KW2
      have HC8 := Lib.hid HC8'
      have HSZ := Lib.hid h68
      clear hk8 HC8' hl8 hrf8 hi5 h68 hs2 KW2 HK7
      go_wp2_with fail
      refine KW2'.out.mono ?_
      rintro e w9' ⟨rfl, hk9, hc9⟩
      have HK9 := Lib.hid hk9
      have HC9 := Lib.hid hc9
      clear hk9 hc9 KW2'
      go_wp2
      go_ret
      have t1 := HX6.out.size
      have t2 := HC7.out.size
      have t3 := HC8.out.size
      have t4 := HC9.out.size
      have hfin : stD s f z p n = wrD (syD (wrD s (f : Int) (List.replicate z (0 : UInt8)))) (f : Int) (frameB (payB n p)) := by
        rw [HSD.out, wpD, HY.out]
      refine ⟨rfl, ?_, ?_⟩
      · rw [hfin]
        refine Rk.mono HK9.out (fun k hk => ?_) (HDK.out.isIn.since (by omega))
        rcases hk with (hk | hk) | hk
        · exact .inl hk
        · exact .inr ⟨by omega, by omega⟩
        · exact .inr ⟨by omega, by omega⟩
      · have u1 : Chg F1 w w7 := (Chg.of_ext HX6.out).trans HC7.out (fun _ _ h => h)
        have u2 : Chg F1 w w8 := u1.trans HC8.out (fun x hx hF => by
          rcases hF with hF | hF
          · exact hF
          · omega)
        exact u2.trans HC9.out (fun x hx hF => by
          rcases hF with hF | hF
          · exact hF
          · omega)

theorem stE_frame {s : DkS} {f z : Nat} {p : List UInt8} {age : Int} (h : 0 ≤ age ∧ age < 9007199254740992) (ho : ¬ (age ≤ ageI (picD s f z 0) ∨ age ≤ ageI (picD s f z 1))) :
    stE s f z p age = if frP age p = [] ∨ z < (frP age p).length then 3 else 0 := by rw [stE, if_neg (by omega), if_neg ho]

theorem RefStart_any (F : Fp) (m r f z : Nat) (s : DkS) (p : List UInt8) (v : Value) (age : Int) (w : World) (hd : RSD F w m r s f z) (hr : Rd w v (p.map B)) (hb : s.1.length ≤ 65536) (hz : f + 2 * z ≤ s.1.length) (h1 : 1 ≤ z) (hw : s.2.1.length ≤ 100000000) (hn0 : 0 ≤ s.2.2) (hn1 : s.2.2 ≤ 100000000) (hp : p.length ≤ 1000000) :
    Calls Try.prog 16 #[.pointer (some ⟨m, 0, none⟩), v, .int .i64 age] w fun e w' => e = .returned (.int .i64 (stE s f z p age)) ∧ RSD (F.since w w') w' m r (stS s f z p age) f z ∧ Chg F w w' := by
  have later : ∀ {w' : World}, Ext w w' → RSD (F.since w w') w' m r s f z := fun hx => (hd.ext hx).mono (fun _ hk => .inl hk) (hd.isIn.since hx.size)
  by_cases he : stE s f z p age = 0
  · have hd0 := hd
    obtain ⟨F1, F2, a1, a2, a3, a4, a5, a6⟩ := hd
    refine (RefStart_yes F F1 F2 m r f z s p v age w a1 a2 a3 hd0 hr hb hz h1 hw hn0 hn1 hp he).mono ?_
    rintro e w' ⟨rfl, hk, hc⟩
    rw [he, stS, if_pos he]
    refine ⟨rfl, ⟨_, F2, hk, a2.chg hc a3, (a3.symm.since a2.isIn).symm, fun k hk => ?_, fun k hk => .inl (a5 k hk), a6.since hc.size⟩, hc.mono fun k _ hk => a4 k hk⟩
    rcases hk with hk | hk
    · exact .inl (a4 k hk)
    · exact .inr hk
  · rw [stS, if_neg he]
    by_cases h : 0 ≤ age ∧ age < 9007199254740992
    · by_cases ho : age ≤ ageI (picD s f z 0) ∨ age ≤ ageI (picD s f z 1)
      · have e6 : stE s f z p age = 6 := by rw [stE, if_neg (by omega), if_pos ho]
        rw [e6]
        exact (RefStart_old F m r f z s p v age w hd hr hb hz h1 (by omega) h ho).mono fun _ _ ⟨he, hx⟩ => ⟨he, later hx, Chg.of_ext hx⟩
      · have e3 := stE_frame (p := p) h ho
        by_cases hf : frP age p = [] ∨ z < (frP age p).length
        · rw [e3, if_pos hf]
          exact (RefStart_full F m r f z s p v age w hd hr hb hz h1 (by omega) hp h ⟨by omega, by omega⟩ hf).mono fun _ _ ⟨he, hx⟩ => ⟨he, later hx, Chg.of_ext hx⟩
        · rw [e3, if_neg hf] at he
          exact absurd rfl he
    · have e1 : stE s f z p age = 1 := by rw [stE, if_pos h]
      rw [e1]
      exact (RefStart_age F m r f z s p v age w hd hr h).mono fun _ _ ⟨he, hx⟩ => ⟨he, later hx, Chg.of_ext hx⟩

end Go.Proofs.Ytidkdnidafdmpaa

/- Layer 6: both slots, each on its own disk, through the calls. -/
namespace Go.Proofs.Ytidkdnidafdmpaa
open Go.RowKit

/-- Since w1 all that was there stands; both disks and slots were made since, and lie apart, and apart of the block i. -/
def FreeS (w : World) (i : Nat) (w1 : World) (h g m r f z : Nat) (s t : DkS) : Prop :=
  ∃ F G : Fp, SlW w1 w h g s f z F ∧ RSD G w m r t f z ∧ (∀ k, G k → w1.heap.size ≤ k) ∧ F.apart G ∧ ¬ F i ∧ ¬ G i
def PrS (w1 w : World) (h g m r f z : Nat) (s t : DkS) : Prop :=
  ∃ F G : Fp, SlW w1 w h g s f z F ∧ RSD G w m r t f z ∧ (∀ k, G k → w1.heap.size ≤ k) ∧ F.apart G
/-- What a call leaves of the block i. -/
abbrev KeepsS (i : Nat) (w w' : World) : Prop := ∀ (T : TypeId) (cs : Array Value), Blk w i T cs → Blk w' i T cs

section
variable {w1 w w' : World} {h g m r f z i : Nat} {s t s' t' : DkS}
theorem keepsS_chg {F : Fp} (hc : Chg F w w') (hi : ¬ F i) : KeepsS i w w' := fun _ _ hb => (hc.block i hb.lt hi).trans hb
theorem PrS.ext0 (hp : PrS w1 w h g m r f z s t) : Ext w1 w := by
  obtain ⟨F, G, h1, _⟩ := hp
  exact h1.2.2
theorem PrS.ext (hp : PrS w1 w h g m r f z s t) (hx : Ext w w') : PrS w1 w' h g m r f z s t := by
  obtain ⟨F, G, h1, h2, h3, h4⟩ := hp
  exact ⟨F, G, h1.ext hx, h2.ext hx, h3, h4⟩
theorem PrS.free (hp : PrS w1 w h g m r f z s t) (hi : w.heap.size ≤ i) (hx : Ext w w') : FreeS w' i w1 h g m r f z s t := by
  obtain ⟨F, G, h1, h2, h3, h4⟩ := hp
  exact ⟨F, G, h1.ext hx, h2.ext hx, h3, h4, (fun hF => by have := h1.1.isIn i hF; omega), (fun hG => by have := h2.isIn i hG; omega)⟩
theorem FreeS.pr (hp : FreeS w i w1 h g m r f z s t) : PrS w1 w h g m r f z s t := by
  obtain ⟨F, G, h1, h2, h3, h4, _⟩ := hp
  exact ⟨F, G, h1, h2, h3, h4⟩
theorem FreeS.ext (hp : FreeS w i w1 h g m r f z s t) (hx : Ext w w') : FreeS w' i w1 h g m r f z s t := by
  obtain ⟨F, G, h1, h2, h3, h4, h5, h6⟩ := hp
  exact ⟨F, G, h1.ext hx, h2.ext hx, h3, h4, h5, h6⟩

/-- A call that turns the code's disk. -/
theorem FreeS.code (hp : FreeS w i w1 h g m r f z s t) (hilt : i < w.heap.size) {n : Nat} {args : Array Value} {v : Value}
    (hk : ∀ F, SlW w1 w h g s f z F → Calls Try.prog n args w fun e w' => e = .returned v ∧ SlW w1 w' h g s' f z (F.since w w') ∧ Chg F w w') :
    Calls Try.prog n args w fun e w' => e = .returned v ∧ FreeS w' i w1 h g m r f z s' t ∧ KeepsS i w w' := by
  obtain ⟨F, G, h1, h2, h3, h4, h5, h6⟩ := hp
  exact (hk F h1).mono fun e w' ⟨he, hd, hc⟩ => ⟨he, ⟨_, G, hd, h2.chg hc h4.symm, h3, h4.since h2.isIn, nsinceS h5 hilt, h6⟩, keepsS_chg hc h5⟩
/-- A call that turns the reference's. -/
theorem FreeS.ref (hp : FreeS w i w1 h g m r f z s t) (hilt : i < w.heap.size) {n : Nat} {args : Array Value} {v : Value}
    (hk : ∀ G, RSD G w m r t f z → Calls Try.prog n args w fun e w' => e = .returned v ∧ RSD (G.since w w') w' m r t' f z ∧ Chg G w w') :
    Calls Try.prog n args w fun e w' => e = .returned v ∧ FreeS w' i w1 h g m r f z s t' ∧ KeepsS i w w' := by
  obtain ⟨F, G, h1, h2, h3, h4, h5, h6⟩ := hp
  exact (hk G h2).mono fun e w' ⟨he, hd, hc⟩ => ⟨he, ⟨F, _, h1.chg hc h4 h3, hd, since_lowS h3 h1.2.2.size, (h4.symm.since h1.1.isIn).symm, h5, nsinceS h6 hilt⟩, keepsS_chg hc h6⟩
/-- A call of the reference's disk's own. -/
theorem RSD.turnC {F : Fp} (hd : RSD F w m r t f z) {n : Nat} {args : Array Value} {v : Value}
    (hk : ∀ F1, Rk F1 w r t → Calls Try.prog n args w fun e w' => e = .returned v ∧ Rk F1 w' r t' ∧ Chg F1 w w') :
    Calls Try.prog n args w fun e w' => e = .returned v ∧ RSD (F.since w w') w' m r t' f z ∧ Chg F w w' := by
  obtain ⟨F1, F2, h1, h2, h3, h4, h5, h6⟩ := hd
  refine (hk F1 h1).mono ?_
  rintro e w' ⟨he, hd', hc⟩
  exact ⟨he, ⟨F1, F2, hd', h2.chg hc h3, h3, fun k hk => .inl (h4 k hk), fun k hk => .inl (h5 k hk), h6.since hc.size⟩, hc.mono fun k _ hk => h4 k hk⟩

theorem FreeS.codeLoad (hp : FreeS w i w1 h g m r f z s t) (hz : f + 2 * z ≤ s.1.length) (h1 : 1 ≤ z) (hw : s.2.1.length ≤ 1000000000) :
    Calls Try.prog 13 #[.pointer (some ⟨h, 0, none⟩)] w fun e w' => LoadP (loadD s f z) w e w' ∧ FreeS w' i w1 h g m r f z s t := by
  have hp' := hp
  obtain ⟨F, G, a1, _⟩ := hp
  exact (a1.load hz h1 hw).mono fun e w' ⟨hl, _⟩ => ⟨hl, by obtain ⟨v, _, _, hx⟩ := hl; exact hp'.ext hx⟩
theorem FreeS.refLoad (hp : FreeS w i w1 h g m r f z s t) (hb : t.1.length ≤ 65536) (hz : f + 2 * z ≤ t.1.length) (h1 : 1 ≤ z) (hw : t.2.1.length ≤ 1000000000) :
    Calls Try.prog 20 #[.pointer (some ⟨m, 0, none⟩)] w fun e w' => PicP (loadD t f z) w e w' ∧ FreeS w' i w1 h g m r f z s t := by
  have hp' := hp
  obtain ⟨F, G, _, a2, _⟩ := hp
  exact (RefLoad_any G m r f z t w a2 hb hz h1 hw).mono fun e w' hl => ⟨hl, by obtain ⟨v, _, _, hx⟩ := hl; exact hp'.ext hx⟩
theorem FreeS.codeBytes (hp : FreeS w i w1 h g m r f z s t) (hw : s.2.1.length ≤ 1000000000) : Calls Try.prog 22 #[.pointer (some ⟨g, 0, none⟩)] w fun e w' =>
    ∃ A c, e = .returned (.slice A s.1.length c) ∧ Rd w' (.slice A s.1.length c) ((rdD s).map B) ∧ FreeS w' i w1 h g m r f z s t ∧ Ext w w' := by
  have hp' := hp
  obtain ⟨F, G, a1, _⟩ := hp
  refine (DkBytes F g s w a1.1.dk hw).mono ?_
  rintro e w' ⟨v, rfl, hg⟩
  obtain ⟨A, c, rfl⟩ := hg.slice_ (n := s.1.length) (by rw [List.length_map, rdD_len])
  exact ⟨A, c, rfl, Rd.own hg.own, hp'.ext hg.ext, hg.ext⟩
theorem FreeS.refBytes (hp : FreeS w i w1 h g m r f z s t) (hb : t.1.length ≤ 65536) (hw : t.2.1.length ≤ 1000000000) : Calls Try.prog 23 #[.pointer (some ⟨r, 0, none⟩)] w fun e w' =>
    ∃ A c, e = .returned (.slice A t.1.length c) ∧ Rd w' (.slice A t.1.length c) ((rdD t).map B) ∧ FreeS w' i w1 h g m r f z s t ∧ Ext w w' := by
  have hp' := hp
  obtain ⟨F, G, _, a2, _⟩ := hp
  refine (RkBytes G r t w a2.rk hb hw).mono ?_
  rintro e w' ⟨v, rfl, hg⟩
  obtain ⟨A, c, rfl⟩ := hg.slice_ (n := t.1.length) (by rw [List.length_map, rdD_len])
  exact ⟨A, c, rfl, Rd.own hg.own, hp'.ext hg.ext, hg.ext⟩
end

/-! ### What holds behind k acts -/
def OkS (N k : Nat) (s : DkS) : Prop := s.1.length = N ∧ s.2.1.length ≤ 400 ∧ 0 ≤ s.2.2 ∧ s.2.2 ≤ 2 * k
section
variable {N k f z : Nat} {s : DkS} {p : List UInt8} {age keep : Int}
theorem OkS.save (h : OkS N k s) : OkS N (k + 1) (svS s f z p age) := by
  have h1 := svS_len s f z p age
  have h2 := svS_waits (s := s) (f := f) (z := z) (b := p) (age := age)
  have h3 := svS_n s f z p age
  obtain ⟨a1, a2, a3, a4⟩ := h
  exact ⟨by omega, by omega, by omega, by omega⟩
theorem OkS.start (h : OkS N k s) (hz : z ≤ 400) : OkS N (k + 1) (stS s f z p age) := by
  have h1 := stS_len s f z p age
  have h3 := stS_n s f z p age
  have h2 : (stS s f z p age).2.1.length ≤ 400 := by
    unfold stS
    split
    · rename_i he
      have := stD_waits s f z p age
      have := stE_yes he
      omega
    · exact h.2.1
  obtain ⟨a1, a2, a3, a4⟩ := h
  exact ⟨by omega, h2, by omega, by omega⟩
theorem OkS.crash (h : OkS N k s) : OkS N k (crD s keep) := by
  obtain ⟨a1, a2, a3, a4⟩ := h
  exact ⟨by rw [crD_len]; exact a1, Nat.zero_le _, a3, a4⟩
theorem OkS.same (h : OkS N k s) : OkS N (k + 1) s := by
  obtain ⟨a1, a2, a3, a4⟩ := h
  exact ⟨a1, a2, a3, by omega⟩
theorem st_save (h : stE s f z p age = 0) : syD (stS s f z p age) = svS s f z p age := by rw [stS, svS, if_pos h, if_pos h]
theorem st_none (h : stE s f z p age ≠ 0) : stS s f z p age = s ∧ svS s f z p age = s := by
  rw [stS, svS, if_neg h, if_neg h]
  exact ⟨rfl, rfl⟩
end

end Go.Proofs.Ytidkdnidafdmpaa
