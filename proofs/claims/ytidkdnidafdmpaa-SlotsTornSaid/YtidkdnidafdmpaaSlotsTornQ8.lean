/- Texts that the proof of SlotsTorn rests on, one behind the other. -/
import Derived.Test.YtidkdnidafdmpaaSlotsTornQ7
import Derived.Test.YtidkdnidafdmpaaRows
import Derived.Outline
import Derived.Lib.SlBytesConst

/- Package slots: what its calls do. -/
namespace Go.Proofs.Ytidkdnidafdmpaa
open Go.RowKit

theorem SlStart (F : Fp) (h g : Nat) (s : DkS) (f z : Nat) (H : Fp) (p : List UInt8) (v : Value) (age : Int) (w : World) (hd : SD F w h g s f z) (hr : RdF H w v (p.map B)) (_ha : H.apart F) (_hH : H.isIn w) (hz : f + 2 * z ≤ s.1.length) (h1 : 1 ≤ z) (hw : s.2.1.length ≤ 100000000) (hn0 : 0 ≤ s.2.2) (hn1 : s.2.2 ≤ 100000000) (hp : p.length ≤ 1000000) (_a0 : -9223372036854775808 ≤ age) (_a1 : age ≤ 9223372036854775807) :
    Calls Try.prog 15 #[.pointer (some ⟨h, 0, none⟩), v, .int .i64 age] w fun e w' => e = .returned (.int .i64 (stE s f z p age)) ∧ SD (F.since w w') w' h g (stS s f z p age) f z ∧ Chg F w w' := by
  have hx : ∀ (E : Int), stE s f z p age = E → E ≠ 0 → Calls Try.prog 15 #[.pointer (some ⟨h, 0, none⟩), v, .int .i64 age] w (fun e w' => e = .returned (.int .i64 E) ∧ Ext w w') →
      Calls Try.prog 15 #[.pointer (some ⟨h, 0, none⟩), v, .int .i64 age] w fun e w' => e = .returned (.int .i64 (stE s f z p age)) ∧ SD (F.since w w') w' h g (stS s f z p age) f z ∧ Chg F w w' := by
    intro E hE h0 K
    refine K.mono ?_
    rintro e w' ⟨rfl, hx⟩
    rw [stS, hE, if_neg h0]
    exact ⟨rfl, hd.later hx, Chg.of_ext hx⟩
  by_cases hn : 0 ≤ age ∧ age < 9007199254740992
  · obtain ⟨n, rfl⟩ : ∃ n : Nat, age = n := ⟨age.toNat, by omega⟩
    by_cases ho : (n : Int) ≤ ageI (loadD s f z)
    · refine hx 6 ?_ (by decide) (SlStart_old F h g s f z v n w hd hz h1 (by omega) (by omega) ho)
      rw [stE, if_neg (fun h => h hn), if_pos ((load_old s f z n).1 ho)]
    · by_cases hf : frameB (payB n p) = [] ∨ z < (frameB (payB n p)).length
      · refine hx 3 ?_ (by decide) (SlStart_full F h g s f z p v n w hd hr.rd hz h1 (by omega) hp (by omega) ho hf)
        rw [stE, if_neg (fun h => h hn), if_neg (fun h => ho ((load_old s f z n).2 h)), frP, Int.toNat_natCast, if_pos hf]
      · have hE : stE s f z p n = 0 := by rw [stE, if_neg (fun h => h hn), if_neg (fun h => ho ((load_old s f z n).2 h)), frP, Int.toNat_natCast, if_neg hf]
        rw [stS, hE, if_pos rfl]
        exact SlStart_yes F h g s f z p v n w hd hr.rd hz h1 hw hn0 hn1 hp (by omega) ho hf
  · refine hx 1 ?_ (by decide) (SlStart_num _ v age w hn)
    rw [stE, if_pos hn]

theorem stE_le (s : DkS) (f z : Nat) (p : List UInt8) (age : Int) : 0 ≤ stE s f z p age ∧ stE s f z p age ≤ 6 := by
  unfold stE
  split
  · omega
  · split
    · omega
    · split <;> omega

set_option maxRecDepth 100000 in
theorem SlSave (F : Fp) (h g : Nat) (s : DkS) (f z : Nat) (H : Fp) (p : List UInt8) (v : Value) (age : Int) (w : World) (hd : SD F w h g s f z) (hr : RdF H w v (p.map B)) (ha : H.apart F) (hH : H.isIn w) (hz : f + 2 * z ≤ s.1.length) (h1 : 1 ≤ z) (hw : s.2.1.length ≤ 100000000) (hn0 : 0 ≤ s.2.2) (hn1 : s.2.2 ≤ 100000000) (hp : p.length ≤ 1000000) (a0 : -9223372036854775808 ≤ age) (a1 : age ≤ 9223372036854775807) :
    Calls Try.prog 14 #[.pointer (some ⟨h, 0, none⟩), v, .int .i64 age] w fun e w' => e = .returned (.int .i64 (stE s f z p age)) ∧ SD (F.since w w') w' h g (svS s f z p age) f z ∧ Chg F w w' := by
  have HK := Lib.hid (SlStart F h g s f z H p v age w hd hr ha hH hz h1 hw hn0 hn1 hp a0 a1)
  have HI := Lib.hid hd.isIn
  by_cases he : stE s f z p age = 0
  · have hS : svS s f z p age = syD (stS s f z p age) := by rw [svS, if_pos he, stS, if_pos he]
    have hy := stE_yes he
    have hwt : (stS s f z p age).2.1.length ≤ 1000000000 := by
      rw [stS, if_pos he]
      have := stD_waits s f z p age
      have := hd.lens
      omega
    have hnn : (stS s f z p age).2.2 = s.2.2 + 1 := by rw [stS, if_pos he, stD_n]
    have HS := Lib.hid (And.intro hS (And.intro hwt hnn))
    rw [he] at HK ⊢
    clear hd hr ha hH hz h1 hw hp a0 a1 he hS hy hwt hnn
    go_enter Try.func14, Try.ntmps14
    go_wp2_with fail
    refine HK.out.mono ?_
    rintro e w1 ⟨rfl, hd1, hc1⟩
    have c0 := hd1.sl.c0
    have HD1 := Lib.hid hd1
    have HC1 := Lib.hid hc1
    clear hd1 hc1 HK
    go_wp2_with fail
    refine (SD.turn HD1.out (fun F1 hd1 => DkSync F1 g _ w1 hd1 HS.out.2.1 (by rw [HS.out.2.2]; omega) (by rw [HS.out.2.2]; omega))).mono ?_
    rintro e w2 ⟨rfl, hd2, hc2⟩
    have HD2 := Lib.hid hd2
    have HC2 := Lib.hid hc2
    clear hd2 hc2
    go_wp2
    go_ret
    have t1 := HC1.out.size
    have t2 := HC2.out.size
    refine ⟨rfl, ?_, HC1.out.step HC2.out⟩
    rw [HS.out.1]
    exact HD2.out.mono (Fp.since_since t1 t2) (HI.out.since (by omega))
  · have hS : svS s f z p age = stS s f z p age := by rw [svS, if_neg he, stS, if_neg he]
    have hE : (stE s f z p age == 0) = false := by rw [beq_eq_false_iff_ne]; exact he
    have HS := Lib.hid hS
    clear hd hr ha hH hz h1 hw hp a0 a1 he hS hn0 hn1
    generalize stE s f z p age = E at *
    go_enter Try.func14, Try.ntmps14
    go_wp2_with fail
    refine HK.out.mono ?_
    rintro e w1 ⟨rfl, hd1, hc1⟩
    have HD1 := Lib.hid hd1
    have HC1 := Lib.hid hc1
    clear hd1 hc1 HK
    go_wp2
    go_ret
    rw [HS.out]
    exact ⟨rfl, HD1.out, HC1.out⟩

set_option maxRecDepth 100000 in
theorem SlSave_nil (p : List UInt8) (v : Value) (age : Int) (w : World) (hr : Rd w v (p.map B)) (a0 : -9223372036854775808 ≤ age) (a1 : age ≤ 9223372036854775807) : Calls Try.prog 14 #[.pointer none, v, .int .i64 age] w fun e w' => e = .returned (.int .i64 1) ∧ Ext w w' := by
  have HK := Lib.hid (SlStart_nil p v age w hr a0 a1)
  clear hr a0 a1
  go_enter Try.func14, Try.ntmps14
  go_wp2_with fail
  refine HK.out.mono ?_
  rintro e w1 ⟨rfl, hx1⟩
  go_wp2
  go_ret
  exact ⟨rfl, hx1⟩

end Go.Proofs.Ytidkdnidafdmpaa

/- Layer 6: a disk and slots that a call made itself, through the calls. -/
namespace Go.Proofs.Ytidkdnidafdmpaa
open Go.RowKit

/-- Since w0 all that was there stands; the disk and the slots were made since, and lie in F. -/
def SlW (w0 w : World) (h g : Nat) (s : DkS) (f z : Nat) (F : Fp) : Prop := SD F w h g s f z ∧ (∀ k, F k → w0.heap.size ≤ k) ∧ Ext w0 w
/-- A disk alone. -/
def DsW (w0 w : World) (g : Nat) (s : DkS) (F : Fp) : Prop := Dk F w g s ∧ (∀ k, F k → w0.heap.size ≤ k) ∧ Ext w0 w

section
variable {w0 w w' : World} {h g f z : Nat} {s : DkS} {F G : Fp} {p : List UInt8} {v : Value} {age : Int}
theorem since_lowS (hf : ∀ k, F k → w0.heap.size ≤ k) (hs : w0.heap.size ≤ w.heap.size) : ∀ k, F.since w w' k → w0.heap.size ≤ k := fun k hk => by
  rcases hk with hk | hk
  · exact hf k hk
  · exact Nat.le_trans hs hk.1
theorem old_apartS (hf : ∀ k, F k → w0.heap.size ≤ k) : Fp.apart (fun k => k < w0.heap.size) F := fun k hk hF => by
  have := hf k hF
  omega
theorem old_rdS {xs : List Value} (hr : Rd w0 v xs) (hx : Ext w0 w) : RdF (fun k => k < w0.heap.size) w v xs := hr.old.chg (G := fun _ => False) (Chg.of_ext hx) (fun _ _ h => h)
theorem old_inS (hx : Ext w0 w) : Fp.isIn (fun k => k < w0.heap.size) w := fun _ hk => Nat.lt_of_lt_of_le hk hx.size
theorem nsinceS {i : Nat} (h1 : ¬ F i) (h2 : i < w.heap.size) : ¬ F.since w w' i := fun h => by
  rcases h with h | h
  · exact h1 h
  · omega
theorem SlW.ext (hl : SlW w0 w h g s f z F) (hx : Ext w w') : SlW w0 w' h g s f z F := ⟨hl.1.ext hx, hl.2.1, hl.2.2.trans hx⟩
theorem SlW.chg (hl : SlW w0 w h g s f z F) (hc : Chg G w w') (ha : F.apart G) (hg : ∀ k, G k → w0.heap.size ≤ k) : SlW w0 w' h g s f z F := ⟨hl.1.chg hc ha, hl.2.1, hc.ext hl.2.2 hg⟩
theorem SlW.dsW (hl : SlW w0 w h g s f z F) : DsW w0 w g s F := ⟨hl.1.dk, hl.2⟩
theorem DsW.ext (hl : DsW w0 w g s F) (hx : Ext w w') : DsW w0 w' g s F := ⟨Dk.ext hl.1 hx, hl.2.1, hl.2.2.trans hx⟩
theorem DsW.new (hx : Ext w0 w) (n : Nat) (h1 : 1 ≤ n) (h2 : n ≤ 65536) : Calls Try.prog 9 #[.int .i64 (n : Int)] w fun e w' =>
    ∃ g, e = .returned (.pointer (some ⟨g, 0, none⟩)) ∧ DsW w0 w' g (List.replicate n 0, [], 0) (fun k => w.heap.size ≤ k ∧ k < w'.heap.size) ∧ Ext w w' :=
  (DkNew_yes n w h1 h2).mono fun _ _ ⟨g, he, hd, hx'⟩ => ⟨g, he, ⟨hd, fun _ hk => Nat.le_trans hx.size hk.1, hx.trans hx'⟩, hx'⟩
theorem DsW.open_ (hl : DsW w0 w g s F) (hz : f + 2 * z ≤ s.1.length) (h1 : 1 ≤ z) :
    Calls Try.prog 11 #[.pointer (some ⟨g, 0, none⟩), .int .i64 (f : Int), .int .i64 (z : Int)] w fun e w' => ∃ h : Nat, e = .returned (.tuple #[.pointer (some ⟨h, 0, none⟩), .int .i64 0]) ∧
      SlW w0 w' h g s f z (F.since w w') ∧ Ext w w' := by
  refine (SlOpen_yes F g s f z w hl.1 hz h1).mono ?_
  rintro e w' ⟨h, he, hs, hx⟩
  refine ⟨h, he, ⟨⟨F, _, Dk.ext hl.1 hx, hs, fun k hk hF => ?_, fun _ hk => .inl hk, fun _ hk => .inr hk, hl.1.isIn.since hx.size⟩, since_lowS hl.2.1 hl.2.2.size, hl.2.2.trans hx⟩, hx⟩
  have := hl.1.isIn k hF
  omega
theorem SlW.start (hl : SlW w0 w h g s f z F) (hr : Rd w0 v (p.map B)) (hz : f + 2 * z ≤ s.1.length) (h1 : 1 ≤ z) (hw : s.2.1.length ≤ 100000000) (hn0 : 0 ≤ s.2.2) (hn1 : s.2.2 ≤ 100000000) (hp : p.length ≤ 1000000) (a0 : -9223372036854775808 ≤ age) (a1 : age ≤ 9223372036854775807) :
    Calls Try.prog 15 #[.pointer (some ⟨h, 0, none⟩), v, .int .i64 age] w fun e w' => e = .returned (.int .i64 (stE s f z p age)) ∧ SlW w0 w' h g (stS s f z p age) f z (F.since w w') ∧ Chg F w w' :=
  (SlStart F h g s f z _ p v age w hl.1 (old_rdS hr hl.2.2) (old_apartS hl.2.1) (old_inS hl.2.2) hz h1 hw hn0 hn1 hp a0 a1).mono fun _ _ ⟨he, hd, hc⟩ => ⟨he, ⟨hd, since_lowS hl.2.1 hl.2.2.size, hc.ext hl.2.2 hl.2.1⟩, hc⟩
theorem SlW.save (hl : SlW w0 w h g s f z F) (hr : Rd w0 v (p.map B)) (hz : f + 2 * z ≤ s.1.length) (h1 : 1 ≤ z) (hw : s.2.1.length ≤ 100000000) (hn0 : 0 ≤ s.2.2) (hn1 : s.2.2 ≤ 100000000) (hp : p.length ≤ 1000000) (a0 : -9223372036854775808 ≤ age) (a1 : age ≤ 9223372036854775807) :
    Calls Try.prog 14 #[.pointer (some ⟨h, 0, none⟩), v, .int .i64 age] w fun e w' => e = .returned (.int .i64 (stE s f z p age)) ∧ SlW w0 w' h g (svS s f z p age) f z (F.since w w') ∧ Chg F w w' :=
  (SlSave F h g s f z _ p v age w hl.1 (old_rdS hr hl.2.2) (old_apartS hl.2.1) (old_inS hl.2.2) hz h1 hw hn0 hn1 hp a0 a1).mono fun _ _ ⟨he, hd, hc⟩ => ⟨he, ⟨hd, since_lowS hl.2.1 hl.2.2.size, hc.ext hl.2.2 hl.2.1⟩, hc⟩
theorem SlW.load (hl : SlW w0 w h g s f z F) (hz : f + 2 * z ≤ s.1.length) (h1 : 1 ≤ z) (hw : s.2.1.length ≤ 1000000000) :
    Calls Try.prog 13 #[.pointer (some ⟨h, 0, none⟩)] w fun e w' => LoadP (loadD s f z) w e w' ∧ SlW w0 w' h g s f z F :=
  (SlLoad F h g s f z w hl.1 hz h1 hw).mono fun _ _ hp => ⟨hp, by obtain ⟨v, _, _, hx⟩ := hp; exact hl.ext hx⟩
theorem SlW.crash (hl : SlW w0 w h g s f z F) (k : Int) (h0 : -9223372036854775808 ≤ k) (h1 : k ≤ 9223372036854775807) (hw : s.2.1.length ≤ 1000000000) :
    Calls Try.prog 18 #[.pointer (some ⟨g, 0, none⟩), .int .i64 k] w fun e w' => e = .returned (.tuple #[]) ∧ SlW w0 w' h g (crD s k) f z (F.since w w') ∧ Chg F w w' :=
  (hl.1.turn fun F1 hd => DkCrash F1 g s k w hd h0 h1 hw).mono fun _ _ ⟨he, hd, hc⟩ => ⟨he, ⟨hd, since_lowS hl.2.1 hl.2.2.size, hc.ext hl.2.2 hl.2.1⟩, hc⟩
end

end Go.Proofs.Ytidkdnidafdmpaa

/- Two closed facts on the program that every row asks. -/
namespace Go.Proofs.Ytidkdnidafdmpaa
open Go.RowKit

theorem Try.ownKnob : ownKnob Try.prog.godebug = none := by kernel_rfl

theorem Try.laidOut : laidOutB Try.prog = true := by kernel_rfl

end Go.Proofs.Ytidkdnidafdmpaa

/- Layer 6, the statements: what all of them ask first. -/
namespace Go.Proofs.Ytidkdnidafdmpaa
open Go.RowKit

/-- What the example comes to. -/
abbrev aw0 : DkS := (List.replicate 60 0, [], 0)
abbrev aw1 : DkS := svS aw0 2 20 [97] 1
abbrev aw2 : DkS := stS aw1 2 20 [98] 2
abbrev aw3 : DkS := crD aw2 3
theorem aw_e1 : stE aw0 2 20 [97] 1 = 0 := by decide +kernel
theorem aw_e2 : stE aw1 2 20 [98] 2 = 0 := by decide +kernel
theorem aw_w1 : aw1.2.1.length = 0 := by decide +kernel
theorem aw_n1 : aw1.2.2 = 2 := by decide +kernel
theorem aw_l1 : aw1.1.length = 60 := by decide +kernel
theorem aw_w2 : aw2.2.1.length = 8 := by decide +kernel
theorem aw_n3 : aw3.2.2 = 3 := by decide +kernel
theorem aw_l3 : aw3.1.length = 60 := by decide +kernel
theorem aw_l2 : aw2.1.length = 60 := by decide +kernel
theorem aw_ld : loadD aw3 2 20 = some ([97], 1) := by decide +kernel
theorem aw_e3 : stE aw3 2 20 [] 1 = 6 := by decide +kernel
theorem aw_lit (c : UInt8) : #[Value.int .u8 (c.toNat : Int)] = (([c] : List UInt8).map B).toArray := by simp [B]

/-- A constant's bytes. -/
theorem RdF.litS (w : World) (l : List UInt8) (cs : Array Value) (e : TypeId) (n g : Nat) (m : Nat × Nat) (h : l.length ≤ 4096) (hc : cs = (l.map B).toArray) (hn : n = l.length) (hg : g = w.heap.size) :
    RdF (fun k => w.heap.size ≤ k ∧ k < (w.alloc (.cells cs e m)).heap.size) (w.alloc (.cells cs e m)) (.slice (some ⟨g, 0, none⟩) n n) (l.map B) := by
  subst hc hn hg
  exact ⟨some ⟨w.heap.size, 0, none⟩, l.length, by rw [List.length_map], by rw [List.length_map]; exact Nat.le_refl _, by unfold maxLen; omega, fun _ => ⟨w.heap.size, 0, rfl, by simp, ⟨Nat.le_refl _, by simp⟩, fun j u hu => by
    rw [Nat.zero_add, cell_of_row _ _ _ (l.map B).toArray e m (heap_alloc_new w _)]
    simpa using hu⟩⟩

set_option maxRecDepth 100000 in
set_option maxHeartbeats 1000000 in
theorem alive6_any (w : World) : Calls Try.prog 7 #[] w fun e w' => e = .returned (.bool true) ∧ Ext w w' := by
  have kc := fun (w : World) (C : Array Value) (n c : Nat) => Lib.run_convert_bytes_const (P := Try.prog) w 36 5 C n c Try.underlying36 Try.underlying5
  go_enter Try.func7, Try.ntmps7
  go_wp2_with fail
  refine (DsW.new (Ext.refl w) 60 (by decide) (by decide)).mono ?_
  rintro e w1 ⟨g, rfl, hd1, -⟩
  go_wp2_with fail
  refine (hd1.open_ (f := 2) (z := 20) (by decide) (by decide)).mono ?_
  rintro e w2 ⟨h, rfl, hl2, -⟩
  clear hd1
  generalize (Fp.since _ w1 w2) = F2 at *
  go_wp2_with fail
  have xl := RdF.litS w2 [97] #[.int .u8 97] 5 1 w2.heap.size (1, 2) (by decide) (aw_lit 97) rfl rfl
  have hE : Ext w2 (w2.alloc (.cells #[.int .u8 97] 5 (1, 2))) := (Below.refl _ _).alloc (Nat.le_refl _) _
  have hl2' := hl2.ext hE
  refine (SlSave _ h g _ 2 20 _ [97] _ 1 _ hl2'.1 xl (fun k hk hF => by have := hl2.1.isIn k hF; omega) (fun k hk => hk.2) (by decide) (by decide) (by decide) (by decide) (by decide) (by decide) (by decide) (by decide)).mono ?_
  rintro e w3 ⟨he, hd3, hc3⟩
  obtain rfl := he.trans (congrArg (fun n => Ending.returned (.int .i64 n)) aw_e1)
  have hl3 : SlW w w3 h g aw1 2 20 _ := ⟨hd3, since_lowS hl2'.2.1 hl2'.2.2.size, hc3.ext hl2'.2.2 hl2'.2.1⟩
  clear xl hE hl2 hl2' he hd3 hc3
  generalize (Fp.since F2 _ w3) = F3 at *
  go_wp2_with fail
  have xl := RdF.litS w3 [98] #[.int .u8 98] 5 1 w3.heap.size (1, 2) (by decide) (aw_lit 98) rfl rfl
  have hE : Ext w3 (w3.alloc (.cells #[.int .u8 98] 5 (1, 2))) := (Below.refl _ _).alloc (Nat.le_refl _) _
  have hl3' := hl3.ext hE
  refine (SlStart _ h g _ 2 20 _ [98] _ 2 _ hl3'.1 xl (fun k hk hF => by have := hl3.1.isIn k hF; omega) (fun k hk => hk.2) (by rw [aw_l1]; decide) (by decide) (by rw [aw_w1]; decide) (by rw [aw_n1]; decide) (by rw [aw_n1]; decide) (by decide) (by decide) (by decide)).mono ?_
  rintro e w4 ⟨he, hd4, hc4⟩
  obtain rfl := he.trans (congrArg (fun n => Ending.returned (.int .i64 n)) aw_e2)
  have hl4 : SlW w w4 h g aw2 2 20 _ := ⟨hd4, since_lowS hl3'.2.1 hl3'.2.2.size, hc4.ext hl3'.2.2 hl3'.2.1⟩
  clear xl hE hl3 hl3' he hd4 hc4
  generalize (Fp.since F3 _ w4) = F4 at *
  go_wp2_with fail
  refine (hl4.crash 3 (by decide) (by decide) (by rw [aw_w2]; decide)).mono ?_
  rintro e w5 ⟨rfl, hl5, -⟩
  clear hl4
  generalize (Fp.since F4 _ w5) = F5 at *
  go_wp2_with fail
  refine (hl5.load (by rw [aw_l3]; decide) (by decide) (by simp [crD])).mono ?_
  rintro e w6 ⟨⟨v6, he, hr6, -⟩, hl6⟩
  rw [aw_ld] at he hr6
  obtain rfl := he
  have hr6 : Rd w6 v6 (([97] : List UInt8).map B) := hr6
  obtain ⟨A6, c6, rfl, _, _⟩ := hr6.sliceN (n := 1) rfl
  have kc6 := run_conv_rd (P := Try.prog) w6 36 9 5 Try.underlying36 Try.underlying5 Try.underlying9 _ [97] hr6
  have HL6 := Lib.hid hl6
  clear hl5 hl6 hr6 kc
  go_wp2_with fail
  refine (SlSave _ h g _ 2 20 (fun _ => False) [] _ 1 _ HL6.out.1 ⟨none, 0, rfl, Nat.le_refl _, Nat.zero_le _, fun h => absurd h (by simp)⟩ (fun _ hk => hk.elim) (fun _ hk => hk.elim) (by rw [aw_l3]; decide) (by decide) (by simp [crD]) (by rw [aw_n3]; decide) (by rw [aw_n3]; decide) (by decide) (by decide) (by decide)).mono ?_
  rintro e w7 ⟨he, hd7, hc7⟩
  obtain rfl := he.trans (congrArg (fun n => Ending.returned (.int .i64 n)) aw_e3)
  have hx7 := hc7.ext HL6.out.2.2 HL6.out.2.1
  clear he hd7 hc7
  go_wp2
  go_ret
  exact ⟨rfl, hx7⟩

end Go.Proofs.Ytidkdnidafdmpaa

/- Layer 6, the statements: may acts be looked at? -/
namespace Go.Proofs.Ytidkdnidafdmpaa
open Go.RowKit

def fewS (l : List Act3) : Bool := decide (l.length ≤ 40) && l.all (fun x => decide (x.2.2.2.length ≤ 200))

theorem fewS_yes {l : List Act3} (h : fewS l = true) : l.length ≤ 40 ∧ ∀ x ∈ l, x.2.2.2.length ≤ 200 := by
  simp only [fewS, Bool.and_eq_true, decide_eq_true_eq, List.all_eq_true] at h
  exact h

theorem fewS_any (l : List Act3) (v : Value) (w : World) (hr : RdActs3 w v l) : Calls Try.prog 8 #[v] w fun e w' => e = .returned (.bool (fewS l)) ∧ w = w' := by
  obtain ⟨A, c, rfl, hlc, hcm⟩ := hr.slice_
  by_cases h40 : l.length ≤ 40
  · go_enter Try.func8, Try.ntmps8
    go_wp2
    go_loop [3] (fun i => ∃ k : Nat, i = .int .i64 k ∧ k ≤ l.length ∧ Hid ((l.take k).all (fun x => decide (x.2.2.2.length ≤ 200)) = true)) (fun i => l.length - (intOf i).toNat)
    case atStart => exact ⟨0, rfl, Nat.zero_le _, Lib.hid rfl⟩
    case round =>
      obtain ⟨k, rfl, hk, HA⟩ := hrel
      by_cases hlt : k < l.length
      · obtain ⟨b, o, rfl, hb, hc⟩ := hr.get (by omega)
        obtain ⟨_, _, _, _, _, _, u, hu, hru⟩ := hc k l[k] (List.getElem?_eq_getElem hlt)
        obtain ⟨A1, c1, rfl, _, _⟩ := hru.sliceN (List.length_map _)
        have hs : l.take (k + 1) = l.take k ++ [l[k]] := List.take_succ_eq_append_getElem hlt
        have hall2 : l[k].2.2.2.length ≤ 200 → (l.take (k + 1)).all (fun x => decide (x.2.2.2.length ≤ 200)) = true := fun h => by
          rw [hs, List.all_append, HA.out]
          simpa using h
        have hno : 200 < l[k].2.2.2.length → fewS l = false := fun h => by
          rw [fewS, Bool.and_eq_false_iff]
          refine .inr ?_
          rw [List.all_eq_false]
          exact ⟨l[k], List.getElem_mem hlt, by simpa using h⟩
        have H2 := Lib.hid hall2
        have HN := Lib.hid hno
        clear hall2 hno hs hc
        generalize l[k].2.2.2.length = m at *
        by_cases hm : m ≤ 200
        · have hmd : decide (200 < m) = false := by simp; omega
          have H3 := Lib.hid (H2.out hm)
          clear H2 HN
          go_wp2
          go_round
          case rel => exact ⟨k + 1, by go_num, by omega, H3⟩
          case measure => simp [intOf]; omega
        · have H3 := Lib.hid (HN.out (by omega))
          have hmd : decide (200 < m) = true := by simp; omega
          clear H2 HN
          go_wp2
          go_ret
          exact ⟨by rw [H3.out]; rfl, rfl⟩
      · obtain rfl : k = l.length := by omega
        have hf : fewS l = true := by
          have := HA.out
          rw [List.take_length] at this
          rw [fewS, this, decide_eq_true h40]
          rfl
        have HF := Lib.hid hf
        clear hf HA
        go_wp2
        go_ret
        exact ⟨by rw [HF.out]; rfl, rfl⟩
  · have hf : fewS l = false := by rw [fewS, decide_eq_false h40]; rfl
    have HF := Lib.hid hf
    have hd : decide (40 < l.length) = true := by simp; omega
    clear hf
    go_enter Try.func8, Try.ntmps8
    go_wp2
    go_ret
    exact ⟨by rw [HF.out]; rfl, rfl⟩

end Go.Proofs.Ytidkdnidafdmpaa
