/- Texts that the proof of JournalActs rests on, one behind the other. -/
import Derived.Test.YtdcmjmanalijfaaJournalActsQ7
import Derived.Deep.RegionHeld3
import Derived.Test.YtdcmjmanalijfaaRows
import Derived.Deep.LoopGhost
import Derived.Outline
import Derived.Deep.RegionWith
import Derived.Lib.SliceRun

/- Package slots: what its calls do. -/
namespace Go.Proofs.Ytdcmjmanalijfaa
open Go.RowKit

theorem SlStart (F : Fp) (h g : Nat) (s : DkS) (f z : Nat) (H : Fp) (p : List UInt8) (v : Value) (age : Int) (w : World) (hd : SD F w h g s f z) (hr : RdF H w v (p.map B)) (_ha : H.apart F) (_hH : H.isIn w) (hz : f + 2 * z ≤ s.1.length) (h1 : 1 ≤ z) (hw : s.2.1.length ≤ 100000000) (hn0 : 0 ≤ s.2.2) (hn1 : s.2.2 ≤ 100000000) (hp : p.length ≤ 1000000) (_a0 : -9223372036854775808 ≤ age) (_a1 : age ≤ 9223372036854775807) :
    Calls Try.prog 75 #[.pointer (some ⟨h, 0, none⟩), v, .int .i64 age] w fun e w' => e = .returned (.int .i64 (stE s f z p age)) ∧ SD (F.since w w') w' h g (stS s f z p age) f z ∧ Chg F w w' := by
  have hx : ∀ (E : Int), stE s f z p age = E → E ≠ 0 → Calls Try.prog 75 #[.pointer (some ⟨h, 0, none⟩), v, .int .i64 age] w (fun e w' => e = .returned (.int .i64 E) ∧ Ext w w') →
      Calls Try.prog 75 #[.pointer (some ⟨h, 0, none⟩), v, .int .i64 age] w fun e w' => e = .returned (.int .i64 (stE s f z p age)) ∧ SD (F.since w w') w' h g (stS s f z p age) f z ∧ Chg F w w' := by
    intro E hE h0 K
    refine K.mono ?_
    rintro e w' ⟨rfl, hx⟩
    rw [stS, hE, if_neg h0]
    exact ⟨rfl, hd.later hx, Chg.of_ext hx⟩
  by_cases hn : 0 ≤ age ∧ age < 9007199254740992
  · obtain ⟨n, rfl⟩ : ∃ n : Nat, age = n := ⟨age.toNat, by omega⟩
    by_cases ho : (n : Int) ≤ ageI (loadD s f z)
    · refine hx 6 ?_ (by decide) (SlStart_old F h g s f z v n w hd hz h1 (by omega) (by omega) ho)
      rw [stE, if_neg (fun h => h hn), if_pos ((load_old s f z n).1 ho)]
    · by_cases hf : frameB (payB n p) = [] ∨ z < (frameB (payB n p)).length
      · refine hx 3 ?_ (by decide) (SlStart_full F h g s f z p v n w hd hr.rd hz h1 (by omega) hp (by omega) ho hf)
        rw [stE, if_neg (fun h => h hn), if_neg (fun h => ho ((load_old s f z n).2 h)), frP, Int.toNat_natCast, if_pos hf]
      · have hE : stE s f z p n = 0 := by rw [stE, if_neg (fun h => h hn), if_neg (fun h => ho ((load_old s f z n).2 h)), frP, Int.toNat_natCast, if_neg hf]
        rw [stS, hE, if_pos rfl]
        exact SlStart_yes F h g s f z p v n w hd hr.rd hz h1 hw hn0 hn1 hp (by omega) ho hf
  · refine hx 1 ?_ (by decide) (SlStart_num _ v age w hn)
    rw [stE, if_pos hn]

theorem stE_le (s : DkS) (f z : Nat) (p : List UInt8) (age : Int) : 0 ≤ stE s f z p age ∧ stE s f z p age ≤ 6 := by
  unfold stE
  split
  · omega
  · split
    · omega
    · split <;> omega

set_option maxRecDepth 100000 in
theorem SlSave (F : Fp) (h g : Nat) (s : DkS) (f z : Nat) (H : Fp) (p : List UInt8) (v : Value) (age : Int) (w : World) (hd : SD F w h g s f z) (hr : RdF H w v (p.map B)) (ha : H.apart F) (hH : H.isIn w) (hz : f + 2 * z ≤ s.1.length) (h1 : 1 ≤ z) (hw : s.2.1.length ≤ 100000000) (hn0 : 0 ≤ s.2.2) (hn1 : s.2.2 ≤ 100000000) (hp : p.length ≤ 1000000) (a0 : -9223372036854775808 ≤ age) (a1 : age ≤ 9223372036854775807) :
    Calls Try.prog 44 #[.pointer (some ⟨h, 0, none⟩), v, .int .i64 age] w fun e w' => e = .returned (.int .i64 (stE s f z p age)) ∧ SD (F.since w w') w' h g (svS s f z p age) f z ∧ Chg F w w' := by
  have HK := Lib.hid (SlStart F h g s f z H p v age w hd hr ha hH hz h1 hw hn0 hn1 hp a0 a1)
  have HI := Lib.hid hd.isIn
  by_cases he : stE s f z p age = 0
  · have hS : svS s f z p age = syD (stS s f z p age) := by rw [svS, if_pos he, stS, if_pos he]
    have hy := stE_yes he
    have hwt : (stS s f z p age).2.1.length ≤ 1000000000 := by
      rw [stS, if_pos he]
      have := stD_waits s f z p age
      have := hd.lens
      omega
    have hnn : (stS s f z p age).2.2 = s.2.2 + 1 := by rw [stS, if_pos he, stD_n]
    have HS := Lib.hid (And.intro hS (And.intro hwt hnn))
    rw [he] at HK ⊢
    clear hd hr ha hH hz h1 hw hp a0 a1 he hS hy hwt hnn
    go_enter Try.func44, Try.ntmps44
    go_wp2_with fail
    refine HK.out.mono ?_
    rintro e w1 ⟨rfl, hd1, hc1⟩
    have c0 := hd1.sl.c0
    have HD1 := Lib.hid hd1
    have HC1 := Lib.hid hc1
    clear hd1 hc1 HK
    go_wp2_with fail
    refine (SD.turn HD1.out (fun F1 hd1 => DkSync F1 g _ w1 hd1 HS.out.2.1 (by rw [HS.out.2.2]; omega) (by rw [HS.out.2.2]; omega))).mono ?_
    rintro e w2 ⟨rfl, hd2, hc2⟩
    have HD2 := Lib.hid hd2
    have HC2 := Lib.hid hc2
    clear hd2 hc2
    go_wp2
    go_ret
    have t1 := HC1.out.size
    have t2 := HC2.out.size
    refine ⟨rfl, ?_, HC1.out.step HC2.out⟩
    rw [HS.out.1]
    exact HD2.out.mono (Fp.since_since t1 t2) (HI.out.since (by omega))
  · have hS : svS s f z p age = stS s f z p age := by rw [svS, if_neg he, stS, if_neg he]
    have hE : (stE s f z p age == 0) = false := by rw [beq_eq_false_iff_ne]; exact he
    have HS := Lib.hid hS
    clear hd hr ha hH hz h1 hw hp a0 a1 he hS hn0 hn1
    generalize stE s f z p age = E at *
    go_enter Try.func44, Try.ntmps44
    go_wp2_with fail
    refine HK.out.mono ?_
    rintro e w1 ⟨rfl, hd1, hc1⟩
    have HD1 := Lib.hid hd1
    have HC1 := Lib.hid hc1
    clear hd1 hc1 HK
    go_wp2
    go_ret
    rw [HS.out]
    exact ⟨rfl, HD1.out, HC1.out⟩

set_option maxRecDepth 100000 in
theorem SlSave_nil (p : List UInt8) (v : Value) (age : Int) (w : World) (hr : Rd w v (p.map B)) (a0 : -9223372036854775808 ≤ age) (a1 : age ≤ 9223372036854775807) : Calls Try.prog 44 #[.pointer none, v, .int .i64 age] w fun e w' => e = .returned (.int .i64 1) ∧ Ext w w' := by
  have HK := Lib.hid (SlStart_nil p v age w hr a0 a1)
  clear hr a0 a1
  go_enter Try.func44, Try.ntmps44
  go_wp2_with fail
  refine HK.out.mono ?_
  rintro e w1 ⟨rfl, hx1⟩
  go_wp2
  go_ret
  exact ⟨rfl, hx1⟩

end Go.Proofs.Ytdcmjmanalijfaa

/- Package log: a log's struct, and its piece of the disk. -/
namespace Go.Proofs.Ytdcmjmanalijfaa
open Go.RowKit

/-- The log at h, on the disk at g: its place, its size, where its records end, where the last one of them begins that may wait. -/
def LgO (G : Fp) (w : World) (h g f z u l : Nat) : Prop :=
  ObjF G w h 103 #[.pointer (some ⟨g, 0, none⟩), .int .i64 (f : Int), .int .i64 (z : Int), .int .i64 (u : Int), .int .i64 (l : Int)] []
/-- One of which nothing waits. -/
def Lg (G : Fp) (w : World) (h g f z u : Nat) : Prop := LgO G w h g f z u u

section
variable {F G : Fp} {w w' : World} {h g f z u l : Nat}
theorem LgO.isIn (hl : LgO G w h g f z u l) : G.isIn w := ObjF.isIn hl
theorem LgO.chg (hl : LgO G w h g f z u l) (hc : Chg F w w') (ha : G.apart F) : LgO G w' h g f z u l := ObjF.chg hl hc ha
theorem LgO.mono (hl : LgO G w h g f z u l) (hf : ∀ k, G k → F k) (hi : F.isIn w) : LgO F w h g f z u l := ObjF.mono hl hf hi
theorem LgO.ext (hl : LgO G w h g f z u l) (hx : Ext w w') : LgO G w' h g f z u l := ObjF.ext hl hx
theorem LgO.c0 (hl : LgO G w h g f z u l) : w.cell? ⟨h, 0, none⟩ = some (.pointer (some ⟨g, 0, none⟩)) := (ObjF.blk hl).cell 0
theorem LgO.c1 (hl : LgO G w h g f z u l) : w.cell? ⟨h, 1, none⟩ = some (.int .i64 (f : Int)) := (ObjF.blk hl).cell 1
theorem LgO.c2 (hl : LgO G w h g f z u l) : w.cell? ⟨h, 2, none⟩ = some (.int .i64 (z : Int)) := (ObjF.blk hl).cell 2
theorem LgO.c3 (hl : LgO G w h g f z u l) : w.cell? ⟨h, 3, none⟩ = some (.int .i64 (u : Int)) := (ObjF.blk hl).cell 3
theorem LgO.c4 (hl : LgO G w h g f z u l) : w.cell? ⟨h, 4, none⟩ = some (.int .i64 (l : Int)) := (ObjF.blk hl).cell 4
theorem LgO.fr (hl : LgO G w h g f z u l) (i : Nat) : w.frozen? ⟨h, i, none⟩ = false := (ObjF.blk hl).frozen i
theorem LgO.lt (hl : LgO G w h g f z u l) : h < w.heap.size := (ObjF.blk hl).lt
/-- Its two last fields are written. -/
theorem LgO.set (hl : LgO G w h g f z u l) (u' l' : Nat) : LgO G ((w.setCell ⟨h, 3, none⟩ (.int .i64 (u' : Int))).setCell ⟨h, 4, none⟩ (.int .i64 (l' : Int))) h g f z u' l' ∧
    Chg G w ((w.setCell ⟨h, 3, none⟩ (.int .i64 (u' : Int))).setCell ⟨h, 4, none⟩ (.int .i64 (l' : Int))) := by
  obtain ⟨h1, h2⟩ := ObjF.setCell hl 3 (.int .i64 (u' : Int))
  obtain ⟨h3, h4⟩ := ObjF.setCell h1 4 (.int .i64 (l' : Int))
  exact ⟨h3, h2.trans h4 (fun _ _ h => h)⟩
theorem Lg.isIn (hl : Lg G w h g f z u) : G.isIn w := LgO.isIn hl
theorem Lg.chg (hl : Lg G w h g f z u) (hc : Chg F w w') (ha : G.apart F) : Lg G w' h g f z u := LgO.chg hl hc ha
theorem Lg.mono (hl : Lg G w h g f z u) (hf : ∀ k, G k → F k) (hi : F.isIn w) : Lg F w h g f z u := LgO.mono hl hf hi
end

/-- What piece answers: a part of bytes that it made. -/
def PieceP (s : DkS) (f z : Nat) (w : World) (e : Ending) (w' : World) : Prop :=
  ∃ b c, e = .returned (.slice (some ⟨b, f, none⟩) z (c - f)) ∧ Grew w.heap.size 5 (.slice none 0 0) w ((rdD s).map B) (.slice (some ⟨b, 0, none⟩) s.1.length c) w' ∧ f + z ≤ c

set_option maxRecDepth 100000 in
theorem LgPiece (F G : Fp) (h g : Nat) (s : DkS) (f z u l : Nat) (w : World) (hd : Dk F w g s) (hl : LgO G w h g f z u l) (hz : f + z ≤ s.1.length) (h1 : 1 ≤ z) (hw : s.2.1.length ≤ 1000000000) :
    Calls Try.prog 57 #[.pointer (some ⟨h, 0, none⟩)] w (PieceP s f z w) := by
  have hb := hd.lens
  have hl1 := hl.ext (Ext.dr (Ext.refl w))
  have KB := DkBytes F g s w.drew (hd.ext (Ext.dr (Ext.refl w))) hw
  have c0 := hl1.c0
  have c1 := hl1.c1
  have c2 := hl1.c2
  have hrl : ((rdD s).map B).length = s.1.length := by rw [List.length_map, rdD_len]
  obtain ⟨y, hy⟩ : ∃ y : Nat, y = f + z := ⟨_, rfl⟩
  have w1 : IntKind.i64.wrap ((f : Int) + (z : Int)) = (y : Int) := by rw [IntKind.wrap_i64]; omega
  have w2 : y - f = z := by omega
  have q4 : f ≤ y := by omega
  have KB' := Lib.hid KB
  have HL := Lib.hid hl1
  have HR := Lib.hid hrl
  have HY := Lib.hid hy
  have HN : Hid (y ≤ s.1.length ∧ f < y) := Lib.hid ⟨by omega, by omega⟩
  obtain ⟨hb1, hb2, -⟩ := hb
  clear KB hl1 hrl hd hl hy hz
  go_enter Try.func57, Try.ntmps57
  go_wp2
  go_region_held3 (fun w' => w'.cell? ⟨h, 0, none⟩ = some (.pointer (some ⟨g, 0, none⟩)) ∧ w'.cell? ⟨h, 1, none⟩ = some (.int .i64 (f : Int)) ∧ w'.cell? ⟨h, 2, none⟩ = some (.int .i64 (z : Int))) (first | go_keep | (exact ⟨d0, d1, d2⟩)) (first | (go_at_call 25; (with_reducible refine KB'.out.mono ?_); rintro e w3 ⟨v2, rfl, hg2⟩; have hl2 := HL.out.ext hg2.ext; have d0 := hl2.c0; have d1 := hl2.c1; have d2 := hl2.c2; obtain ⟨b, c, rfl, q1, q2, q3⟩ := hg2.form (by rw [HR.out]; omega); have q5 : (y : Int) ≤ (c : Int) := (by have := HN.out; rw [HR.out] at q1; omega); have q6 : ¬ c = f := (by have := HN.out; rw [HR.out] at q1; omega)))
  all_goals
    go_wp2
    go_ret
    have h3 := HN.out
    have h4 := HY.out
    rw [HR.out] at hg2
    exact ⟨b, c, rfl, Grew.from_ext (Ext.dr (Ext.refl w)) hg2, by omega⟩

theorem PieceP.rd {s : DkS} {f z b c : Nat} {w w' : World} (hg : Grew w.heap.size 5 (.slice none 0 0) w ((rdD s).map B) (.slice (some ⟨b, 0, none⟩) s.1.length c) w') (h1 : 1 ≤ z) (hz : f + z ≤ s.1.length) (hc : f + z ≤ c) :
    Rd w' (.slice (some ⟨b, f, none⟩) z (c - f)) ((pieceB (rdD s) f z).map B) := by
  have hr := (Rd.own hg.own).cut f z (by rw [List.length_map, rdD_len]; exact hz)
  rw [if_neg (by omega)] at hr
  rw [pieceB, List.map_take, List.map_drop]
  simpa [Addr.add_lit] using hr

end Go.Proofs.Ytdcmjmanalijfaa

/- Layer 5: a disk and a log on it. -/
namespace Go.Proofs.Ytdcmjmanalijfaa
open Go.RowKit

/-- How many bytes the records' frames have behind a Put. -/
def putU (z u : Nat) (p : List UInt8) : Nat := if putE z u p = 0 then u + (frameB p).length else u
/-- The disk behind a Put. -/
def putS (s : DkS) (f z u : Nat) (p : List UInt8) : DkS := if putE z u p = 0 then ptD s f u p else s
/-- The disk behind an Append. -/
def appS (s : DkS) (f z u : Nat) (p : List UInt8) : DkS := if putE z u p = 0 then syD (ptD s f u p) else s

theorem putU_le {z u : Nat} {p : List UInt8} (h : u ≤ z) : putU z u p ≤ z := by
  unfold putU
  split
  · rename_i he
    have := putE_yes he
    omega
  · exact h
theorem putS_len (s : DkS) (f z u : Nat) (p : List UInt8) : (putS s f z u p).1.length = s.1.length := by
  unfold putS
  split
  · exact ptD_len _ _ _ _
  · rfl
theorem appS_len (s : DkS) (f z u : Nat) (p : List UInt8) : (appS s f z u p).1.length = s.1.length := by
  unfold appS
  split
  · rw [syD_len, ptD_len]
  · rfl
theorem putS_n (s : DkS) (f z u : Nat) (p : List UInt8) : (putS s f z u p).2.2 = s.2.2 := by
  unfold putS
  split
  · exact ptD_n _ _ _ _
  · rfl
theorem appS_n (s : DkS) (f z u : Nat) (p : List UInt8) : s.2.2 ≤ (appS s f z u p).2.2 ∧ (appS s f z u p).2.2 ≤ s.2.2 + 1 := by
  unfold appS
  split
  · simp only [syD, ptD_n]
    omega
  · omega
theorem frameB_max (p : List UInt8) : (frameB p).length ≤ p.length + 13 := by
  by_cases hp : okP p
  · have := frameB_len hp
    have := numB_len8 (n := p.length) (by omega)
    omega
  · rw [frameB_no hp]
    simp
theorem putS_waits (s : DkS) (f z u : Nat) (p : List UInt8) : (putS s f z u p).2.1.length ≤ s.2.1.length + (p.length + 13) := by
  have := frameB_max p
  unfold putS
  split
  · have := ptD_waits s f u p
    omega
  · omega
theorem appS_waits (s : DkS) (f z u : Nat) (p : List UInt8) : (appS s f z u p).2.1.length ≤ s.2.1.length := by
  unfold appS
  split
  · simp [syD]
  · omega

/-- While any record waits, what stands at the last one's place ends where the records do. -/
def LastD (s : DkS) (f z u l : Nat) : Prop := l = u ∨ (s.2.1 ≠ [] ∧ (getF (pieceB (rdD s) f z) (l : Int)).2.1 = (u : Int) ∧ f + z ≤ s.1.length ∧ u ≤ z ∧ s.2.1.length ≤ 1000000000)
/-- What Used answers. -/
def usedD (s : DkS) (f z u l : Nat) : Nat := if l = u then u else if (getF (pieceB (rdD s) f z) (l : Int)).2.1 = (u : Int) then u else endD s f z

theorem LastD.used {s : DkS} {f z u l : Nat} (h : LastD s f z u l) : usedD s f z u l = u := by
  unfold usedD
  split
  · rfl
  · rename_i hn
    rcases h with h | h
    · exact absurd h hn
    · rw [if_pos h.2.1]
theorem LastD.synced {s : DkS} {f z u l : Nat} (h : LastD s f z u l) (hs : s.2.1 = []) : l = u := by
  rcases h with h | h
  · exact h
  · exact absurd hs h.1
theorem LastD.put {s : DkS} {f z u : Nat} {p : List UInt8} (hz : f + z ≤ s.1.length) (hu : u ≤ z) (hp : putE z u p = 0) (hw : s.2.1.length ≤ 10000000) : LastD (ptD s f u p) f z (u + (frameB p).length) u := by
  obtain ⟨h1, h2⟩ := putE_yes hp
  have hl := frameB_len h1
  have h8 := frameB_max p
  have he : wrE s.1.length ((f + u : Nat) : Int) (frameB p).length = 0 := wrE_yes (by omega)
  have hr : rdD (ptD s f u p) = putAt (rdD s) (f + u) (frameB p) := rdD_wr (by omega)
  have hb : f + z ≤ (rdD s).length := by rw [rdD_len]; exact hz
  refine .inr ⟨?_, ?_, by rw [ptD_len]; exact hz, by omega, ?_⟩
  · rw [ptD, wrD, if_pos he]
    intro h0
    have := congrArg List.length h0
    rw [List.length_append, spanB_len] at this
    simp only [List.length_nil] at this
    omega
  · have ht : ((pieceB (rdD s) f z).take u).length = u := by rw [List.length_take, pieceB_len hb]; omega
    have hg := getF_put h1 ((pieceB (rdD s) f z).take u) ((pieceB (rdD s) f z).drop (u + (frameB p).length))
    rw [ht] at hg
    rw [hr, pieceB_put hb (by omega), hg]
    simp
  · have := ptD_waits s f u p
    omega

/-- The disk at g, and the log at h on it. -/
def LD (F : Fp) (w : World) (h g : Nat) (s : DkS) (f z u : Nat) : Prop :=
  ∃ (F1 F2 : Fp) (l : Nat), Dk F1 w g s ∧ LgO F2 w h g f z u l ∧ F2.apart F1 ∧ (∀ k, F1 k → F k) ∧ (∀ k, F2 k → F k) ∧ F.isIn w ∧ LastD s f z u l ∧ 1 ≤ z

section
variable {F G : Fp} {w w' : World} {h g f z u : Nat} {s : DkS}
theorem LD.isIn (hd : LD F w h g s f z u) : F.isIn w := by
  obtain ⟨F1, F2, l, h1, h2, h3, h4, h5, h6, h7⟩ := hd
  exact h6
theorem LD.dk (hd : LD F w h g s f z u) : Dk F w g s := by
  obtain ⟨F1, F2, l, h1, h2, h3, h4, h5, h6, h7⟩ := hd
  exact h1.mono h4 h6
/-- Nothing waits: the disk and the log, apart. -/
theorem LD.parts (hd : LD F w h g s f z u) (hs : s.2.1 = []) : ∃ F1 F2 : Fp, Dk F1 w g s ∧ Lg F2 w h g f z u ∧ F2.apart F1 ∧ (∀ k, F1 k → F k) ∧ (∀ k, F2 k → F k) ∧ F.isIn w := by
  obtain ⟨F1, F2, l, h1, h2, h3, h4, h5, h6, h7, h8⟩ := hd
  obtain rfl := h7.synced hs
  exact ⟨F1, F2, h1, h2, h3, h4, h5, h6⟩
theorem LD.chg (hd : LD F w h g s f z u) (hc : Chg G w w') (ha : F.apart G) : LD F w' h g s f z u := by
  obtain ⟨F1, F2, l, h1, h2, h3, h4, h5, h6, h7⟩ := hd
  exact ⟨F1, F2, l, h1.chg hc (fun k hk => ha k (h4 k hk)), h2.chg hc (fun k hk => ha k (h5 k hk)), h3, h4, h5, h6.chg hc, h7⟩
theorem LD.ext (hd : LD F w h g s f z u) (hx : Ext w w') : LD F w' h g s f z u := hd.chg (G := fun _ => False) (Chg.of_ext hx) (fun _ _ h => h)
theorem LD.mono (hd : LD F w h g s f z u) (hf : ∀ k, F k → G k) (hi : G.isIn w) : LD G w h g s f z u := by
  obtain ⟨F1, F2, l, h1, h2, h3, h4, h5, h6, h7⟩ := hd
  exact ⟨F1, F2, l, h1, h2, h3, fun k hk => hf k (h4 k hk), fun k hk => hf k (h5 k hk), hi, h7⟩
theorem LD.lens (hd : LD F w h g s f z u) : 1 ≤ s.1.length ∧ s.1.length ≤ 65536 := by
  have := hd.dk.lens
  exact ⟨this.1, this.2.1⟩
end

end Go.Proofs.Ytdcmjmanalijfaa

/- Slices of slices of bytes in this translation's numbers: what one element takes; the law at an append. -/
namespace Go.Proofs.Ytdcmjmanalijfaa
open Go.RowKit

theorem Try.infoRow : (Try.prog.info? 30).map (fun i => (i.zero, i.size, i.bytes)) = some (some (.slice none 0 0), 1, 24) := by kernel_rfl

/-- 'l = append(l, p)', l a row of slices of the call's own, p what lies elsewhere. -/
theorem push_row {lo : Nat} {w0 w : World} {ops : Array Oper} {rest : List Oper} {o : Oper} {a : Act} {Q : Exit → Act → World → Prop} {gx : Nat} (hgd : o.guard = none) (s x : Operand)
    (ho : o.op = .call { callee := .builtin .append, args := #[s, x], argTypes := #[31, 31] })
    (v : Value) (ls : List (List UInt8)) (hown : OwnL lo w0 30 v w ls) (A : Option Addr) (n c : Nat) (l : List UInt8) (hu : RdN w (Off lo v) (.slice A n c) (l.map B)) (hs : a.eval s = v)
    (hx : a.eval x = .slice (some ⟨gx, 0, none⟩) 1 1) (hlen : ls.length < 1000000000000)
    (h : ∀ v' w', OwnL lo w0 30 v' w' (ls ++ [l]) → wpList Try.prog ops Q rest (a.put o.dst v') w') (hgx : gx = w.heap.size := by simp) : wpList Try.prog ops Q (o :: rest) a (w.alloc (.cells #[.slice A n c] 30)) := by
  subst hgx
  obtain ⟨vs, hg, hl⟩ := hown.vs
  exact wpList_push hgd s x 31 ho w0.heap.size 30 (.slice none 0 0) 24 Try.underlying31 Try.infoRow rfl v vs hs hg.own _ rfl hx (by unfold maxLen; omega) (by omega) (hg.size)
    (fun v' w' hg' => h v' w' (hown.snoc hu hg hg'))

end Go.Proofs.Ytdcmjmanalijfaa

/- Layer 3, the reference: all payloads from a place on. -/
namespace Go.Proofs.Ytdcmjmanalijfaa
open Go.RowKit

/-- What All answers. -/
def AllPost (bs : List UInt8) (i : Int) (w : World) (e : Ending) (w' : World) : Prop :=
  ∃ v', e = .returned (.tuple #[v', .int .i64 (allB bs i).2]) ∧ OwnL w.heap.size w 30 v' w' (allB bs i).1

/-- How far it has come: the lists so far, the place, and what stood ahead of that. -/
def AllSt (bs : List UInt8) (i : Int) (ls : List (List UInt8)) (a t : Int) : Prop :=
  ls.length ≤ bs.length ∧ i ≤ a ∧ (a ≤ i ∨ a ≤ bs.length) ∧ ((t = 1 ∧ (ls.length : Int) ≤ a - i ∧ allB bs i = (ls ++ (allB bs a).1, (allB bs a).2)) ∨ (t ≠ 1 ∧ allB bs i = (ls, a)))

theorem AllSt.first (bs : List UInt8) (i : Int) : AllSt bs i [] i 1 := ⟨Nat.zero_le _, Int.le_refl _, .inl (Int.le_refl _), .inl ⟨rfl, by simp, by simp⟩⟩
theorem AllSt.on {bs : List UInt8} {i a : Int} {ls : List (List UInt8)} (h : AllSt bs i ls a 1) (hw : (getF bs a).2.2 = 1) : AllSt bs i (ls ++ [(getF bs a).1]) (getF bs a).2.1 1 := by
  have ho := getF_on hw
  obtain ⟨h1, h2, h3, h4⟩ := h
  rcases h4 with ⟨_, h5, h6⟩ | ⟨h5, _⟩
  · by_cases hi : 0 ≤ i
    · refine ⟨by rw [List.length_append, List.length_singleton]; omega, by omega, .inr (by omega), .inl ⟨rfl, by rw [List.length_append, List.length_singleton]; omega, ?_⟩⟩
      rw [h6, allB_step bs a, if_pos hw]
      simp
    · -- a place below 0 holds none
      exfalso
      have : allB bs i = ([], i) := by rw [allB_step, if_neg]; intro hw2; have := getF_on hw2; omega
      rw [this] at h6
      have e1 := congrArg Prod.snd h6
      have := (allB_end bs a).2.1
      simp only at e1
      omega
  · exact absurd rfl h5
theorem AllSt.off {bs : List UInt8} {i a t : Int} {ls : List (List UInt8)} (h : AllSt bs i ls a 1) (ht : (getF bs a).2.2 = t) (hw : t ≠ 1) : AllSt bs i ls a t := by
  obtain ⟨h1, h2, h3, h4⟩ := h
  rcases h4 with ⟨_, h5, h6⟩ | ⟨h5, _⟩
  · refine ⟨h1, h2, h3, .inr ⟨hw, ?_⟩⟩
    rw [h6, allB_step bs a, if_neg (by rw [ht]; exact hw)]
    simp
  · exact absurd rfl h5
theorem AllSt.end_ {bs : List UInt8} {i a t : Int} {ls : List (List UInt8)} (h : AllSt bs i ls a t) (ht : t ≠ 1) : allB bs i = (ls, a) := by
  obtain ⟨_, _, _, h4⟩ := h
  rcases h4 with ⟨h5, _⟩ | ⟨_, h6⟩
  · exact absurd h5 ht
  · exact h6

def AllLoop (bs : List UInt8) (i : Int) (w : World) (u v t : Value) (wr : World) : Prop :=
  ∃ (a x : Int) (ls : List (List UInt8)), u = .int .i64 a ∧ t = .int .i64 x ∧ AllSt bs i ls a x ∧ OwnL w.heap.size w 30 v wr ls

set_option maxHeartbeats 1000000 in
theorem RefFrameAll_any (bs : List UInt8) (v : Value) (i : Int) (w : World) (hr : Rd w v (bs.map B)) (hlen : bs.length < 1000000000000) : Calls Try.prog 64 #[v, .int .i64 i] w (AllPost bs i w) := by
  obtain ⟨A, c, rfl, hlc, hcm⟩ := hr.sliceN (List.length_map _)
  unfold maxLen at hcm
  go_enter Try.func64, Try.ntmps64
  go_wp2
  go_loopw [1, 6, 7] (fun u v t wr => AllLoop bs i w u v t wr) (fun u _ t _ => if intOf t = 1 then ((bs.length : Int) + 1 - intOf u).toNat + 1 else 0)
  case atStart => exact ⟨i, 1, [], rfl, rfl, AllSt.first bs i, OwnL.nil _ w _⟩
  case round =>
    obtain ⟨a, x, ls, rfl, rfl, hst, hown⟩ := hrel
    by_cases hx : x = 1
    · subst hx
      have HS := Lib.hid hst
      clear hst
      go_wp2_with fail
      refine (RefFrameGet_any bs _ a _ (hr.ext hown.ext)).mono ?_
      rintro e w1 ⟨v1, rfl, hg1⟩
      have hl1 : (getF bs a).1.length = (getF bs a).1.length := rfl
      obtain ⟨A1, c1, rfl⟩ := hg1.slice_ (List.length_map _)
      by_cases hw : (getF bs a).2.2 = 1
      · have hon := HS.out.on hw
        have hgo := getF_on hw
        have hls := hon.1
        rw [List.length_append, List.length_singleton] at hls
        have HO := Lib.hid hon
        have hu := RdN.fresh hg1 hown.ext.size hown.block
        have hown1 := hown.step hg1.ext
        rw [hw]
        clear hon hw HS hown hg1 hl1
        generalize (getF bs a).2.1 = a' at *
        generalize (getF bs a).1 = q at *
        go_wp2_with (at_builtin; refine push_row rfl _ _ rfl _ ls hown1 A1 q.length c1 q hu rfl rfl (by omega) ?_; intro v2 w2 hown2)
        go_roundw
        case rel => exact ⟨a', 1, ls ++ [q], rfl, rfl, HO.out, hown2⟩
        case measure => simp [intOf]; omega
      · have hoff := HS.out.off rfl hw
        have HO := Lib.hid hoff
        have hne : ((getF bs a).2.2 == 1) = false := by rw [beq_eq_false_iff_ne]; exact hw
        have hown1 := hown.step hg1.ext
        clear hoff HS hown hg1 hl1
        generalize (getF bs a).2.2 = t' at *
        generalize (getF bs a).2.1 = a' at *
        generalize (getF bs a).1 = q at *
        go_wp2
        go_roundw
        case rel => exact ⟨a, t', ls, rfl, rfl, HO.out, hown1⟩
        case measure => simp [intOf, hw]
    · have hend := hst.end_ hx
      have HE := Lib.hid hend
      have hne : (x == 1) = false := by rw [beq_eq_false_iff_ne]; exact hx
      clear hend hst hx
      go_wp2
      go_ret2
      rw [AllPost, HE.out]
      exact ⟨_, rfl, hown⟩

end Go.Proofs.Ytdcmjmanalijfaa

/- Layer 3: what All of package frame answers. -/
namespace Go.Proofs.Ytdcmjmanalijfaa
open Go.RowKit

def AllRd (bs : List UInt8) (i : Int) (w : World) (e : Ending) (w' : World) : Prop :=
  ∃ v', e = .returned (.tuple #[v', .int .i64 (allB bs i).2]) ∧ RdL w' v' (allB bs i).1 ∧ Ext w w'

/-- The same, and where it lies: in new memory. -/
def AllRdF (bs : List UInt8) (i : Int) (w : World) (e : Ending) (w' : World) : Prop :=
  ∃ v', e = .returned (.tuple #[v', .int .i64 (allB bs i).2]) ∧ RdLF (fun k => w.heap.size ≤ k ∧ k < w'.heap.size) w' v' (allB bs i).1 ∧ Ext w w'

theorem AllRd.of_post {bs : List UInt8} {i : Int} {w w' : World} {e : Ending} (h : AllPost bs i w e w') : AllRd bs i w e w' := by
  obtain ⟨v', he, hg⟩ := h
  exact ⟨v', he, hg.rdl, hg.ext⟩

end Go.Proofs.Ytdcmjmanalijfaa

/- Layer 3, package frame: the contracts of its calls. -/
namespace Go.Proofs.Ytdcmjmanalijfaa
open Go.RowKit

theorem OwnL.base {lo : Nat} {w0 w : World} {e : TypeId} {v : Value} {ls : List (List UInt8)} (h : OwnL lo w0 e v w ls) : ∀ k, v.ownBlock = some k → w0.heap.size ≤ k := by
  obtain ⟨vs, h1, _⟩ := h
  intro k hk
  rcases h1.1.2 with ⟨rfl, _⟩ | ⟨g, cap, cur, rfl, hg, _⟩
  · cases hk
  · cases hk
    exact hg
theorem RdN.apart {lo : Nat} {w0 w : World} {v u : Value} {xs : List Value} (h : RdN w0 (Off lo (.slice none 0 0)) v xs) (hx : Ext w0 w) (hu : ∀ k, u.ownBlock = some k → w0.heap.size ≤ k) : RdN w (Off lo u) v xs := by
  obtain ⟨A, c, e, h1, h2, h3⟩ := h
  refine ⟨A, c, e, h1, h2, fun hn => ?_⟩
  obtain ⟨b, o, a, hb, hl, hc⟩ := h3 hn
  refine ⟨b, o, a, Nat.lt_of_lt_of_le hb hx.size, ⟨hl.1, fun he => ?_⟩, fun j u hu => (hx.cell (p := ⟨b, o + j, none⟩) hb).trans (hc j u hu)⟩
  have := hu b he.symm
  omega

def AllHead (lo : Nat) (bs : List UInt8) (i : Int) (w : World) (u v : Value) (wr : World) : Prop :=
  ∃ (a : Int) (ls : List (List UInt8)), u = .int .i64 a ∧ AllSt bs i ls a 1 ∧ OwnL lo w 30 v wr ls

set_option maxHeartbeats 1000000 in
theorem FrameAll_rdF (bs : List UInt8) (v : Value) (i : Int) (w : World) (hr : Rd w v (bs.map B)) (hlen : bs.length < 1000000000000) : Calls Try.prog 56 #[v, .int .i64 i] w (AllRdF bs i w) := by
  have HR := Lib.hid hr
  clear hr
  go_enter Try.func56, Try.ntmps56
  go_wp2_with fail
  refine (Clone_any bs _ _ HR.out (by omega)).mono ?_
  rintro e w0 ⟨v0, rfl, hg0⟩
  have hx0 := hg0.ext
  have hr0 := RdN.fresh (lo := w.heap.size) (r := .slice none 0 0) hg0 (Nat.le_refl _) (fun k hk => by cases hk)
  have HR0 := Lib.hid hr0
  clear hg0 hr0
  go_wp2
  go_loopw [1, 6, 8, 9, 10] (fun u v x y z wr => AllHead w.heap.size bs i w0 u v wr) (fun u _ _ _ _ _ => ((bs.length : Int) + 1 - intOf u).toNat)
  case atStart => exact ⟨i, [], rfl, AllSt.first bs i, OwnL.nil _ w0 _⟩
  case round =>
    obtain ⟨a, ls, rfl, hst, hown⟩ := hrel
    have HS := Lib.hid hst
    have hn := RdN.apart HR0.out hown.ext hown.base
    clear hst
    go_wp2_with fail
    refine (cut_any bs _ a _ hn).mono ?_
    rintro e w1 ⟨v1, rfl, hr1, hx1⟩
    obtain ⟨A1, c1, rfl, _, _⟩ := hr1.rd.sliceN (List.length_map _)
    have hown1 := hown.step hx1
    by_cases hw : (getF bs a).2.2 = 1
    · have hon := HS.out.on hw
      have hgo := getF_on hw
      have hls := hon.1
      rw [List.length_append, List.length_singleton] at hls
      have HO := Lib.hid hon
      rw [hw]
      clear hon hw HS hown hx1 hn
      generalize (getF bs a).2.1 = a' at *
      generalize (getF bs a).1 = q at *
      go_wp2_with (at_builtin; refine push_row rfl _ _ rfl _ ls hown1 A1 q.length c1 q hr1 rfl rfl (by omega) ?_; intro v2 w2 hown2)
      go_roundw
      case rel => exact ⟨a', ls ++ [q], rfl, HO.out, hown2⟩
      case measure => simp [intOf]; omega
    · have hend := (HS.out.off rfl hw).end_ hw
      have HE := Lib.hid hend
      have hne : ((getF bs a).2.2 != 1) = true := by rw [bne_iff_ne]; exact hw
      have hne2 : ((getF bs a).2.2 == 1) = false := by rw [beq_eq_false_iff_ne]; exact hw
      clear hend HS hown hw hn hr1
      generalize (getF bs a).2.2 = t' at *
      generalize (getF bs a).2.1 = a' at *
      generalize (getF bs a).1 = q at *
      go_wp2
      go_ret2
      rw [AllRdF, HE.out]
      exact ⟨_, rfl, hown1.rdlF hx0.size, hx0.trans hown1.ext⟩

theorem FrameAll_rd (bs : List UInt8) (v : Value) (i : Int) (w : World) (hr : Rd w v (bs.map B)) (hlen : bs.length < 1000000000000) : Calls Try.prog 56 #[v, .int .i64 i] w (AllRd bs i w) :=
  (FrameAll_rdF bs v i w hr hlen).mono fun _ _ ⟨v', he, hr, hx⟩ => ⟨v', he, hr.rdl, hx⟩

end Go.Proofs.Ytdcmjmanalijfaa

/- Package log: Used, wrong, Room. -/
namespace Go.Proofs.Ytdcmjmanalijfaa
open Go.RowKit

set_option maxRecDepth 100000 in
theorem LgUsed (G : Fp) (h g f z u : Nat) (w : World) (hl : Lg G w h g f z u) (_hu : u ≤ 65536) :
    Calls Try.prog 69 #[.pointer (some ⟨h, 0, none⟩)] w fun e w' => e = .returned (.int .i64 (u : Int)) ∧ Ext w w' := by
  have c3 := LgO.c3 hl
  have c4 := LgO.c4 hl
  have hb : ((u : Int) == (u : Int)) = true := by simp
  clear hl
  go_enter Try.func69, Try.ntmps69
  go_wp2
  go_quiet (fail)
  go_wp2
  go_ret
  exact ⟨rfl, Below.drewN' (Ext.refl w) _⟩

set_option maxRecDepth 100000 in
set_option maxHeartbeats 400000 in
theorem LgUsed_far (F G : Fp) (h g : Nat) (s : DkS) (f z u l : Nat) (w : World) (hd : Dk F w g s) (hl : LgO G w h g f z u l) (hz : f + z ≤ s.1.length) (h1 : 1 ≤ z) (hw : s.2.1.length ≤ 1000000000) (hlu : l ≠ u) :
    Calls Try.prog 69 #[.pointer (some ⟨h, 0, none⟩)] w fun e w' => e = .returned (.int .i64 (usedD s f z u l : Int)) ∧ Ext w w' := by
  have hb := hd.lens
  have c3 := hl.c3
  have c4 := hl.c4
  have hb1 : ((l : Int) == (u : Int)) = false := by rw [beq_eq_false_iff_ne]; omega
  have hpl : (pieceB (rdD s) f z).length = z := pieceB_len (by rw [rdD_len]; exact hz)
  have HL := Lib.hid hl
  have HD := Lib.hid hd
  have HP := Lib.hid hpl
  have HB : Hid (s.1.length ≤ 65536) := Lib.hid hb.2.1
  have hue : usedD s f z u l = if (getF (pieceB (rdD s) f z) (l : Int)).2.1 = (u : Int) then u else endD s f z := by rw [usedD, if_neg hlu]
  have hre := recD_end s f z
  have HU := Lib.hid hue
  have HE := Lib.hid hre
  clear hl hd hb hpl hue hre
  go_enter Try.func69, Try.ntmps69
  go_wp2
  go_quiet (fail)
  have hxq : Ext w (w.drewN nq) := Below.drewN' (Ext.refl w) nq
  clear c3 c4
  generalize w.drewN nq = w0 at *
  go_wp2_with fail
  refine (LgPiece F G h g s f z u l w0 (HD.out.ext hxq) (HL.out.ext hxq) hz h1 hw).mono ?_
  rintro e w1 ⟨b, c, rfl, hg1, hc1⟩
  have hr1 := PieceP.rd hg1 h1 hz hc1
  have hx1 := hxq.trans hg1.ext
  have hl2 := HL.out.ext hx1
  have d3 := hl2.c3
  have d4 := hl2.c4
  have HX1 := Lib.hid hx1
  have HR1 := Lib.hid hr1
  clear hg1 hx1 hl2 hxq hc1 hr1
  go_wp2_with fail
  refine (FrameGet_rd (pieceB (rdD s) f z) _ (l : Int) w1 HR1.out).mono ?_
  rintro e w2 ⟨v2, rfl, -, hx2⟩
  have HX2 := Lib.hid (HX1.out.trans hx2)
  have HR2 := Lib.hid (HR1.out.ext hx2)
  have e3 := (HL.out.ext HX2.out).c3
  clear hx2 HX1 HR1 d3 d4
  generalize (getF (pieceB (rdD s) f z) (l : Int)).2.2 = t2 at *
  generalize (getF (pieceB (rdD s) f z) (l : Int)).2.1 = t1 at *
  by_cases ht : t1 = (u : Int)
  · have hb2 : (t1 == (u : Int)) = true := by rw [beq_iff_eq]; exact ht
    have hu : usedD s f z u l = u := by rw [HU.out, if_pos ht]
    have HU2 := Lib.hid hu
    clear ht hu HU
    go_wp2
    go_ret
    exact ⟨by rw [HU2.out]; rfl, HX2.out⟩
  · have hb2 : (t1 == (u : Int)) = false := by rw [beq_eq_false_iff_ne]; exact ht
    have hu : usedD s f z u l = endD s f z := by rw [HU.out, if_neg ht]
    have HU2 := Lib.hid hu
    clear ht hu HU
    go_wp2_with fail
    refine (FrameAll_rd (pieceB (rdD s) f z) _ 0 w2 HR2.out (by rw [HP.out]; have := HB.out; omega)).mono ?_
    rintro e w3 ⟨v3, rfl, -, hx3⟩
    rw [HE.out]
    go_wp2
    go_ret
    exact ⟨by rw [HU2.out]; rfl, HX2.out.trans hx3⟩

/-- Used, whatever waits. -/
theorem LgUsed_any (F G : Fp) (h g : Nat) (s : DkS) (f z u l : Nat) (w : World) (hd : Dk F w g s) (hl : LgO G w h g f z u l) (hz : f + z ≤ s.1.length) (h1 : 1 ≤ z) (hu : u ≤ 65536) (hw : s.2.1.length ≤ 1000000000) :
    Calls Try.prog 69 #[.pointer (some ⟨h, 0, none⟩)] w fun e w' => e = .returned (.int .i64 (usedD s f z u l : Int)) ∧ Ext w w' := by
  by_cases hlu : l = u
  · subst hlu
    rw [usedD, if_pos rfl]
    exact LgUsed G h g f z l w hl hu
  · exact LgUsed_far F G h g s f z u l w hd hl hz h1 hw hlu

/-- What wrong answers. -/
def wrongE (z u : Nat) (n : Int) : Int := if 1 ≤ n ∧ n ≤ 4000 then (if z - u < (numB n.toNat).length + n.toNat + 5 then 3 else 0) else 1
theorem wrongE_put (z u : Nat) (p : List UInt8) : wrongE z u p.length = putE z u p := by
  unfold wrongE putE
  rw [Int.toNat_natCast]
  by_cases hp : okP p
  · have hl := frameB_len hp
    rw [if_pos (by omega), if_neg (show ¬ frameB p = [] by rw [frameB_nil]; omega), hl]
  · rw [if_neg (by omega), if_pos (frameB_nil.2 hp)]
theorem wrongE_room (z u : Nat) (n : Int) : (wrongE z u n == 0) = roomB z u n := by
  unfold wrongE roomB
  by_cases hn : 1 ≤ n ∧ n ≤ 4000
  · rw [if_pos hn]
    by_cases h2 : z - u < (numB n.toNat).length + n.toNat + 5
    · rw [if_pos h2, decide_eq_false (by omega)]
      rfl
    · rw [if_neg h2, decide_eq_true (by omega)]
      rfl
  · rw [if_neg hn, decide_eq_false (by omega)]
    rfl

set_option maxRecDepth 100000 in
set_option maxHeartbeats 400000 in
theorem LgWrong_n (G : Fp) (h g f z u l U : Nat) (n : Nat) (w : World) (hl : LgO G w h g f z u l) (hz : z ≤ 65536) (hU : U ≤ z) (n0 : 1 ≤ n) (n1 : n ≤ 4000)
    (KU : ∀ w1, Ext w w1 → Calls Try.prog 69 #[.pointer (some ⟨h, 0, none⟩)] w1 fun e w' => e = .returned (.int .i64 (U : Int)) ∧ Ext w1 w') :
    Calls Try.prog 71 #[.pointer (some ⟨h, 0, none⟩), .int .i64 (n : Int)] w fun e w' => e = .returned (.int .i64 (wrongE z U n)) ∧ Ext w w' := by
  have h8 := numB_len8 (n := n) (by omega)
  have hx0 : Ext w w.drew := Ext.dr (Ext.refl w)
  have c2 := (hl.ext hx0).c2
  have KN := Num_yes n w.drew (by omega)
  have q1 : decide ((n : Int) < 1) = false := by simp; omega
  have q2 : decide (4000 < (n : Int)) = false := by simp; omega
  have hwe : wrongE z U n = if z - U < (numB n).length + n + 5 then 3 else 0 := by rw [wrongE, if_pos (by omega), Int.toNat_natCast]
  obtain ⟨X1, hX1⟩ : ∃ X : Int, X = (((numB n).length + n : Nat) : Int) := ⟨_, rfl⟩
  obtain ⟨X2, hX2⟩ : ∃ X : Int, X = (((numB n).length + n + 5 : Nat) : Int) := ⟨_, rfl⟩
  obtain ⟨Y, hY⟩ : ∃ X : Int, X = ((z - U : Nat) : Int) := ⟨_, rfl⟩
  have w1 : IntKind.i64.wrap (((numB n).length : Int) + (n : Int)) = X1 := by rw [IntKind.wrap_i64]; omega
  have w2 : IntKind.i64.wrap (X1 + 5) = X2 := by rw [IntKind.wrap_i64]; omega
  have w3 : IntKind.i64.wrap ((z : Int) - (U : Int)) = Y := by rw [IntKind.wrap_i64]; omega
  have he : wrongE z U n = if Y < X2 then 3 else 0 := by
    rw [hwe]
    by_cases hc : z - U < (numB n).length + n + 5
    · rw [if_pos hc, if_pos (by omega)]
    · rw [if_neg hc, if_neg (by omega)]
  have KN' := Lib.hid KN
  have KU' := Lib.hid KU
  have HL := Lib.hid hl
  have HE := Lib.hid he
  have HX := Lib.hid hx0
  clear KN KU hl he hx0 h8 hX1 hX2 hY hwe n0 n1 hz hU
  generalize hm : (numB n).length = m at *
  have HM := Lib.hid hm
  clear hm
  by_cases hc : Y < X2
  all_goals
    have hcd : decide (Y < X2) = decide (Y < X2) := rfl
    conv at hcd => rhs; simp [hc]
    have HC := Lib.hid hc
    clear hc
    go_enter Try.func71, Try.ntmps71
    go_wp2
    go_region_held3 (fun w' => w'.cell? ⟨h, 2, none⟩ = some (.int .i64 (z : Int))) (first | go_keep | (exact d2) | (exact e2)) (first | (go_at_call 68; (with_reducible refine KN'.out.mono ?_); rintro e w4 ⟨v4, rfl, hg4⟩; obtain ⟨A4, k4, rfl⟩ := hg4.slice_ (n := m) (by rw [List.length_map, HM.out]); have hx4 := HX.out.trans hg4.ext; have d2 := (HL.out.ext hx4).c2) | (go_at_call 69; (with_reducible refine (KU'.out _ hx4).mono ?_); rintro e w5 ⟨rfl, hx5⟩; have e2 := (HL.out.ext (hx4.trans hx5)).c2))
    all_goals
      go_wp2
      go_ret
      refine ⟨?_, HX.out.trans (hg4.ext.trans hx5)⟩
      rw [HE.out]
      simp [HC.out]

set_option maxRecDepth 100000 in
theorem LgWrong_no (h : Nat) (z U : Nat) (n : Int) (w : World) (hn : ¬ (1 ≤ n ∧ n ≤ 4000)) :
    Calls Try.prog 71 #[.pointer (some ⟨h, 0, none⟩), .int .i64 n] w fun e w' => e = .returned (.int .i64 (wrongE z U n)) ∧ Ext w w' := by
  have he : wrongE z U n = 1 := by rw [wrongE, if_neg hn]
  have HE := Lib.hid he
  by_cases h1 : n < 1
  · clear he hn
    go_enter Try.func71, Try.ntmps71
    go_wp2
    go_ret
    exact ⟨by rw [HE.out]; rfl, Ext.refl _⟩
  · have q1 : decide (n < 1) = false := by simp; omega
    have q2 : decide (4000 < n) = true := by simp; omega
    clear he hn h1
    go_enter Try.func71, Try.ntmps71
    go_wp2
    go_ret
    exact ⟨by rw [HE.out]; rfl, Ext.refl _⟩

theorem LgWrong_any (G : Fp) (h g f z u l U : Nat) (n : Int) (w : World) (hl : LgO G w h g f z u l) (hz : z ≤ 65536) (hU : U ≤ z)
    (KU : ∀ w1, Ext w w1 → Calls Try.prog 69 #[.pointer (some ⟨h, 0, none⟩)] w1 fun e w' => e = .returned (.int .i64 (U : Int)) ∧ Ext w1 w') :
    Calls Try.prog 71 #[.pointer (some ⟨h, 0, none⟩), .int .i64 n] w fun e w' => e = .returned (.int .i64 (wrongE z U n)) ∧ Ext w w' := by
  by_cases hn : 1 ≤ n ∧ n ≤ 4000
  · obtain ⟨m, rfl⟩ : ∃ m : Nat, n = m := ⟨n.toNat, by omega⟩
    exact LgWrong_n G h g f z u l U m w hl hz hU (by omega) (by omega) KU
  · exact LgWrong_no h z U n w hn

set_option maxRecDepth 100000 in
theorem LgRoom_U (G : Fp) (h g f z u l U : Nat) (n : Int) (w : World) (hl : LgO G w h g f z u l) (hz : z ≤ 65536) (hU : U ≤ z)
    (KU : ∀ w1, Ext w w1 → Calls Try.prog 69 #[.pointer (some ⟨h, 0, none⟩)] w1 fun e w' => e = .returned (.int .i64 (U : Int)) ∧ Ext w1 w') :
    Calls Try.prog 77 #[.pointer (some ⟨h, 0, none⟩), .int .i64 n] w fun e w' => e = .returned (.bool (roomB z U n)) ∧ Ext w w' := by
  have K := LgWrong_any G h g f z u l U n w hl hz hU KU
  have HR := Lib.hid (wrongE_room z U n)
  have HK := Lib.hid K
  clear hl KU K hz hU
  go_enter Try.func77, Try.ntmps77
  go_wp2_with fail
  refine HK.out.mono ?_
  rintro e w1 ⟨rfl, hx⟩
  go_wp2
  go_ret
  refine ⟨?_, hx⟩
  rw [← HR.out]
  rfl

theorem usedD_le {s : DkS} {f z u l : Nat} (hz : f + z ≤ s.1.length) (hu : u ≤ z) : usedD s f z u l ≤ z := by
  unfold usedD
  split
  · exact hu
  · split
    · exact hu
    · exact endD_le hz
theorem LgRoom_any (F G : Fp) (h g : Nat) (s : DkS) (f z u l : Nat) (n : Int) (w : World) (hd : Dk F w g s) (hl : LgO G w h g f z u l) (hz : f + z ≤ s.1.length) (h1 : 1 ≤ z) (hu : u ≤ z) (hw : s.2.1.length ≤ 1000000000) :
    Calls Try.prog 77 #[.pointer (some ⟨h, 0, none⟩), .int .i64 n] w fun e w' => e = .returned (.bool (roomB z (usedD s f z u l) n)) ∧ Ext w w' := by
  have hl65 := hd.lens.2.1
  exact LgRoom_U G h g f z u l _ n w hl (by omega) (usedD_le hz hu) (fun w1 hx => LgUsed_any F G h g s f z u l w1 (hd.ext hx) (hl.ext hx) hz h1 (by omega) hw)

/-- The same, of a disk and a log of which it is known what waits. -/
theorem LD.useds {F : Fp} {w : World} {h g f z u : Nat} {s : DkS} (hd : LD F w h g s f z u) (hu : u ≤ 65536) (w1 : World) (hx : Ext w w1) :
    Calls Try.prog 69 #[.pointer (some ⟨h, 0, none⟩)] w1 fun e w' => e = .returned (.int .i64 (u : Int)) ∧ Ext w1 w' := by
  obtain ⟨F1, F2, l, a1, a2, a3, a4, a5, a6, a7, a8⟩ := hd
  rcases a7 with rfl | a7
  · exact LgUsed F2 h g f z l w1 (LgO.ext a2 hx) hu
  · have := LgUsed_any F1 F2 h g s f z u l w1 (a1.ext hx) (a2.ext hx) a7.2.2.1 a8 hu a7.2.2.2.2
    rw [LastD.used (.inr a7)] at this
    exact this
theorem LDUsed (F : Fp) (h g : Nat) (s : DkS) (f z u : Nat) (w : World) (hd : LD F w h g s f z u) (hu : u ≤ 65536) :
    Calls Try.prog 69 #[.pointer (some ⟨h, 0, none⟩)] w fun e w' => e = .returned (.int .i64 (u : Int)) ∧ Ext w w' := hd.useds hu w (Ext.refl w)
theorem LDRoom (F : Fp) (h g : Nat) (s : DkS) (f z u : Nat) (n : Int) (w : World) (hd : LD F w h g s f z u) (hz : z ≤ 65536) (hu : u ≤ z) :
    Calls Try.prog 77 #[.pointer (some ⟨h, 0, none⟩), .int .i64 n] w fun e w' => e = .returned (.bool (roomB z u n)) ∧ Ext w w' := by
  have hd' := hd
  obtain ⟨F1, F2, l, a1, a2, a3, a4, a5, a6, a7, a8⟩ := hd
  exact LgRoom_U F2 h g f z u l u n w a2 hz hu (hd'.useds (by omega))

end Go.Proofs.Ytdcmjmanalijfaa

/- Package log: cut. -/
namespace Go.Proofs.Ytdcmjmanalijfaa
open Go.RowKit

theorem Grew.noughts {base : Nat} {e : TypeId} {w0 : World} {b n c : Nat} {v : Value} : ∀ (m o : Nat) (xs : List UInt8) (w : World), Grew base e v w0 (xs.map B) (.slice (some ⟨b, 0, none⟩) n c) w → o + m ≤ xs.length →
    Grew base e v w0 ((xs.take o ++ (List.replicate m 0 ++ xs.drop (o + m))).map B) (.slice (some ⟨b, 0, none⟩) n c) (w.setCells b o (List.replicate m (.int .u8 0)))
  | 0, o, xs, w, hg, hm => by
    rw [List.replicate_zero, List.nil_append, Nat.add_zero, List.take_append_drop]
    exact hg
  | m + 1, o, xs, w, hg, hm => by
    have h1 := hg.set o (.int .u8 0)
    have e1 : (xs.map B).set o (.int .u8 0) = (xs.set o 0).map B := by rw [List.map_set]; rfl
    rw [e1] at h1
    have h2 := Grew.noughts m (o + 1) (xs.set o 0) _ h1 (by rw [List.length_set]; omega)
    have e2 : (xs.set o 0).take (o + 1) ++ (List.replicate m 0 ++ (xs.set o 0).drop (o + 1 + m)) = xs.take o ++ (List.replicate (m + 1) 0 ++ xs.drop (o + (m + 1))) := by
      rw [List.drop_set_of_lt (by omega), List.take_succ_eq_append_getElem (by rw [List.length_set]; omega), List.getElem_set_self, List.take_set_of_le (Nat.le_refl _), List.replicate_succ, List.append_assoc, show o + 1 + m = o + (m + 1) by omega]
      rfl
    rw [e2] at h2
    exact h2

theorem clear_run {base : Nat} {w0 w1 : World} {b n c : Nat} {v : Value} {xs : List UInt8} (hg : Grew base 5 v w0 (xs.map B) (.slice (some ⟨b, 0, none⟩) n c) w1) (o m C : Nat) (hm : o + m ≤ xs.length) (ty : TypeId) :
    (Builtin.clear_ #[30] ty #[.slice (some ⟨b, o, none⟩) m C]).run Try.prog w1 = .ok (.tuple #[]) (w1.setCells b o (List.replicate m (.int .u8 0))) := by
  rcases Nat.eq_zero_or_pos m with h0 | h0
  · subst h0
    simp [Builtin.clear_, run_underlying Try.underlying30, World.setCells]
  · refine Lib.run_clear_slice w1 30 5 ty (.int .u8 0) Try.underlying30 (fun w => by kernel_rfl) rfl rfl b o m C h0 (fun j hj => ?_) (fun j _ => hg.frozenAt (o + j))
    rw [hg.cellAt (o + j) (by rw [List.length_map]; omega), List.getElem?_map, List.getElem?_eq_getElem (by omega)]
    rfl

theorem RdF.of_rd {F : Fp} {w : World} {b o n c : Nat} {xs : List Value} (h : Rd w (.slice (some ⟨b, o, none⟩) n c) xs) (hb : F b) : RdF F w (.slice (some ⟨b, o, none⟩) n c) xs := by
  obtain ⟨A, c, e, h1, h2, h3⟩ := h
  refine ⟨A, c, e, h1, h2, fun hn => ?_⟩
  obtain ⟨b', o', rfl, hb', hc⟩ := h3 hn
  cases e
  exact ⟨_, _, rfl, hb', hb, hc⟩

/-- What lies behind a place of a piece is made noughts: the piece's end reads so. -/
theorem zeros_rd {s : DkS} {f z v b c : Nat} {w w1 : World} (hg : Grew w.heap.size 5 (.slice none 0 0) w ((rdD s).map B) (.slice (some ⟨b, 0, none⟩) s.1.length c) w1) (hz : f + z ≤ s.1.length) (hv : v < z) (hc : f + z ≤ c) :
    RdF (fun k => w.heap.size ≤ k ∧ k < (w1.setCells b (f + v) (List.replicate (z - v) (.int .u8 0))).heap.size) (w1.setCells b (f + v) (List.replicate (z - v) (.int .u8 0))) (.slice (some ⟨b, f + v, none⟩) (z - v) (c - f - v)) ((List.replicate (z - v) (0 : UInt8)).map B) ∧
      Ext w (w1.setCells b (f + v) (List.replicate (z - v) (.int .u8 0))) := by
  have hl : (rdD s).length = s.1.length := rdD_len s
  have hg2 := Grew.noughts (z - v) (f + v) (rdD s) w1 hg (by omega)
  have hn : ((rdD s).take (f + v) ++ (List.replicate (z - v) (0 : UInt8) ++ (rdD s).drop (f + v + (z - v)))).length = s.1.length := by
    simp only [List.length_append, List.length_take, List.length_replicate, List.length_drop, hl]
    omega
  obtain ⟨g', c', e, -, q3, q4⟩ := hg2.form (by rw [List.length_map, hn]; omega)
  rw [List.length_map, hn] at e
  cases e
  refine ⟨RdF.of_rd ?_ ⟨q3, q4⟩, hg2.ext⟩
  have hr := (Rd.own hg2.own)
  have hr := hr.cut (f + v) (z - v) (by rw [List.length_map, hn]; omega)
  rw [if_neg (by omega)] at hr
  rw [← List.map_drop, ← List.map_take, List.drop_left' (by rw [List.length_take, hl]; omega), List.take_left' (List.length_replicate)] at hr
  rw [Nat.sub_sub]
  simpa [Addr.add_lit] using hr

/-- What the two first statements of cut leave: a slice of noughts in new memory. -/
theorem cut_zeros {s : DkS} {f z v b c : Nat} {w w1 : World} (hg : Grew w.heap.size 5 (.slice none 0 0) w ((rdD s).map B) (.slice (some ⟨b, 0, none⟩) s.1.length c) w1) (hz : f + z ≤ s.1.length) (hv : v ≤ z) (hc : f + z ≤ c) :
    ∃ (o : Nat) (w2 : World), (if c - f = v then some (⟨b, f, none⟩ : Addr) else some ⟨b, f + v, none⟩) = some ⟨b, o, none⟩ ∧
      (∀ ty, (Builtin.clear_ #[30] ty #[.slice (some ⟨b, o, none⟩) (z - v) (c - f - v)]).run Try.prog w1 = .ok (.tuple #[]) w2) ∧
      RdF (fun k => w.heap.size ≤ k ∧ k < w2.heap.size) w2 (.slice (some ⟨b, o, none⟩) (z - v) (c - f - v)) ((List.replicate (z - v) (0 : UInt8)).map B) ∧ Ext w w2 := by
  have hl : (rdD s).length = s.1.length := rdD_len s
  by_cases hvz : v < z
  · obtain ⟨hr2, hx2⟩ := zeros_rd hg hz hvz hc
    exact ⟨f + v, _, by rw [if_neg (by omega)], clear_run hg (f + v) (z - v) (c - f - v) (by omega), hr2, hx2⟩
  · obtain rfl : v = z := by omega
    have hcm : c ≤ maxLen := by
      obtain ⟨A, c', e, h1, h2, h3⟩ := Rd.own hg.own
      injection e with _ _ e3
      rw [e3]
      exact h2
    have h0 : ∀ o, RdF (fun k => w.heap.size ≤ k ∧ k < w1.heap.size) w1 (.slice (some ⟨b, o, none⟩) (v - v) (c - f - v)) ((List.replicate (v - v) (0 : UInt8)).map B) := fun o =>
      ⟨some ⟨b, o, none⟩, c - f - v, by simp, by simp, by omega, fun hn => by simp at hn⟩
    have h1 : ∀ o, o ≤ s.1.length → ∀ ty, (Builtin.clear_ #[30] ty #[.slice (some ⟨b, o, none⟩) (v - v) (c - f - v)]).run Try.prog w1 = .ok (.tuple #[]) w1 := fun o ho ty => by
      have := clear_run hg o (v - v) (c - f - v) (by omega) ty
      rw [Nat.sub_self] at *
      exact this
    by_cases hcf : c - f = v
    · exact ⟨f, w1, by rw [if_pos hcf], h1 f (by omega), h0 f, hg.ext⟩
    · exact ⟨f + v, w1, by rw [if_neg hcf], h1 (f + v) (by omega), h0 _, hg.ext⟩

set_option maxRecDepth 100000 in
set_option maxHeartbeats 400000 in
theorem LgCut (F1 F2 : Fp) (h g : Nat) (s : DkS) (f z u l v : Nat) (w : World) (hd : Dk F1 w g s) (hl : LgO F2 w h g f z u l) (ha : F2.apart F1) (hz : f + z ≤ s.1.length) (h1 : 1 ≤ z) (hv : v ≤ z) (hw : s.2.1.length ≤ 100000000) (hn0 : 0 ≤ s.2.2) (hn1 : s.2.2 ≤ 1000000000) :
    Calls Try.prog 58 #[.pointer (some ⟨h, 0, none⟩), .int .i64 (v : Int)] w fun e w' =>
      e = .returned (.tuple #[]) ∧ Dk (F1.since w w') w' g (zrD s f z v) ∧ LgO F2 w' h g f z v v ∧ Chg (fun k => F1 k ∨ F2 k) w w' := by
  have hb := hd.lens
  have HL := Lib.hid hl
  have HD := Lib.hid hd
  have HA := Lib.hid ha
  have HB : Hid (s.1.length ≤ 65536 ∧ f + z ≤ s.1.length) := Lib.hid ⟨hb.2.1, hz⟩
  clear hl hd ha hb
  go_enter Try.func58, Try.ntmps58
  go_wp2_with fail
  refine (LgPiece F1 F2 h g s f z u l w HD.out HL.out hz h1 (by omega)).mono ?_
  rintro e w1 ⟨b, c, rfl, hg1, hc1⟩
  obtain ⟨o, w2, hA, hcl, hr2, hx2⟩ := cut_zeros hg1 hz hv hc1
  have p1 : v ≤ c - f := by omega
  have HR := Lib.hid hr2
  have HX := Lib.hid hx2
  clear hr2 hx2 hg1 hz hc1
  go_wp2_with fail
  have c0 := (HL.out.ext HX.out).c0
  have c1 := (HL.out.ext HX.out).c1
  obtain ⟨Y, hY⟩ : ∃ Y : Int, Y = ((f + v : Nat) : Int) := ⟨_, rfl⟩
  have w3 : IntKind.i64.wrap ((f : Int) + (v : Int)) = Y := by rw [IntKind.wrap_i64]; have := HB.out; omega
  have hx3 : Ext w w2.drew := HX.out.trans (Ext.dr (Ext.refl w2))
  have KW := DkWrite F1 (fun k => w.heap.size ≤ k ∧ k < w2.heap.size) g s ((f + v : Nat) : Int) _ (List.replicate (z - v) (0 : UInt8)) w2.drew (HD.out.ext hx3) (RdF.ext HR.out (Ext.dr (Ext.refl w2))) (fun k hk hF => by have := HD.out.isIn k hF; omega) (fun k hk => hk.2) (by omega) (by have := HB.out; omega) (by omega)
  rw [← hY] at KW
  have KW' := Lib.hid KW
  have HX3 := Lib.hid hx3
  have HY := Lib.hid hY
  have hwt := wrD_waits s ((f + v : Nat) : Int) (List.replicate (z - v) (0 : UInt8))
  rw [List.length_replicate, ← hY] at hwt
  have hwt2 : (wrD s Y (List.replicate (z - v) 0)).2.1.length ≤ 1000000000 := by have := HB.out; omega
  have hwn : (wrD s Y (List.replicate (z - v) 0)).2.2 = s.2.2 := wrD_n _ _ _
  have HW := Lib.hid (And.intro hwt2 hwn)
  have hzr : zrD s f z v = syD (wrD s Y (List.replicate (z - v) 0)) := by rw [hY]; rfl
  have HZ := Lib.hid hzr
  clear KW hx3 hY hcl HR hwt hwt2 hwn hzr
  go_still_tail 11, (by kernel_rfl)
  change wpList _ _ _ _ _ w2.drew
  go_wp2_with fail
  refine KW'.out.mono ?_
  rintro e w4 ⟨rfl, hd4, hc4⟩
  have hl4 := (HL.out.ext HX3.out).chg hc4 HA.out
  have ha4 : F2.apart (F1.since w2.drew w4) := (HA.out.symm.since (HL.out.ext HX3.out).isIn).symm
  have c0 := hl4.c0
  have HD4 := Lib.hid hd4
  have HC4 := Lib.hid hc4
  have HL4 := Lib.hid hl4
  have HA4 := Lib.hid ha4
  clear hd4 hc4 hl4 ha4 KW'
  go_wp2_with fail
  refine (DkSync _ g _ w4 HD4.out HW.out.1 (by rw [HW.out.2]; exact hn0) (by rw [HW.out.2]; exact hn1)).mono ?_
  rintro e w5 ⟨rfl, hd5, hc5⟩
  rw [← HZ.out] at hd5
  have hl5 := HL4.out.chg hc5 HA4.out
  have c3 := hl5.c3
  have c4 := hl5.c4
  have f3 := hl5.fr 3
  have f4 := hl5.fr 4
  have hset := hl5.set v v
  have ha5 : F2.apart ((F1.since w2.drew w4).since w4 w5) := (HA4.out.symm.since HL4.out.isIn).symm
  have HD5 := Lib.hid hd5
  have HC5 := Lib.hid hc5
  have HS := Lib.hid hset
  have HA5 := Lib.hid ha5
  clear hd5 hc5 hl5 hset ha5 HD4 c0 HL4 HA4 HL
  go_wp2
  go_end0
  have hs1 := HX3.out.size
  have hs2 := HC4.out.size
  have hs3 := HC5.out.size
  have hd6 := Dk.chg HD5.out HS.out.2 HA5.out.symm
  refine ⟨rfl, hd6.mono (fun k hk => ?_) ?_, HS.out.1, ?_⟩
  · have hk2 := Fp.since_since hs2 hs3 k hk
    rcases hk2 with hk2 | hk2
    · exact .inl hk2
    · exact .inr ⟨by omega, by simpa using hk2.2⟩
  · exact HD.out.isIn.since (by simp; omega)
  · have q1 : Chg F1 w w4 := (Chg.of_ext HX3.out).trans HC4.out (fun _ _ h => h)
    have q2 : Chg F1 w w5 := q1.trans HC5.out (fun x hx hF => by
      rcases hF with hF | hF
      · exact hF
      · omega)
    exact (q2.mono (G := fun k => F1 k ∨ F2 k) (fun k _ hk => .inl hk)).trans HS.out.2 (fun x _ hF => .inr hF)

end Go.Proofs.Ytdcmjmanalijfaa

/- Package log: what its calls do. -/
namespace Go.Proofs.Ytdcmjmanalijfaa
open Go.RowKit

/-- A disk, the log on it, where each lies. -/
structure LP (w : World) (h g : Nat) (s : DkS) (f z u l : Nat) (F1 F2 : Fp) : Prop where
  dk : Dk F1 w g s
  lg : LgO F2 w h g f z u l
  apart : F2.apart F1
  last : LastD s f z u l
  one : 1 ≤ z

set_option maxRecDepth 100000 in
set_option maxHeartbeats 400000 in
theorem LgPut_yes (F1 F2 H : Fp) (h g : Nat) (s : DkS) (f z u l : Nat) (p : List UInt8) (v : Value) (w : World) (hd : LP w h g s f z u l F1 F2) (hr : RdF H w v (p.map B)) (hz : f + z ≤ s.1.length) (hu : u ≤ z) (hw : s.2.1.length ≤ 10000000) (he : putE z u p = 0) :
    Calls Try.prog 43 #[.pointer (some ⟨h, 0, none⟩), v] w fun e w' =>
      e = .returned (.int .i64 0) ∧ LP w' h g (ptD s f u p) f z (u + (frameB p).length) u (F1.since w w') F2 ∧ Chg (fun k => F1 k ∨ F2 k) w w' := by
  have hp := putE_yes he
  have hfl := frameB_len hp.1
  have hb := hd.dk.lens
  obtain ⟨A, c, rfl, hlc, hcm⟩ := hr.rd.sliceN (List.length_map _)
  unfold maxLen at hcm
  have KU : ∀ w1, Ext w w1 → Calls Try.prog 69 #[.pointer (some ⟨h, 0, none⟩)] w1 fun e w' => e = .returned (.int .i64 (u : Int)) ∧ Ext w1 w' := by
    intro w1 hx
    have := LgUsed_any F1 F2 h g s f z u l w1 (hd.dk.ext hx) (hd.lg.ext hx) hz hd.one (by omega) (by omega)
    rw [hd.last.used] at this
    exact this
  have KW := LgWrong_any F2 h g f z u l u p.length w hd.lg (by omega) hu KU
  rw [wrongE_put, he] at KW
  have hls := LastD.put hz hu he hw
  have HD := Lib.hid hd
  have HR := Lib.hid hr
  have HKU := Lib.hid KU
  have HKW := Lib.hid KW
  have HP := Lib.hid hp
  have HLS := Lib.hid hls
  have HB : Hid (s.1.length ≤ 65536 ∧ f + z ≤ s.1.length ∧ u + (frameB p).length ≤ z) := Lib.hid ⟨hb.2.1, hz, by omega⟩
  clear hd hr KU KW hp hls hfl hb hz hu he
  go_enter Try.func43, Try.ntmps43
  go_wp2_with fail
  refine HKW.out.mono ?_
  rintro e w1 ⟨rfl, hx1⟩
  have HX1 := Lib.hid hx1
  clear hx1
  go_wp2_with fail
  refine (FramePut_any p _ w1 (HR.out.rd.ext HX1.out)).mono ?_
  rintro e w2 ⟨v2, rfl, hg2⟩
  obtain ⟨A2, c2, rfl⟩ := hg2.slice_ (List.length_map _)
  have hr2 := RdF.made hg2
  have HX2 := Lib.hid (HX1.out.trans hg2.ext)
  have HR2 := Lib.hid hr2
  clear hg2 hr2
  go_wp2_with fail
  refine (HKU.out w2 HX2.out).mono ?_
  rintro e w3 ⟨rfl, hx3⟩
  have hl3 := HD.out.lg.ext (HX2.out.trans hx3)
  have c3 := hl3.c3
  have c4 := hl3.c4
  have f3 := hl3.fr 3
  have f4 := hl3.fr 4
  have hset := hl3.set (u + (frameB p).length) u
  have hxx := HX2.out.trans hx3
  have w5 : IntKind.i64.wrap ((u : Int) + ((frameB p).length : Int)) = ((u + (frameB p).length : Nat) : Int) := by rw [IntKind.wrap_i64]; have := HB.out; omega
  have hlt : decide ((u : Int) < (u : Int)) = false := by simp
  have HX3 := Lib.hid hxx
  have HS := Lib.hid hset
  have HR3 := Lib.hid (RdF.ext HR2.out hx3)
  have HX32 : Hid (w2.heap.size ≤ w3.heap.size) := Lib.hid hx3.size
  clear hl3 hset hx3 hxx HX2 HR2
  go_wp2_with fail
  rw [Int.natCast_add] at HS
  generalize World.setCell _ _ _ = w4 at *
  have hl4 := HS.out.1
  have c0 := hl4.c0
  have c1 := hl4.c1
  have hi2 := HD.out.lg.isIn
  have hx1s := HX1.out.size
  have hd5 := ((HD.out.dk.ext HX3.out).chg HS.out.2 HD.out.apart.symm).ext (Ext.dr (Ext.refl w4))
  have hr5 := RdF.ext (RdF.chg HR3.out HS.out.2 (fun k hk hF => by have := hi2 k hF; omega)) (Ext.dr (Ext.refl w4))
  have hc5 : Chg F2 w w4.drew := ((Chg.of_ext HX3.out).trans HS.out.2 (fun _ _ h => h)).drew
  have hin : ∀ k, k < w2.heap.size → k < w4.drew.heap.size := fun k hk => by
    obtain ⟨A', c', e, _⟩ := HR3.out
    have h1 : w2.heap.size ≤ w3.heap.size := HX32.out
    have h2 := HS.out.2.size
    show k < w4.heap.size
    omega
  obtain ⟨Y, hY⟩ : ∃ Y : Int, Y = ((f + u : Nat) : Int) := ⟨_, rfl⟩
  have w6 : IntKind.i64.wrap ((f : Int) + (u : Int)) = Y := by rw [IntKind.wrap_i64]; have := HB.out; omega
  have hwe : wrE s.1.length Y (frameB p).length = 0 := by
    rw [hY]
    exact wrE_yes (by have := HB.out; omega)
  have KW := DkWrite F1 (fun k => w1.heap.size ≤ k ∧ k < w2.heap.size) g s Y _ (frameB p) w4.drew hd5 hr5 (fun k hk hF => by have := HD.out.dk.isIn k hF; omega) (fun k hk => hin k hk.2) (by omega) (by have := HB.out; omega) (by omega)
  rw [hwe] at KW
  have hpt : ptD s f u p = wrD s Y (frameB p) := by rw [hY]; rfl
  have KW' := Lib.hid KW
  have HC5 := Lib.hid hc5
  have HPT := Lib.hid hpt
  have HL5 := Lib.hid (hl4.ext (Ext.dr (Ext.refl w4)))
  clear KW hc5 hpt hl4 hd5 hr5 hin hY hwe hi2 hx1s c3 c4 f3 f4
  go_still_tail 11, (by kernel_rfl)
  change wpList _ _ _ _ _ w4.drew
  go_wp2_with fail
  refine KW'.out.mono ?_
  rintro e w7 ⟨rfl, hd7, hc7⟩
  have hl7 := HL5.out.chg hc7 HD.out.apart
  have HD7 := Lib.hid hd7
  have HC7 := Lib.hid hc7
  have HL7 := Lib.hid hl7
  clear hd7 hc7 hl7 KW'
  go_wp2
  go_ret
  have hs1 := HC5.out.size
  have hs2 := HC7.out.size
  have hi1 := HD.out.dk.isIn
  have hd8 : Dk (F1.since w w7) w7 g (ptD s f u p) := by
    rw [HPT.out]
    refine HD7.out.mono (fun k hk => ?_) (hi1.since (by omega))
    rcases hk with hk | hk
    · exact .inl hk
    · exact .inr ⟨by omega, hk.2⟩
  refine ⟨rfl, ⟨hd8, HL7.out, ?_, HLS.out, HD.out.one⟩, (HC5.out.mono (G := fun k => F1 k ∨ F2 k) (fun k _ hk => .inr hk)).trans HC7.out (fun x _ hF => .inl hF)⟩
  exact (HD.out.apart.symm.since HD.out.lg.isIn).symm

theorem putE_cases (z u : Nat) (p : List UInt8) : putE z u p = 0 ∨ putE z u p = 1 ∨ putE z u p = 3 := by
  unfold putE
  split
  · exact .inr (.inl rfl)
  · split
    · exact .inr (.inr rfl)
    · exact .inl rfl
set_option maxRecDepth 100000 in
theorem LgPut_no (F1 F2 H : Fp) (h g : Nat) (s : DkS) (f z u l : Nat) (p : List UInt8) (v : Value) (w : World) (hd : LP w h g s f z u l F1 F2) (hr : RdF H w v (p.map B)) (hz : f + z ≤ s.1.length) (hu : u ≤ z) (hw : s.2.1.length ≤ 10000000)
    (he : putE z u p ≠ 0) :
    Calls Try.prog 43 #[.pointer (some ⟨h, 0, none⟩), v] w fun e w' => e = .returned (.int .i64 (putE z u p)) ∧ Ext w w' := by
  have hb := hd.dk.lens
  obtain ⟨A, c, rfl, hlc, hcm⟩ := hr.rd.sliceN (List.length_map _)
  unfold maxLen at hcm
  have KU : ∀ w1, Ext w w1 → Calls Try.prog 69 #[.pointer (some ⟨h, 0, none⟩)] w1 fun e w' => e = .returned (.int .i64 (u : Int)) ∧ Ext w1 w' := by
    intro w1 hx
    have := LgUsed_any F1 F2 h g s f z u l w1 (hd.dk.ext hx) (hd.lg.ext hx) hz hd.one (by omega) (by omega)
    rw [hd.last.used] at this
    exact this
  have KW := LgWrong_any F2 h g f z u l u p.length w hd.lg (by omega) hu KU
  rw [wrongE_put] at KW
  have hne : (putE z u p == 0) = false := by rw [beq_eq_false_iff_ne]; exact he
  have hne2 : (putE z u p != 0) = true := by rw [bne_iff_ne]; exact he
  have HKW := Lib.hid KW
  clear hd hr KU KW hb hz hu he
  generalize putE z u p = E at *
  go_enter Try.func43, Try.ntmps43
  go_wp2_with fail
  refine HKW.out.mono ?_
  rintro e w1 ⟨rfl, hx1⟩
  go_wp2
  go_ret
  exact ⟨rfl, hx1⟩

theorem LD.lp {F : Fp} {w : World} {h g f z u : Nat} {s : DkS} (hd : LD F w h g s f z u) : ∃ (F1 F2 : Fp) (l : Nat), LP w h g s f z u l F1 F2 ∧ (∀ k, F1 k → F k) ∧ (∀ k, F2 k → F k) ∧ F.isIn w := by
  obtain ⟨F1, F2, l, h1, h2, h3, h4, h5, h6, h7, h8⟩ := hd
  exact ⟨F1, F2, l, ⟨h1, h2, h3, h7, h8⟩, h4, h5, h6⟩
/-- What a call leaves of a disk and a log, in one word. -/
theorem LP.ld {F F1 F2 F1' : Fp} {w w' : World} {h g f z u l : Nat} {s : DkS} (hp : LP w' h g s f z u l F1' F2) (h1 : ∀ k, F1 k → F k) (h2 : ∀ k, F2 k → F k) (hi : F.isIn w) (hf : ∀ k, F1' k → F1.since w w' k) (hs : w.heap.size ≤ w'.heap.size) :
    LD (F.since w w') w' h g s f z u := by
  refine ⟨F1', F2, l, hp.dk, hp.lg, hp.apart, fun k hk => ?_, fun k hk => .inl (h2 k hk), hi.since hs, hp.last, hp.one⟩
  rcases hf k hk with hk | hk
  · exact .inl (h1 k hk)
  · exact .inr hk
theorem LD.later {F : Fp} {w w' : World} {h g f z u : Nat} {s : DkS} (hd : LD F w h g s f z u) (hx : Ext w w') : LD (F.since w w') w' h g s f z u :=
  (hd.ext hx).mono (fun _ hk => .inl hk) (hd.isIn.since hx.size)
theorem LD.sizes {F : Fp} {w : World} {h g f z u : Nat} {s : DkS} (hd : LD F w h g s f z u) : s.1.length ≤ 65536 := hd.lens.2

theorem LgPut (F : Fp) (h g : Nat) (s : DkS) (f z u : Nat) (H : Fp) (p : List UInt8) (v : Value) (w : World) (hd : LD F w h g s f z u) (hr : RdF H w v (p.map B)) (_ha : H.apart F) (_hH : H.isIn w) (hz : f + z ≤ s.1.length) (hu : u ≤ z) (hw : s.2.1.length ≤ 10000000) :
    Calls Try.prog 43 #[.pointer (some ⟨h, 0, none⟩), v] w fun e w' => e = .returned (.int .i64 (putE z u p)) ∧ LD (F.since w w') w' h g (putS s f z u p) f z (putU z u p) ∧ Chg F w w' := by
  have hd0 := hd
  obtain ⟨F1, F2, l, hp, h1, h2, hi⟩ := hd.lp
  by_cases he : putE z u p = 0
  · refine (LgPut_yes F1 F2 H h g s f z u l p v w hp hr hz hu hw he).mono ?_
    rintro e w' ⟨rfl, hp', hc⟩
    rw [he, putS, if_pos he, putU, if_pos he]
    refine ⟨rfl, hp'.ld h1 h2 hi (fun _ hk => hk) hc.size, hc.mono fun k _ hk => ?_⟩
    rcases hk with hk | hk
    · exact h1 k hk
    · exact h2 k hk
  · refine (LgPut_no F1 F2 H h g s f z u l p v w hp hr hz hu hw he).mono ?_
    rintro e w' ⟨rfl, hx⟩
    rw [putS, if_neg he, putU, if_neg he]
    exact ⟨rfl, hd0.later hx, Chg.of_ext hx⟩

set_option maxRecDepth 100000 in
set_option maxHeartbeats 400000 in
theorem LgAppend (F : Fp) (h g : Nat) (s : DkS) (f z u : Nat) (H : Fp) (p : List UInt8) (v : Value) (w : World) (hd : LD F w h g s f z u) (hr : RdF H w v (p.map B)) (_ha : H.apart F) (_hH : H.isIn w) (hz : f + z ≤ s.1.length) (hu : u ≤ z) (hw : s.2.1.length ≤ 10000000) (hn0 : 0 ≤ s.2.2) (hn1 : s.2.2 ≤ 100000000) :
    Calls Try.prog 42 #[.pointer (some ⟨h, 0, none⟩), v] w fun e w' => e = .returned (.int .i64 (putE z u p)) ∧ LD (F.since w w') w' h g (appS s f z u p) f z (putU z u p) ∧ Chg F w w' := by
  have hd0 := hd
  obtain ⟨F1, F2, l, hp, h1, h2, hi⟩ := hd.lp
  by_cases he : putE z u p = 0
  · have K := LgPut_yes F1 F2 H h g s f z u l p v w hp hr hz hu hw he
    rw [he, appS, if_pos he, putU, if_pos he]
    have hwt := ptD_waits s f u p
    have hmx := frameB_max p
    have hok := putE_yes he
    have hw2 : (ptD s f u p).2.1.length ≤ 1000000000 := by omega
    have hnn : (ptD s f u p).2.2 = s.2.2 := ptD_n _ _ _ _
    have HK := Lib.hid K
    have HP := Lib.hid hp
    have HI := Lib.hid (And.intro h1 (And.intro h2 hi))
    have HW := Lib.hid (And.intro hw2 hnn)
    clear K hp h1 h2 hi hd hd0 hr _ha _hH hz hu he hwt hmx hok hw2 hnn
    go_enter Try.func42, Try.ntmps42
    go_wp2_with fail
    refine HK.out.mono ?_
    rintro e w1 ⟨rfl, hp1, hc1⟩
    have c0 := hp1.lg.c0
    have HP1 := Lib.hid hp1
    have HC1 := Lib.hid hc1
    clear hp1 hc1
    go_wp2_with fail
    refine (DkSync _ g _ w1 HP1.out.dk HW.out.1 (by rw [HW.out.2]; exact hn0) (by rw [HW.out.2]; omega)).mono ?_
    rintro e w2 ⟨rfl, hd2, hc2⟩
    have hl2 := HP1.out.lg.chg hc2 HP1.out.apart
    have ha2 : F2.apart ((F1.since w w1).since w1 w2) := (HP1.out.apart.symm.since HP1.out.lg.isIn).symm
    have c3 := hl2.c3
    have c4 := hl2.c4
    have f4 := hl2.fr 4
    obtain ⟨hl3, hc3⟩ := ObjF.setCell hl2 4 (.int .i64 ((u + (frameB p).length : Nat) : Int))
    have HD2 := Lib.hid hd2
    have HC2 := Lib.hid hc2
    have HL3 := Lib.hid hl3
    have HC3 := Lib.hid hc3
    have HA2 := Lib.hid ha2
    clear hd2 hc2 hl2 hl3 hc3 ha2 c0
    go_wp2
    go_ret
    have hs1 := HC1.out.size
    have hs2 := HC2.out.size
    obtain ⟨h1, h2, hi⟩ := HI.out
    have hd3 := Dk.chg HD2.out HC3.out HA2.out.symm
    refine ⟨rfl, ⟨_, F2, u + (frameB p).length, hd3, HL3.out, HA2.out, fun k hk => ?_, fun k hk => .inl (h2 k hk), hi.since (by simp; omega), .inl rfl, HP.out.one⟩, ?_⟩
    · rcases Fp.since_since hs1 hs2 k hk with hk | hk
      · exact .inl (h1 k hk)
      · exact .inr ⟨hk.1, by simpa using hk.2⟩
    · have q1 : Chg F w w1 := HC1.out.mono fun k _ hk => by
        rcases hk with hk | hk
        · exact h1 k hk
        · exact h2 k hk
      have q2 : Chg F w w2 := q1.trans HC2.out (fun x hx hF => by
        rcases hF with hF | hF
        · exact h1 x hF
        · omega)
      exact q2.trans HC3.out (fun x _ hF => h2 x hF)
  · have K := LgPut_no F1 F2 H h g s f z u l p v w hp hr hz hu hw he
    have hE : (putE z u p == 0) = false := by rw [beq_eq_false_iff_ne]; exact he
    rw [appS, if_neg he, putU, if_neg he]
    have HK := Lib.hid K
    have HD := Lib.hid hd0
    clear K hp h1 h2 hi hd hd0 hr _ha _hH hz hu he
    generalize putE z u p = E at *
    go_enter Try.func42, Try.ntmps42
    go_wp2_with fail
    refine HK.out.mono ?_
    rintro e w1 ⟨rfl, hx1⟩
    go_wp2
    go_ret
    exact ⟨rfl, HD.out.later hx1, Chg.of_ext hx1⟩

set_option maxRecDepth 100000 in
theorem LgClear (F : Fp) (h g : Nat) (s : DkS) (f z u : Nat) (w : World) (hd : LD F w h g s f z u) (hz : f + z ≤ s.1.length) (hw : s.2.1.length ≤ 10000000) (hn0 : 0 ≤ s.2.2) (hn1 : s.2.2 ≤ 100000000) :
    Calls Try.prog 35 #[.pointer (some ⟨h, 0, none⟩)] w fun e w' => e = .returned (.tuple #[]) ∧ LD (F.since w w') w' h g (zrD s f z 0) f z 0 ∧ Chg F w w' := by
  obtain ⟨F1, F2, l, hp, h1, h2, hi⟩ := hd.lp
  have K := LgCut F1 F2 h g s f z u l 0 w hp.dk hp.lg hp.apart hz hp.one (Nat.zero_le _) (by omega) hn0 (by omega)
  have HK := Lib.hid K
  have HP := Lib.hid hp
  have HI := Lib.hid (And.intro h1 (And.intro h2 hi))
  clear K hp h1 h2 hi hd hz hw hn0 hn1
  go_enter Try.func35, Try.ntmps35
  go_wp2_with fail
  refine HK.out.mono ?_
  rintro e w1 ⟨rfl, hd1, hl1, hc1⟩
  go_wp2
  go_end0
  obtain ⟨h1, h2, hi⟩ := HI.out
  have hp1 : LP w1 h g (zrD s f z 0) f z 0 0 (F1.since w w1) F2 := ⟨hd1, hl1, (HP.out.apart.symm.since HP.out.lg.isIn).symm, .inl rfl, HP.out.one⟩
  refine ⟨rfl, hp1.ld h1 h2 hi (fun _ hk => hk) hc1.size, hc1.mono fun k _ hk => ?_⟩
  rcases hk with hk | hk
  · exact h1 k hk
  · exact h2 k hk

end Go.Proofs.Ytdcmjmanalijfaa

/- Package journal: a journal's struct, its disk, its slots, its log. -/
namespace Go.Proofs.Ytdcmjmanalijfaa
open Go.RowKit

/-- The journal's own block: slots at ms, a log at ml, c ops, the slice of ends. -/
def JO (F : Fp) (w : World) (j ms ml c : Nat) (sv : Value) : Prop :=
  ObjF F w j 79 #[.pointer (some ⟨ms, 0, none⟩), .pointer (some ⟨ml, 0, none⟩), .int .i64 (c : Int), sv] []
/-- The journal at j, on the disk at g: slots of q bytes at ms, a log of z bytes from f on at ml of which u are used; c ops in all, the ends of those that were only started. -/
def JM (F : Fp) (w : World) (j ms ml g : Nat) (t : DkS) (q f z u c : Nat) (sv : Value) : Prop :=
  ∃ F1 F2 F4 : Fp, LD F1 w ml g t f z u ∧ Sl F2 w ms g 0 q ∧ JO F4 w j ms ml c sv ∧ (F2.apart F1 ∧ F4.apart F1 ∧ F4.apart F2) ∧ ((∀ k, F1 k → F k) ∧ (∀ k, F2 k → F k) ∧ (∀ k, F4 k → F k)) ∧ F.isIn w

/-- None was only started. -/
abbrev JN (F : Fp) (w : World) (j ms ml g : Nat) (t : DkS) (q f z u c : Nat) : Prop := JM F w j ms ml g t q f z u c (.slice none 0 0)

section
variable {F G : Fp} {w w' : World} {j ms ml g q f z u u' c c' : Nat} {t t' : DkS} {sv : Value}
theorem JO.chg (h : JO F w j ms ml c sv) (hc : Chg G w w') (ha : F.apart G) : JO F w' j ms ml c sv := ObjF.chg h hc ha
theorem JO.ext (h : JO F w j ms ml c sv) (hx : Ext w w') : JO F w' j ms ml c sv := ObjF.ext h hx
theorem JO.isIn (h : JO F w j ms ml c sv) : F.isIn w := ObjF.isIn h
theorem JM.isIn (h : JM F w j ms ml g t q f z u c sv) : F.isIn w := by
  obtain ⟨F1, F2, F4, h1, h2, h4, h5, h6, h7⟩ := h
  exact h7
theorem JM.chg (h : JM F w j ms ml g t q f z u c sv) (hc : Chg G w w') (ha : F.apart G) : JM F w' j ms ml g t q f z u c sv := by
  obtain ⟨F1, F2, F4, h1, h2, h4, h5, ⟨s1, s2, s4⟩, h7⟩ := h
  exact ⟨F1, F2, F4, h1.chg hc (fun k hk => ha k (s1 k hk)), h2.chg hc (fun k hk => ha k (s2 k hk)), h4.chg hc (fun k hk => ha k (s4 k hk)), h5, ⟨s1, s2, s4⟩, h7.chg hc⟩
theorem JM.ext (h : JM F w j ms ml g t q f z u c sv) (hx : Ext w w') : JM F w' j ms ml g t q f z u c sv := h.chg (G := fun _ => False) (Chg.of_ext hx) (fun _ _ h => h)
theorem JM.mono (h : JM F w j ms ml g t q f z u c sv) (hf : ∀ k, F k → G k) (hi : G.isIn w) : JM G w j ms ml g t q f z u c sv := by
  obtain ⟨F1, F2, F4, h1, h2, h4, h5, ⟨s1, s2, s4⟩, h7⟩ := h
  exact ⟨F1, F2, F4, h1, h2, h4, h5, ⟨fun k hk => hf k (s1 k hk), fun k hk => hf k (s2 k hk), fun k hk => hf k (s4 k hk)⟩, hi⟩
theorem JM.later (h : JM F w j ms ml g t q f z u c sv) (hx : Ext w w') : JM (F.since w w') w' j ms ml g t q f z u c sv := (h.ext hx).mono (fun _ hk => .inl hk) (h.isIn.since hx.size)
theorem JM.step {w0 : World} (h : JM ((F.since w0 w).since w w') w' j ms ml g t q f z u c sv) (hi : F.isIn w0) (h1 : w0.heap.size ≤ w.heap.size) (h2 : w.heap.size ≤ w'.heap.size) : JM (F.since w0 w') w' j ms ml g t q f z u c sv :=
  h.mono (Fp.since_since h1 h2) (hi.since (Nat.le_trans h1 h2))
theorem JM.ld (h : JM F w j ms ml g t q f z u c sv) : LD F w ml g t f z u := by
  obtain ⟨F1, F2, F4, h1, h2, h4, h5, ⟨s1, s2, s4⟩, h7⟩ := h
  exact h1.mono s1 h7
theorem JM.dk (h : JM F w j ms ml g t q f z u c sv) : Dk F w g t := h.ld.dk
theorem JM.jo (h : JM F w j ms ml g t q f z u c sv) : JO F w j ms ml c sv := by
  obtain ⟨F1, F2, F4, h1, h2, h4, h5, ⟨s1, s2, s4⟩, h7⟩ := h
  exact ObjF.mono h4 s4 h7
theorem JM.blk (h : JM F w j ms ml g t q f z u c sv) : Blk w j 79 #[.pointer (some ⟨ms, 0, none⟩), .pointer (some ⟨ml, 0, none⟩), .int .i64 (c : Int), sv] := ObjF.blk h.jo
theorem JM.c0 (h : JM F w j ms ml g t q f z u c sv) : w.cell? ⟨j, 0, none⟩ = some (.pointer (some ⟨ms, 0, none⟩)) := h.blk.cell 0
theorem JM.c1 (h : JM F w j ms ml g t q f z u c sv) : w.cell? ⟨j, 1, none⟩ = some (.pointer (some ⟨ml, 0, none⟩)) := h.blk.cell 1
theorem JM.c2 (h : JM F w j ms ml g t q f z u c sv) : w.cell? ⟨j, 2, none⟩ = some (.int .i64 (c : Int)) := h.blk.cell 2
theorem JM.c3 (h : JM F w j ms ml g t q f z u c sv) : w.cell? ⟨j, 3, none⟩ = some sv := h.blk.cell 3
theorem JM.fr (h : JM F w j ms ml g t q f z u c sv) (i : Nat) : w.frozen? ⟨j, i, none⟩ = false := h.blk.frozen i
theorem JM.lens (h : JM F w j ms ml g t q f z u c sv) : 1 ≤ t.1.length ∧ t.1.length ≤ 65536 := h.ld.lens

/-- A call turns the log, and the disk. -/
theorem JM.log (h : JM F w j ms ml g t q f z u c sv) : ∃ G : Fp, (∀ k, G k → F k) ∧ LD G w ml g t f z u ∧ ∀ (w' : World) (t' : DkS) (u' : Nat), LD (G.since w w') w' ml g t' f z u' → Chg G w w' → JM (F.since w w') w' j ms ml g t' q f z u' c sv ∧ Chg F w w' := by
  obtain ⟨F1, F2, F4, h1, h2, h4, ⟨a21, a41, a42⟩, ⟨s1, s2, s4⟩, h7⟩ := h
  refine ⟨F1, s1, h1, ?_⟩
  intro w' t' u' hl hc
  refine ⟨⟨_, F2, F4, hl, h2.chg hc a21, h4.chg hc a41, ⟨fun k hk hg => ?_, fun k hk hg => ?_, a42⟩, ⟨fun k hk => ?_, fun k hk => .inl (s2 k hk), fun k hk => .inl (s4 k hk)⟩, h7.since hc.size⟩, hc.mono fun k _ hk => s1 k hk⟩
  · rcases hg with hg | hg
    · exact a21 k hk hg
    · have := h7 k (s2 k hk)
      omega
  · rcases hg with hg | hg
    · exact a41 k hk hg
    · have := h7 k (s4 k hk)
      omega
  · rcases hk with hk | hk
    · exact .inl (s1 k hk)
    · exact .inr hk
/-- A call turns the slots, and the disk; nothing waits. -/
theorem JM.slots (h : JM F w j ms ml g t q f z u c sv) (hs : t.2.1 = []) (hz1 : 1 ≤ z) : ∃ G : Fp, (∀ k, G k → F k) ∧ SD G w ms g t 0 q ∧ ∀ (w' : World) (t' : DkS), SD (G.since w w') w' ms g t' 0 q → Chg G w w' → JM (F.since w w') w' j ms ml g t' q f z u c sv ∧ Chg F w w' := by
  obtain ⟨F1, F2, F4, h1, h2, h4, ⟨a21, a41, a42⟩, ⟨s1, s2, s4⟩, h7⟩ := h
  obtain ⟨D, L, d1, d2, d3, d4, d5, d6⟩ := h1.parts hs
  have hG : ∀ k, (D k ∨ F2 k) → F k := fun k hk => hk.elim (fun hd => s1 k (d4 k hd)) (s2 k)
  refine ⟨fun k => D k ∨ F2 k, hG, ⟨D, F2, d1, h2, fun k hk hd => a21 k hk (d4 k hd), fun _ => .inl, fun _ => .inr, fun k hk => h7 k (hG k hk)⟩, ?_⟩
  rintro w' t' ⟨G1, G2, g1, g2, g21, e1, e2, gi⟩ hc
  have bL : L.apart (fun k => D k ∨ F2 k) := fun k hk hh => hh.elim (d3 k hk) (fun h2' => a21 k h2' (d5 k hk))
  have b4 : F4.apart (fun k => D k ∨ F2 k) := fun k hk hh => hh.elim (fun hd => a41 k hk (d4 k hd)) (a42 k hk)
  have nL : ∀ k, L k → ¬ Fp.since (fun k => D k ∨ F2 k) w w' k := fun k hk hh => hh.elim (bL k hk) (fun h' => by have := d6 k (d5 k hk); omega)
  have n4 : ∀ k, F4 k → ¬ Fp.since (fun k => D k ∨ F2 k) w w' k := fun k hk hh => hh.elim (b4 k hk) (fun h' => by have := h7 k (s4 k hk); omega)
  have hin : (F.since w w').isIn w' := h7.since hc.size
  have sG : ∀ k, Fp.since (fun k => D k ∨ F2 k) w w' k → F.since w w' k := fun k hk => hk.elim (fun hh => .inl (hG k hh)) .inr
  refine ⟨⟨fun k => G1 k ∨ L k, G2, F4, ⟨G1, L, u, g1, d2.chg hc bL, fun k hk hg => nL k hk (e1 k hg), fun _ => .inl, fun _ => .inr, fun k hk => ?_, .inl rfl, hz1⟩, g2, h4.chg hc b4, ⟨fun k hk hg => ?_, fun k hk hg => ?_, fun k hk hg => n4 k hk (e2 k hg)⟩, ⟨fun k hk => ?_, fun k hk => sG k (e2 k hk), fun k hk => .inl (s4 k hk)⟩, hin⟩, hc.mono fun k _ hk => hG k hk⟩
  · exact hk.elim (fun hh => hin k (sG k (e1 k hh))) (fun hh => hin k (.inl (s1 k (d5 k hh))))
  · exact hg.elim (g21 k hk) (fun hh => nL k hh (e2 k hk))
  · exact hg.elim (fun hh => n4 k hk (e1 k hh)) (fun hh => a41 k hk (d5 k hh))
  · exact hk.elim (fun hh => sG k (e1 k hh)) (fun hh => .inl (s1 k (d5 k hh)))
/-- How many ops there are, and the slice of ends, are written. -/
theorem JM.setCount (h : JM F w j ms ml g t q f z u c sv) (c' : Nat) : JN F ((w.setCell ⟨j, 2, none⟩ (.int .i64 (c' : Int))).setCell ⟨j, 3, none⟩ (.slice none 0 0)) j ms ml g t q f z u c' ∧ Chg F w ((w.setCell ⟨j, 2, none⟩ (.int .i64 (c' : Int))).setCell ⟨j, 3, none⟩ (.slice none 0 0)) := by
  obtain ⟨F1, F2, F4, h1, h2, h4, ⟨a21, a41, a42⟩, ⟨s1, s2, s4⟩, h7⟩ := h
  obtain ⟨g4, hc⟩ := ObjF.setCell h4 2 (.int .i64 (c' : Int))
  obtain ⟨g5, hc5⟩ := ObjF.setCell g4 3 (.slice none 0 0)
  have hc' := hc.trans hc5 (fun _ _ h => h)
  exact ⟨⟨F1, F2, F4, h1.chg hc' a41.symm, h2.chg hc' a42.symm, g5, ⟨a21, a41, a42⟩, ⟨s1, s2, s4⟩, h7.chg hc'⟩, hc'.mono fun k _ hk => s4 k hk⟩
/-- The slice of ends is written. -/
theorem JM.setEnds (h : JM F w j ms ml g t q f z u c sv) (sv' : Value) : JM F (w.setCell ⟨j, 3, none⟩ sv') j ms ml g t q f z u c sv' ∧ Chg (fun k => k = j) w (w.setCell ⟨j, 3, none⟩ sv') ∧ F j := by
  obtain ⟨F1, F2, F4, h1, h2, h4, ⟨a21, a41, a42⟩, ⟨s1, s2, s4⟩, h7⟩ := h
  obtain ⟨g4, hc⟩ := ObjF.setCell h4 3 sv'
  exact ⟨⟨F1, F2, F4, h1.chg hc a41.symm, h2.chg hc a42.symm, g4, ⟨a21, a41, a42⟩, ⟨s1, s2, s4⟩, h7.chg hc⟩, (Chg.refl _ w).setCell (fun _ => rfl), s4 j h4.here⟩
end

section
variable {F G : Fp} {w w' : World} {j ms ml g q f z u u' c c' : Nat} {t t' : DkS}
theorem JN.chg (h : JN F w j ms ml g t q f z u c) (hc : Chg G w w') (ha : F.apart G) : JN F w' j ms ml g t q f z u c := JM.chg h hc ha
theorem JN.ext (h : JN F w j ms ml g t q f z u c) (hx : Ext w w') : JN F w' j ms ml g t q f z u c := JM.ext h hx
theorem JN.mono (h : JN F w j ms ml g t q f z u c) (hf : ∀ k, F k → G k) (hi : G.isIn w) : JN G w j ms ml g t q f z u c := JM.mono h hf hi
theorem JN.later (h : JN F w j ms ml g t q f z u c) (hx : Ext w w') : JN (F.since w w') w' j ms ml g t q f z u c := JM.later h hx
theorem JN.step {w0 : World} (h : JN ((F.since w0 w).since w w') w' j ms ml g t q f z u c) (hi : F.isIn w0) (h1 : w0.heap.size ≤ w.heap.size) (h2 : w.heap.size ≤ w'.heap.size) : JN (F.since w0 w') w' j ms ml g t q f z u c := JM.step h hi h1 h2
theorem JN.log (h : JN F w j ms ml g t q f z u c) : ∃ G : Fp, (∀ k, G k → F k) ∧ LD G w ml g t f z u ∧ ∀ (w' : World) (t' : DkS) (u' : Nat), LD (G.since w w') w' ml g t' f z u' → Chg G w w' → JN (F.since w w') w' j ms ml g t' q f z u' c ∧ Chg F w w' := JM.log h
theorem JN.slots (h : JN F w j ms ml g t q f z u c) (hs : t.2.1 = []) (hz1 : 1 ≤ z) : ∃ G : Fp, (∀ k, G k → F k) ∧ SD G w ms g t 0 q ∧ ∀ (w' : World) (t' : DkS), SD (G.since w w') w' ms g t' 0 q → Chg G w w' → JN (F.since w w') w' j ms ml g t' q f z u c ∧ Chg F w w' := JM.slots h hs hz1
end

/-- Why an op of n bytes may not be added. -/
def jwE (z u c n : Nat) : Int := if 1 ≤ n ∧ n ≤ 3900 then (if jroom z u c n = true then 0 else 3) else 1
theorem jwE_eq {z u c : Nat} {p : List UInt8} (hc : c < 9007199254740992) : jwE z u c p.length = jE z u c p := by
  unfold jwE
  by_cases h : 1 ≤ p.length ∧ p.length ≤ 3900
  · rw [if_pos h, jroom_e hc]
    have h0 := jE_put (z := z) (u := u) hc h
    rcases putE_cases z u (payB c p) with h1 | h1 | h1
    · rw [h0, h1]; rfl
    · exfalso
      have := payB_ok hc h
      rw [putE, if_neg (by rw [frameB_nil]; exact fun h' => h' this)] at h1
      split at h1 <;> simp at h1
    · rw [h0, h1]; rfl
  · rw [if_neg h, jE, if_pos h]
theorem jwE_room (z u c n : Nat) : (jwE z u c n == 0) = jroom z u c n := by
  unfold jwE
  by_cases h : 1 ≤ n ∧ n ≤ 3900
  · rw [if_pos h]
    cases jroom z u c n <;> rfl
  · rw [if_neg h, jroom, decide_eq_false (by omega)]
    rfl
theorem jE_cases (z u c : Nat) (p : List UInt8) : jE z u c p = 0 ∨ jE z u c p = 1 ∨ jE z u c p = 3 := by
  unfold jE
  split
  · exact .inr (.inl rfl)
  · split
    · exact .inr (.inr rfl)
    · exact .inl rfl

end Go.Proofs.Ytdcmjmanalijfaa

/- Package journal: slices.BinarySearch at most at one number; how many ops there are, has one room, without what was only started. -/
namespace Go.Proofs.Ytdcmjmanalijfaa
open Go.RowKit

theorem isOp_any (n : Int) (w : World) : Calls Try.prog 63 #[.int .i64 n] w fun e w' => e = .returned (.bool (decide (1 ≤ n ∧ n ≤ 3900))) ∧ w = w' := by
  by_cases h1 : 1 ≤ n
  · by_cases h2 : n ≤ 3900
    · have hd : decide (1 ≤ n ∧ n ≤ 3900) = true := decide_eq_true ⟨h1, h2⟩
      rw [hd]
      clear hd
      go_enter Try.func63, Try.ntmps63
      go_wp2
      go_ret
      exact ⟨rfl, rfl⟩
    · have hd : decide (1 ≤ n ∧ n ≤ 3900) = false := decide_eq_false (by omega)
      rw [hd]
      clear hd
      have h3 : 3900 < n := by omega
      go_enter Try.func63, Try.ntmps63
      go_wp2
      go_ret
      exact ⟨rfl, rfl⟩
  · have hd : decide (1 ≤ n ∧ n ≤ 3900) = false := decide_eq_false (by omega)
    rw [hd]
    clear hd
    have h3 : n < 1 := by omega
    go_enter Try.func63, Try.ntmps63
    go_wp2
    go_ret
    exact ⟨rfl, rfl⟩

theorem isNaN_any (a : Int) (w : World) : Calls Try.prog 98 #[.int .i64 a] w fun e w' => e = .returned (.bool false) ∧ Ext w w' := by
  have hb : (a != a) = false := by simp
  go_enter Try.func98, Try.ntmps98
  go_wp2
  go_ret
  exact ⟨rfl, Ext.refl _⟩
theorem Less_any (a b : Int) (w : World) : Calls Try.prog 92 #[.int .i64 a, .int .i64 b] w fun e w' => e = .returned (.bool (decide (a < b))) ∧ Ext w w' := by
  go_enter Try.func92, Try.ntmps92
  go_wp2_with fail
  refine (isNaN_any a _).mono ?_
  rintro e w1 ⟨rfl, hx1⟩
  go_wp2
  all_goals
    go_ret
    exact ⟨rfl, hx1⟩

/-- Nothing is found in what is empty. -/
theorem Bs_nil (x : Int) (w : World) : Calls Try.prog 76 #[.slice none 0 0, .int .i64 x] w fun e w' => e = .returned (.tuple #[.int .i64 0, .bool false]) ∧ Ext w w' := by
  go_enter Try.func76, Try.ntmps76
  go_wp2
  go_loop [7, 8] (fun i j => i = .int .i64 0 ∧ j = .int .i64 0) (fun _ _ => 0)
  case atStart => exact ⟨rfl, rfl⟩
  case round =>
    obtain ⟨rfl, rfl⟩ := hrel
    go_wp2
    go_ret2
    exact ⟨rfl, Ext.refl _⟩

/-- One lower number: behind it. -/
theorem Bs_one (a x : Int) (b o c : Nat) (w : World) (hc : w.cell? ⟨b, o, none⟩ = some (.int .i64 a)) (hx : a < x) (hb : b < w.heap.size) : Calls Try.prog 76 #[.slice (some ⟨b, o, none⟩) 1 c, .int .i64 x] w fun e w' => e = .returned (.tuple #[.int .i64 1, .bool false]) ∧ Ext w w' := by
  have hd : decide (a < x) = true := decide_eq_true hx
  go_enter Try.func76, Try.ntmps76
  go_wp2
  go_loopw [7, 8] (fun i j w' => Ext w w' ∧ ((i = .int .i64 0 ∧ j = .int .i64 1) ∨ (i = .int .i64 1 ∧ j = .int .i64 1))) (fun i _ _ => 1 - (intOf i).toNat)
  case atStart => exact ⟨Ext.refl _, .inl ⟨rfl, rfl⟩⟩
  case round =>
    obtain ⟨hxx, ⟨rfl, rfl⟩ | ⟨rfl, rfl⟩⟩ := hrel
    · have hcc := (hxx.cell (p := ⟨b, o, none⟩) hb).trans hc
      go_wp2_with fail
      refine (Less_any a x _).mono ?_
      rintro e w1 ⟨rfl, hx1⟩
      go_wp2
      go_roundw
      case rel => exact ⟨hxx.trans hx1, .inr ⟨rfl, rfl⟩⟩
      case measure => simp [intOf]
    · go_wp2
      go_ret2
      exact ⟨rfl, hxx⟩

end Go.Proofs.Ytdcmjmanalijfaa
