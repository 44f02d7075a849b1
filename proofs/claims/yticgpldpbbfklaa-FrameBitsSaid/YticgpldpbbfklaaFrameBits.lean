/- For every input FrameBits returns true: a frame with one bit of its payload, or behind that, turned is none. No condition. -/
import Derived.Test.YticgpldpbbfklaaAlive03
import Derived.Test.YticgpldpbbfklaaMem2
import Derived.Test.YticgpldpbbfklaaP03b
import Derived.Test.YticgpldpbbfklaaLift
namespace Go.Proofs.Yticgpldpbbfklaa
open Go.ChangeShapes Go.WideShapes Go.ChangeAt Go.RowKit

theorem bit_all : ∀ (x : Fin 256) (s : Fin 8), bits .xor .u8 ((x.val : Nat) : Int) (2 ^ s.val % 256) = (((x.val ^^^ 2 ^ s.val) : Nat) : Int) := by decide +kernel
theorem bit_xor (x : UInt8) (s : Nat) (h : s < 8) : bits .xor .u8 (x.toNat : Int) (2 ^ s % 256) = ((x ^^^ UInt8.ofNat (2 ^ s)).toNat : Int) := by
  have h1 := bit_all ⟨x.toNat, x.toNat_lt⟩ ⟨s, h⟩
  simp only at h1
  have h2 : 2 ^ s ≤ 2 ^ 7 := Nat.pow_le_pow_right (by omega) (by omega)
  rw [h1, UInt8.toNat_xor, u8_toNat, Nat.mod_eq_of_lt (by omega)]
theorem bit_ne (s : Nat) (h : s < 8) : UInt8.ofNat (2 ^ s) ≠ 0 := by
  intro e
  have h1 := congrArg UInt8.toNat e
  have h2 : 2 ^ s ≤ 2 ^ 7 := Nat.pow_le_pow_right (by omega) (by omega)
  have h3 : 0 < 2 ^ s := Nat.pow_pos (by omega)
  rw [u8_toNat, Nat.mod_eq_of_lt (by omega)] at h1
  have : (0 : UInt8).toNat = 0 := rfl
  omega

theorem FrameBits_skip (p : List UInt8) (i : Int) (v : Value) (w : World) (hr : Rd w v (p.map B)) (lo : -9223372036854775808 ≤ i) (hi : i ≤ 9223372036854775807) (N : Nat) (hN : (frameB p).length = N)
    (h : N = 0 ∨ (0 < N ∧ 120 < N) ∨ (0 < N ∧ N ≤ 120 ∧ p.length + 5 ≤ N ∧ i < 8 * ((N : Int) - p.length - 5)) ∨ (0 < N ∧ N ≤ 120 ∧ p.length + 5 ≤ N ∧ 8 * ((N : Int) - p.length - 5) ≤ i ∧ 8 * (N : Int) ≤ i)) (hle : N ≤ 5000) (hp : p.length ≤ 9223372036854775807) :
    Calls Try.prog 7 #[v, .int .i64 i] w fun e w' => e = .returned (.bool true) ∧ Ext w w' := by
  obtain ⟨A, c, rfl, hlc, hcm⟩ := hr.sliceN (List.length_map _)
  unfold maxLen at hcm
  have HN := Lib.hid hN
  clear hN
  rcases h with h | ⟨h, h2⟩ | ⟨h, h2, h3, h4⟩ | ⟨h, h2, h3, h4, h5⟩
  case' inl => subst h
  all_goals
    go_enter Try.func7, Try.ntmps7
    go_wp2_with fail
    refine (alive_any _).mono ?_
    rintro e w1 ⟨rfl, hx1⟩
    go_wp2_with fail
    refine (FramePut_rd p _ _ (hr.ext hx1)).mono ?_
    rintro e w3 ⟨v3, rfl, hr3, hx3⟩
    obtain ⟨A3, c3, rfl, _, _⟩ := hr3.sliceN (by rw [List.length_map, HN.out])
    have hx3 := Ext.trans hx1 hx3
    clear hr3
    go_wp2
    go_ret
    exact ⟨rfl, hx3⟩

set_option maxHeartbeats 1000000 in
theorem FrameBits_main (p : List UInt8) (m : Nat) (v : Value) (w : World) (hr : Rd w v (p.map B)) (hp : 1 ≤ p.length ∧ p.length ≤ 4000) (N : Nat) (hN : (frameB p).length = N) (h120 : N ≤ 120) (hlo : 8 * (N - p.length - 5) ≤ m) (hhi : m < 8 * N) :
    Calls Try.prog 7 #[v, .int .i64 (m : Int)] w fun e w' => e = .returned (.bool true) ∧ Ext w w' := by
  obtain ⟨A, c, rfl, hlc, hcm⟩ := hr.sliceN (List.length_map _)
  unfold maxLen at hcm
  have hl := frameB_len hp
  have hj := numB_pos p.length
  have hk : m / 8 < (frameB p).length := by omega
  have hturn := fun (d : UInt8) (hd : (frameB p)[m / 8]? ≠ some d) => getF_turned hp (m / 8) d (by omega) hk hd
  have HT := Lib.hid hturn
  have HN := Lib.hid hN
  have hpN : p.length + 5 ≤ N := by omega
  have h0N : 0 < N := by omega
  have hlo2 : 8 * ((N : Int) - (p.length : Int) - 5) ≤ (m : Int) := by omega
  have hhi2 : (m : Int) < 8 * (N : Int) := by omega
  have hN0 : ((N : Int) == 0) = false := by rw [beq_eq_false_iff_ne]; omega
  clear hturn hN hl hj hlo hhi
  go_enter Try.func7, Try.ntmps7
  go_wp2_with fail
  refine (alive_any _).mono ?_
  rintro e w1 ⟨rfl, hx1⟩
  go_wp2_with fail
  refine (FramePut_any p _ _ (hr.ext hx1)).mono ?_
  rintro e w3 ⟨v3, rfl, hg3⟩
  obtain ⟨g, cap, rfl, hcap, hg1, hg2⟩ := hg3.form (by rw [List.length_map, HN.out]; exact h0N)
  rw [List.length_map, HN.out] at hcap hg3 ⊢
  have hcell := hg3.cellAt (m / 8) (by rw [List.length_map]; exact hk)
  have hfr := hg3.frozenAt (m / 8)
  rw [List.getElem?_map, List.getElem?_eq_getElem hk, Option.map_some] at hcell
  have hset := fun u => hg3.set (m / 8) u
  have HS := Lib.hid hset
  have HT2 := Lib.hid (HT.out)
  clear hset HT
  generalize hx : (frameB p)[m / 8] = x at hcell
  have HX := Lib.hid hx
  clear hx
  simp only [B] at hcell
  go_wp2_with fail
  rw [bit_xor x (m % 8) (by omega)]
  have hne : x ^^^ UInt8.ofNat (2 ^ (m % 8)) ≠ x := xor_ne _ _ (bit_ne (m % 8) (by omega))
  generalize x ^^^ UInt8.ofNat (2 ^ (m % 8)) = y at *
  have hg4 := HS.out (B y)
  rw [← List.map_set] at hg4
  have hr4 := Rd.own hg4.own
  have hx4 := Ext.trans hx1 hg4.ext
  have hturn := HT2.out y (by rw [List.getElem?_eq_getElem hk, HX.out]; intro e; exact hne (Option.some.inj e).symm)
  refine (FrameGet_rd _ _ 0 _ hr4).mono ?_
  rintro e w5 ⟨v5, rfl, hr5, hx5⟩
  have hc := getF_cases ((frameB p).set (m / 8) y) 0
  rcases hc with ⟨hc, _⟩ | ⟨hc1, hc2, _⟩
  · exact absurd hc hturn
  · rw [hc1] at hr5
    rw [hc2]
    obtain ⟨A5, c5, rfl, _, _⟩ := hr5.sliceN (n := 0) rfl
    have hx5 := Ext.trans hx4 hx5
    have hb1 : ((getF ((frameB p).set (m / 8) y) 0).2.2 == 1) = false := by rw [beq_eq_false_iff_ne]; exact hturn
    have hb2 : ((getF ((frameB p).set (m / 8) y) 0).2.2 != 1) = true := by rw [bne_iff_ne]; exact hturn
    clear hc1 hc2 hr5 hr4 hg4 HS HT2 hturn hx4 hg3
    generalize (getF ((frameB p).set (m / 8) y) 0).2.2 = t at *
    go_wp2
    go_ret
    exact ⟨by simp [hb2], hx5⟩

theorem FrameBits_calls (p : List UInt8) (i : Int) (v : Value) (w : World) (hr : Rd w v (p.map B)) (lo : -9223372036854775808 ≤ i) (hi : i ≤ 9223372036854775807) :
    Calls Try.prog 7 #[v, .int .i64 i] w fun e w' => e = .returned (.bool true) ∧ Ext w w' := by
  have hpl : p.length ≤ 9223372036854775807 := by
    obtain ⟨A, c, _, hlc, hcm⟩ := hr.sliceN (List.length_map _)
    unfold maxLen at hcm
    omega
  by_cases hp : 1 ≤ p.length ∧ p.length ≤ 4000
  · have hl := frameB_len hp
    have hj := numB_pos p.length
    have h8 := numB_len8 (n := p.length) (by omega)
    by_cases h : (frameB p).length ≤ 120 ∧ 8 * (((frameB p).length : Int) - p.length - 5) ≤ i ∧ i < 8 * ((frameB p).length : Int)
    · obtain ⟨m, rfl⟩ : ∃ m : Nat, i = m := ⟨i.toNat, by omega⟩
      exact FrameBits_main p m v w hr hp _ rfl h.1 (by omega) (by omega)
    · exact FrameBits_skip p i v w hr lo hi _ rfl (by omega) (by omega) hpl
  · have h0 : (frameB p).length = 0 := by rw [frameB_no hp]; rfl
    exact FrameBits_skip p i v w hr lo hi _ h0 (.inl rfl) (by omega) hpl

set_option maxRecDepth 100000 in
theorem FrameBits_lifted (os : Os) (started : os.Started) (H : Type) (enc : TypeId × Value → H) :
    ReturnsInHanded {} Try.checked os 7 .any (Rows.frameBitsSpec.pre6 enc Try.prog Try.f7 Rows.frameBitsRow.domain false) (Rows.frameBitsSpec.post enc Try.prog Try.f7 false true false false) := by
  refine law_lift (C := Try.checked) (tb := 4) Try.ownKnob started (by kernel_rfl) Try.func7 Try.laidOut (by kernel_rfl) rfl Try.underlying4 rfl rfl ?_
    (ChangeSpec.witness6 (enc := enc) (C := Try.checked) false ⟨#[], #[.slice none 0 0, .int .i64 0], []⟩ 8 (by kernel_rfl) (by kernel_rfl) (by kernel_rfl) (by kernel_rfl)) ?_
  · intro ds hd
    rw [Try.params7] at hd
    match ds, hd with
    | [d0, d1], _ => rfl
  · intro W base args ds p hval hA hsz
    rw [Try.params7] at hA hval hsz
    obtain ⟨v0, vs0, d0, ds0, p0, q0, hargs, rfl, rfl, h0, r0_⟩ := trodAll_cons hA
    obtain ⟨v1, vs1, d1, ds1, p1, q1, rfl, rfl, rfl, h1, r1_⟩ := trodAll_cons r0_
    obtain ⟨rfl, rfl, rfl⟩ := trodAll_nil r1_
    obtain rfl : args = #[v0, v1] := by cases args; simp_all
    obtain ⟨a0, r0, s0⟩ := dec_bytes Try.underlying22 Try.underlying5 (by kernel_rfl) (by kernel_rfl) (hval 0 22 v0 rfl rfl) h0 hsz (j := 0) rfl rfl
    obtain ⟨a1, rfl, lo1, hi1⟩ := dec_int Try.underlying3 (hval 1 3 v1 rfl rfl) h1
    exact FrameBits_calls a0 a1 _ W r0 lo1 hi1

theorem FrameBits_holds : Rows.FrameBitsSaid :=
  OpenClaim.holds_of_wide 7 Try.f7 rfl rfl rfl rfl rfl rfl rfl ⟨rfl, rfl, rfl, rfl, rfl⟩ rfl rfl rfl rfl rfl (by kernel_rfl) Try.func7 (by kernel_rfl)
    (of_decide_eq_true (by kernel_rfl)) (by unfold Func.isWrapper; first | (rw [if_pos (by decide +kernel)]; kernel_rfl) | (rw [if_neg (by decide +kernel)]; exact ⟨rfl, rfl⟩))
    (fun os started H enc _ => FrameBits_lifted os started H enc)

end Go.Proofs.Yticgpldpbbfklaa
