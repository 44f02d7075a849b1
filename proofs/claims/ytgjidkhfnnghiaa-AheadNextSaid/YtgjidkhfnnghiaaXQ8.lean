/- Texts that the proof of X rests on, one behind the other. -/
import Derived.Test.YtgjidkhfnnghiaaXQ7

/- Layers 14 to 20, the statements: fleets and states as arguments. -/
namespace Go.Proofs.Ytgjidkhfnnghiaa
open Go.Joins Go.ChangeShapes Go.WideShapes Go.ChangeAt Go.RowKit Go.Deep

section
variable {H : Type} {enc : TypeId × Value → H} {w : World} {base : Nat} {held : Bool} {r : Reach} {b0 : Nat}
set_option maxRecDepth 100000 in
theorem dec_conf {v : Value} {d : DataW H} {p : List MemPlace} (hv : Value.okWide Try.prog w r b0 23 v) (h : DataW.Trod enc Try.prog w base (fun _ => true) held 23 v d p) : ∃ c : Cf, v = cfV c := by
  obtain ⟨l, hl, rfl⟩ := dec_nums Try.underlying23 (by kernel_rfl) (by kernel_rfl) (ti := 3) (by kernel_rfl) Try.underlying3 hv h
  match l, hl with
  | [a, b, c, d, e, f, g, h, i], _ => exact ⟨⟨a, b, c, d, e, f, g, h, i⟩, rfl⟩
theorem tr_int {m : Nat} {u : Value} {y : DataW H × List MemPlace} (h : DataW.trod enc Try.prog w base (fun _ => true) held m 3 [u] = some y) : ∃ z : Int, u = .int .i64 z := by
  obtain ⟨z, hz, _, _⟩ := DataW.trod_int Try.underlying3 h
  simp only [List.cons.injEq, and_true] at hz
  exact ⟨z, hz⟩
theorem tr_bool {m : Nat} {u : Value} {y : DataW H × List MemPlace} (h : DataW.trod enc Try.prog w base (fun _ => true) held m 4 [u] = some y) : ∃ z : Bool, u = .bool z := by
  obtain ⟨z, hz, _⟩ := DataW.trod_bool Try.underlying4 h
  simp only [List.cons.injEq, and_true] at hz
  exact ⟨z, hz⟩
theorem tr_nodes {m : Nat} {V : Value} {x : DataW H × List MemPlace} (h : DataW.trod enc Try.prog w base (fun _ => true) held m 24 [V] = some x) : ∃ l : List Nd, RdNd w V l := by
  obtain ⟨A, n, c, hV, hnc, hcm, hx⟩ := structs_tr Try.underlying24 Try.underlying37 (by kernel_rfl) (by kernel_rfl) (by decide) h
  obtain ⟨l, _, hr⟩ := rdS_of (f := Nd.cells) (K := 5) Nd.len hV hnc hcm fun hn => by
    obtain ⟨b, o, hA, hb, hc⟩ := hx hn
    refine ⟨b, o, hA, hb, fun i hi => ?_⟩
    obtain ⟨u0, k0, y0, c0, t0⟩ := hc i hi 0 _ rfl
    obtain ⟨u1, k1, y1, c1, t1⟩ := hc i hi 1 _ rfl
    obtain ⟨u2, k2, y2, c2, t2⟩ := hc i hi 2 _ rfl
    obtain ⟨u3, k3, y3, c3, t3⟩ := hc i hi 3 _ rfl
    obtain ⟨u4, k4, y4, c4, t4⟩ := hc i hi 4 _ rfl
    obtain ⟨z0, rfl⟩ := tr_bool t0
    obtain ⟨z1, rfl⟩ := tr_bool t1
    obtain ⟨z2, rfl⟩ := tr_bool t2
    obtain ⟨z3, rfl⟩ := tr_int t3
    obtain ⟨z4, rfl⟩ := tr_int t4
    refine ⟨⟨z0, z1, z2, z3, z4⟩, fun r u hu => ?_⟩
    have hr := (List.getElem?_eq_some_iff.1 hu).1
    rw [Nd.len] at hr
    match r, hr, hu with
    | 0, _, hu => cases hu; exact c0
    | 1, _, hu => cases hu; exact c1
    | 2, _, hu => cases hu; exact c2
    | 3, _, hu => cases hu; exact c3
    | 4, _, hu => cases hu; exact c4
  exact ⟨l, hr⟩
theorem tr_jobs {m : Nat} {V : Value} {x : DataW H × List MemPlace} (h : DataW.trod enc Try.prog w base (fun _ => true) held m 25 [V] = some x) : ∃ l : List Jb, RdJb w V l := by
  obtain ⟨A, n, c, hV, hnc, hcm, hx⟩ := structs_tr Try.underlying25 Try.underlying39 (by kernel_rfl) (by kernel_rfl) (by decide) h
  obtain ⟨l, _, hr⟩ := rdS_of (f := Jb.cells) (K := 12) Jb.len hV hnc hcm fun hn => by
    obtain ⟨b, o, hA, hb, hc⟩ := hx hn
    refine ⟨b, o, hA, hb, fun i hi => ?_⟩
    obtain ⟨u0, k0, y0, c0, t0⟩ := hc i hi 0 _ rfl
    obtain ⟨u1, k1, y1, c1, t1⟩ := hc i hi 1 _ rfl
    obtain ⟨u2, k2, y2, c2, t2⟩ := hc i hi 2 _ rfl
    obtain ⟨u3, k3, y3, c3, t3⟩ := hc i hi 3 _ rfl
    obtain ⟨u4, k4, y4, c4, t4⟩ := hc i hi 4 _ rfl
    obtain ⟨u5, k5, y5, c5, t5⟩ := hc i hi 5 _ rfl
    obtain ⟨u6, k6, y6, c6, t6⟩ := hc i hi 6 _ rfl
    obtain ⟨u7, k7, y7, c7, t7⟩ := hc i hi 7 _ rfl
    obtain ⟨u8, k8, y8, c8, t8⟩ := hc i hi 8 _ rfl
    obtain ⟨u9, k9, y9, c9, t9⟩ := hc i hi 9 _ rfl
    obtain ⟨ua, ka, ya, ca, ta⟩ := hc i hi 10 _ rfl
    obtain ⟨ub, kb, yb, cb, tb⟩ := hc i hi 11 _ rfl
    obtain ⟨z0, rfl⟩ := tr_int t0
    obtain ⟨z1, rfl⟩ := tr_int t1
    obtain ⟨z2, rfl⟩ := tr_int t2
    obtain ⟨z3, rfl⟩ := tr_int t3
    obtain ⟨z4, rfl⟩ := tr_int t4
    obtain ⟨z5, rfl⟩ := tr_int t5
    obtain ⟨z6, rfl⟩ := tr_int t6
    obtain ⟨z7, rfl⟩ := tr_int t7
    obtain ⟨z8, rfl⟩ := tr_int t8
    obtain ⟨z9, rfl⟩ := tr_int t9
    obtain ⟨za, rfl⟩ := tr_int ta
    obtain ⟨zb, rfl⟩ := tr_int tb
    refine ⟨⟨z0, z1, z2, z3, z4, z5, z6, z7, z8, z9, za, zb⟩, fun r u hu => ?_⟩
    have hr := (List.getElem?_eq_some_iff.1 hu).1
    rw [Jb.len] at hr
    match r, hr, hu with
    | 0, _, hu => cases hu; exact c0
    | 1, _, hu => cases hu; exact c1
    | 2, _, hu => cases hu; exact c2
    | 3, _, hu => cases hu; exact c3
    | 4, _, hu => cases hu; exact c4
    | 5, _, hu => cases hu; exact c5
    | 6, _, hu => cases hu; exact c6
    | 7, _, hu => cases hu; exact c7
    | 8, _, hu => cases hu; exact c8
    | 9, _, hu => cases hu; exact c9
    | 10, _, hu => cases hu; exact ca
    | 11, _, hu => cases hu; exact cb
  exact ⟨l, hr⟩
set_option maxRecDepth 100000 in
theorem dec_state {v : Value} {d : DataW H} {p : List MemPlace} (hv : Value.okWide Try.prog w r b0 27 v) (h : DataW.Trod enc Try.prog w base (fun _ => true) held 27 v d p) : ∃ vn vj s, v = stV vn vj s ∧ RdSt w vn vj s := by
  obtain ⟨cs, rfl, hsz⟩ := okWide_struct Try.underlying27 hv
  obtain ⟨fuel, hf⟩ := h
  obtain ⟨hl, hp⟩ := struct_parts Try.underlying27 (by kernel_rfl) (by kernel_rfl) hf
  obtain ⟨u0, k0, y0, c0, t0⟩ := hp 0 _ rfl
  obtain ⟨u1, k1, y1, c1, t1⟩ := hp 1 _ rfl
  obtain ⟨u2, k2, y2, c2, t2⟩ := hp 2 _ rfl
  obtain ⟨u3, k3, y3, c3, t3⟩ := hp 3 _ rfl
  obtain ⟨u4, k4, y4, c4, t4⟩ := hp 4 _ rfl
  obtain ⟨u5, k5, y5, c5, t5⟩ := hp 5 _ rfl
  obtain ⟨ln, hn⟩ := tr_nodes t0
  obtain ⟨lj, hj⟩ := tr_jobs t1
  obtain ⟨z2, rfl⟩ := tr_int t2
  obtain ⟨z3, rfl⟩ := tr_int t3
  obtain ⟨z4, rfl⟩ := tr_int t4
  obtain ⟨z5, rfl⟩ := tr_int t5
  refine ⟨u0, u1, ⟨ln, lj, z2, z3, z4, z5⟩, ?_, hn, hj⟩
  have hsz' : cs.toList.length = 6 := hl
  obtain ⟨l⟩ := cs
  match l, hsz' with
  | [a, b, c, d, e, f], _ =>
    simp only [Value.cells, List.getElem?_cons_zero, List.getElem?_cons_succ, Option.some.injEq] at c0 c1 c2 c3 c4 c5
    subst c0 c1 c2 c3 c4 c5
    rfl
end

end Go.Proofs.Ytgjidkhfnnghiaa
