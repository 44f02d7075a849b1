/- Go's bytes.Clone: a copy of its own. -/
import Derived.Test.YtkoppdhmbhgnfaaTu8
import Derived.Test.YtkoppdhmbhgnfaaMem2
import Derived.Lib.SliceRun
namespace Go.Proofs.Ytkoppdhmbhgnfaa
open Go.RowKit

theorem Clone_any (l : List UInt8) (v : Value) (w : World) (hr : Rd w v (l.map B)) (hlen : l.length ≤ 140737488355328) :
    Calls Try.prog 23 #[v] w fun e w' => ∃ v', e = .returned v' ∧ Grew w.heap.size 5 (.slice none 0 0) w (l.map B) v' w' := by
  have kn := fun (w : World) (a : Option Addr) (n c n' c' : Nat) => Lib.run_eql_slice_nil (P := Try.prog) w 30 5 a n c n' c' Try.underlying30
  obtain ⟨A, c, rfl, hlc, hcm⟩ := hr.sliceN (List.length_map _)
  unfold maxLen at hcm
  rcases A with _ | a
  · have h0 : l = [] := by
      rcases Nat.eq_zero_or_pos l.length with h | h
      · exact List.eq_nil_of_length_eq_zero h
      · obtain ⟨b, o, h, _⟩ := hr.get (by simpa using h)
        cases h
    subst h0
    have hg := Grew.nil (base := w.heap.size) (e := 5) w
    have HG := Lib.hid hg
    clear hg
    go_enter Try.func23, Try.ntmps23
    go_wp2
    go_ret
    exact ⟨_, rfl, HG.out⟩
  · have HR := Lib.hid hr
    clear hr
    go_enter Try.func23, Try.ntmps23
    go_wp2_with (at_builtin; refine app_u8 rfl _ _ rfl w.heap.size _ [] rfl (own_none _ _ _ rfl) _ l rfl (HR.out.ext ((Below.refl _ _).alloc (Nat.le_refl _) _)) (by simp; omega) (by simp) ?_; intro v2 w2 hg2; rw [List.nil_append] at hg2)
    go_ret
    exact ⟨_, rfl, Grew.from_empty rfl hg2⟩

end Go.Proofs.Ytkoppdhmbhgnfaa
