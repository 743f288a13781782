/- Then at any two matrices. -/
import Derived.Test.YtpdjooeogpidhaaMatThen
namespace Go.Proofs.Ytpdjooeogpidhaa
open Go.RowKit Dec

set_option maxHeartbeats 1000000 in
theorem then_one_bad (m n : MV) (w : World) (h : ¬ (m.Ok ∧ n.Ok)) :
    Calls Try.prog 7 #[m.val, n.val] w (IsM .zero 1 w) := by
  by_cases hm : m.Ok
  · have hn : ¬ n.Ok := fun hn => h ⟨hm, hn⟩
    have Hm := Lib.hid hm
    have Hn := Lib.hid hn
    clear hm hn h
    go_enter Try.func7, Try.ntmps7
    go_wp2_with fail
    refine (mcheck_any m _ 0 (.inl ⟨Hm.out, rfl⟩)).mono ?_
    rintro e w1 ⟨rfl, hb⟩
    have B1 : Hid (Below w.heap.size w w1) := by
      refine Below.trans ?_ (hb.mono (by simp; omega))
      (repeat (first | with_reducible refine Below.drew ?_ | with_reducible refine bdrewN ?_ _ | (with_reducible refine Below.setCell ?_ ?_ _; rotate_left; focus (first | exact Nat.le_refl _ | omega | (simp; omega) | (simp; done))) | (with_reducible refine Below.alloc ?_ ?_ _; rotate_left; focus (first | exact Nat.le_refl _ | omega | (simp; omega) | (simp; done))))); with_reducible exact (Below.refl _ _)
    obtain ⟨hc, hf⟩ := bcell hb
    have hz := hb.size
    simp at hz
    have l0 : w.heap.size < w1.heap.size := (by omega); have l1 : w.heap.size + 1 < w1.heap.size := (by omega); have l2 : w.heap.size + 1 + 1 < w1.heap.size := (by omega)
    go_wp2_with fail
    refine (mcheck_any n _ 1 (.inr ⟨Hn.out, rfl⟩)).mono ?_
    rintro e w2 ⟨rfl, hk⟩
    have hb := hb.trans (hk.mono hb.size)
    have B2 := Lib.hid (B1.out.trans (hk.mono B1.out.size))
    have hR := (Whole.made ((w.alloc (.cells #[.int .i64 m.a.m, .int .i64 m.a.s, .int .i64 m.b.m, .int .i64 m.b.s, .int .i64 m.c.m, .int .i64 m.c.s, .int .i64 m.d.m, .int .i64 m.d.s, .int .i64 m.e.m, .int .i64 m.e.s, .int .i64 m.f.m, .int .i64 m.f.s] 25)).alloc (.cells #[.int .i64 n.a.m, .int .i64 n.a.s, .int .i64 n.b.m, .int .i64 n.b.s, .int .i64 n.c.m, .int .i64 n.c.s, .int .i64 n.d.m, .int .i64 n.d.s, .int .i64 n.e.m, .int .i64 n.e.s, .int .i64 n.f.m, .int .i64 n.f.s] 25)) 25 #[.int .i64 0, .int .i64 0, .int .i64 0, .int .i64 0, .int .i64 0, .int .i64 0, .int .i64 0, .int .i64 0, .int .i64 0, .int .i64 0, .int .i64 0, .int .i64 0]).later hb (by simp)
    simp only [World.size_alloc] at hR
    clear hc hf hz hk l0 l1 l2 B1
    have lR := hR.lt
    have rd := hR.reads
    have ft := hR.thawed
    go_wp2
    refine bodyPost_ret (v := .tuple #[MV.zero.val, .int .i64 1]) (by simp [results, Try.results7, go_sem, rd, MV.zero, DV.zero]) rfl ⟨rfl, ?_⟩
    (repeat (first | with_reducible refine Below.drew ?_ | with_reducible refine bdrewN ?_ _ | (with_reducible refine Below.setCell ?_ ?_ _; rotate_left; focus (first | exact Nat.le_refl _ | omega | (simp; omega) | (simp; done))) | (with_reducible refine Below.alloc ?_ ?_ _; rotate_left; focus (first | exact Nat.le_refl _ | omega | (simp; omega) | (simp; done))))); with_reducible exact B2.out
  · have Hm := Lib.hid hm
    clear hm h
    go_enter Try.func7, Try.ntmps7
    go_wp2_with fail
    refine (mcheck_any m _ 1 (.inr ⟨Hm.out, rfl⟩)).mono ?_
    rintro e w1 ⟨rfl, hb⟩
    have B1 : Hid (Below w.heap.size w w1) := by
      refine Below.trans ?_ (hb.mono (by simp; omega))
      (repeat (first | with_reducible refine Below.drew ?_ | with_reducible refine bdrewN ?_ _ | (with_reducible refine Below.setCell ?_ ?_ _; rotate_left; focus (first | exact Nat.le_refl _ | omega | (simp; omega) | (simp; done))) | (with_reducible refine Below.alloc ?_ ?_ _; rotate_left; focus (first | exact Nat.le_refl _ | omega | (simp; omega) | (simp; done))))); with_reducible exact (Below.refl _ _)
    have hR := (Whole.made ((w.alloc (.cells #[.int .i64 m.a.m, .int .i64 m.a.s, .int .i64 m.b.m, .int .i64 m.b.s, .int .i64 m.c.m, .int .i64 m.c.s, .int .i64 m.d.m, .int .i64 m.d.s, .int .i64 m.e.m, .int .i64 m.e.s, .int .i64 m.f.m, .int .i64 m.f.s] 25)).alloc (.cells #[.int .i64 n.a.m, .int .i64 n.a.s, .int .i64 n.b.m, .int .i64 n.b.s, .int .i64 n.c.m, .int .i64 n.c.s, .int .i64 n.d.m, .int .i64 n.d.s, .int .i64 n.e.m, .int .i64 n.e.s, .int .i64 n.f.m, .int .i64 n.f.s] 25)) 25 #[.int .i64 0, .int .i64 0, .int .i64 0, .int .i64 0, .int .i64 0, .int .i64 0, .int .i64 0, .int .i64 0, .int .i64 0, .int .i64 0, .int .i64 0, .int .i64 0]).later hb (by simp)
    simp only [World.size_alloc] at hR
    have lR := hR.lt
    have rd := hR.reads
    have ft := hR.thawed
    go_wp2
    refine bodyPost_ret (v := .tuple #[MV.zero.val, .int .i64 1]) (by simp [results, Try.results7, go_sem, rd, MV.zero, DV.zero]) rfl ⟨rfl, ?_⟩
    (repeat (first | with_reducible refine Below.drew ?_ | with_reducible refine bdrewN ?_ _ | (with_reducible refine Below.setCell ?_ ?_ _; rotate_left; focus (first | exact Nat.le_refl _ | omega | (simp; omega) | (simp; done))) | (with_reducible refine Below.alloc ?_ ?_ _; rotate_left; focus (first | exact Nat.le_refl _ | omega | (simp; omega) | (simp; done))))); with_reducible exact B1.out

theorem then_any (m n r : MV) (E : Int) (w : World) (h : ThenIs m n r E) :
    Calls Try.prog 7 #[m.val, n.val] w (IsM r E w) := by
  rcases h with ⟨hm, hn, q, e1, e2, e3, e4, e5, e6, h1, h2, h3, h4, h5, h6, h⟩ | ⟨h, rfl, rfl⟩
  · exact then_good m n q e1 e2 e3 e4 e5 e6 w hm hn h1 h2 h3 h4 h5 h6 r E h
  · exact then_one_bad m n w h
end Go.Proofs.Ytpdjooeogpidhaa
