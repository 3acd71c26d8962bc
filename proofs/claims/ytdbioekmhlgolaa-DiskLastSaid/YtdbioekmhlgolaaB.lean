/- Contracts: ready, clone. -/
import Derived.Test.YtdbioekmhlgolaaA
namespace Go.Proofs.Ytdbioekmhlgolaa
open Go.RowKit Dk

set_option maxHeartbeats 400000 in
theorem ready_any (v : Value) (d : Disk) (fine : Bool) (w : World) (h : DiskR w (fun _ => True) v d) :
    Calls Try.prog 31 #[v, .bool fine] w fun e w' => e = .returned (.int .i64 (ready d fine)) ∧ Below w.heap.size w w' := by
  have HR := Lib.hid h
  obtain ⟨vd, vw, rfl, ⟨A, c, rfl, hc1, hc2, _⟩, A', c', xs, rfl, hc1', hc2', _⟩ := h
  have hb0 := below_new w (Obj.cells #[.slice A d.dry.length c, .slice A' d.wet.length c', .int .i64 d.fuse, .bool d.dead] 25)
  have HC := Lib.hid (check_any _ _ _ (HR.out.below hb0))
  generalize hdd : d.dead = dd at *
  have HDD := Lib.hid hdd
  clear hdd
  generalize d.fuse = f at *
  generalize d.wet.length = L at *
  generalize d.dry.length = N at *
  cases hk : d.ok
  · have e0 : check d = 1 := by simp [check, hk]
    rw [e0] at HC
    have HK := Lib.hid hk
    clear hk e0
    go_enter Try.func31, Try.ntmps31
    go_wp2_with fail
    refine HC.out.mono ?_
    rintro e w1 ⟨rfl, hb1⟩
    go_wp2
    go_ret
    exact ⟨ret_int (by simp [ready, HK.out]), hb0.trans (hb1.mono (by simp))⟩
  · have e0 : check d = 0 := by simp [check, hk]
    rw [e0] at HC
    have HK := Lib.hid hk
    clear hk e0
    cases fine
    · go_enter Try.func31, Try.ntmps31
      go_wp2_with fail
      refine HC.out.mono ?_
      rintro e w1 ⟨rfl, hb1⟩
      go_wp2
      go_ret
      exact ⟨ret_int (by simp [ready]), hb0.trans (hb1.mono (by simp))⟩
    · cases dd
      · go_enter Try.func31, Try.ntmps31
        go_wp2_with fail
        refine HC.out.mono ?_
        rintro e w1 ⟨rfl, hb1⟩
        obtain ⟨hcl, hfr⟩ := old_cells hb1
        simp only [World.size_alloc] at hcl hfr
        go_wp2
        go_ret
        exact ⟨ret_int (by simp [ready, HK.out, HDD.out]), hb0.trans (hb1.mono (by simp))⟩
      · go_enter Try.func31, Try.ntmps31
        go_wp2_with fail
        refine HC.out.mono ?_
        rintro e w1 ⟨rfl, hb1⟩
        obtain ⟨hcl, hfr⟩ := old_cells hb1
        simp only [World.size_alloc] at hcl hfr
        go_wp2
        go_ret
        exact ⟨ret_int (by simp [ready, HK.out, HDD.out]), hb0.trans (hb1.mono (by simp))⟩

end Go.Proofs.Ytdbioekmhlgolaa
