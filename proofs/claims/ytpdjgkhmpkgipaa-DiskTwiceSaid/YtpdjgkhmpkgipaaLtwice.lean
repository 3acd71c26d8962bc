/- The law DiskTwice, walked. -/
import Derived.Test.YtpdjgkhmpkgipaaS
namespace Go.Proofs.Ytpdjgkhmpkgipaa
open Go.RowKit Dk

set_option maxRecDepth 4000 in
set_option maxHeartbeats 8000000 in
theorem diskTwice_any (v vk vm : Value) (d : Disk) (keep more : List UInt8) (w : World) (h : DiskR w (fun _ => True) v d) (hk : Bs w (fun _ => True) vk keep) (hm : Bs w (fun _ => True) vm more) :
    Calls Try.prog 9 #[v, vk, vm] w (True_ w) := by
  have HD := Lib.hid h
  have HKB := Lib.hid hk
  have HMB := Lib.hid hm
  obtain ⟨vd, vw, rfl, ⟨A, c, rfl, hdc, hdm, _⟩, A', c', xs, rfl, hwc, hwm, _⟩ := h
  obtain ⟨A0, c0, rfl, hkc, hkm, _⟩ := hk
  obtain ⟨A1, c1, rfl, hmc, hmm, _⟩ := hm
  unfold maxLen at hdm hwm hkm hmm
  obtain ⟨W0, hW0⟩ : ∃ W0, W0 = w.alloc (Obj.cells #[Value.slice A d.dry.length c, Value.slice A' d.wet.length c', .int .i64 d.fuse, .bool d.dead] 25) := ⟨_, rfl⟩
  have hb0 : Below w.heap.size w W0 := by rw [hW0]; exact below_new _ _
  have hz0 : W0.heap.size = w.heap.size + 1 := by rw [hW0]; simp
  have hbox : W0.heap[w.heap.size]? = some (.cells #[Value.slice A d.dry.length c, Value.slice A' d.wet.length c', .int .i64 d.fuse, .bool d.dead] 25 (0, 0)) := by rw [hW0]; exact heap_first _ _
  have HLIVE := Lib.hid (live_any W0)
  have HFEW := Lib.hid (fun W (hb : Below W0.heap.size W0 W) => few_any _ d W ((HD.out.below hb0).below hb))
  have HCK := Lib.hid (fun W (hb : Below W0.heap.size W0 W) => check_any _ d W ((HD.out.below hb0).below hb))
  have HFL := Lib.hid (fun W (hb : Below W0.heap.size W0 W) => flush_any _ d W ((HD.out.below hb0).below hb))
  have HCR := Lib.hid (fun W (hb : Below W0.heap.size W0 W) => crash_any _ (.slice A0 keep.length c0) d keep W ((HD.out.below hb0).below hb) ((HKB.out.below hb0).below hb))
  have HBOX := Lib.hid (fun W (hb : Below W0.heap.size W0 W) => fun i => cell_of_row W w.heap.size i _ _ _ (below_past hbox hb))
  have HB0 := Lib.hid hb0
  clear hb0 hbox
  cases hf : few d
  · have HFF := Lib.hid hf
    rw [hf] at HFEW
    clear hf
    go_enter Try.func9, Try.ntmps9
    go_wp2_with fail
    rw [← hW0]
    clear hW0
    refine HLIVE.out.mono ?_
    rintro e w1 ⟨rfl, hb1⟩
    have b1 := HBOX.out w1 hb1
    have HB1 := Lib.hid hb1
    clear hb1
    go_wp2_with fail
    refine (HFEW.out w1 HB1.out).mono ?_
    rintro e w2 ⟨rfl, hb2⟩
    have HB2 := Lib.hid (HB0.out.trans ((HB1.out.trans (hb2.mono HB1.out.size)).mono (by omega)))
    clear hb2 b1
    go_wp2_with fail
    go_ret
    exact ⟨rfl, HB2.out⟩
  · have HFF := Lib.hid hf
    rw [hf] at HFEW
    clear hf
    by_cases hkl : (keep.length : Int) ≤ 1000
    · have t1 : decide (1000 < (keep.length : Int)) = false := by simp; omega
      by_cases hml : (more.length : Int) ≤ 1000
      · have t2 : decide (1000 < (more.length : Int)) = false := by simp; omega
        cases hok : d.ok
        · obtain ⟨e1, e2, e3⟩ := not_ok_all hok keep
          rw [e1] at HFL
          rw [e2] at HCR
          rw [e3] at HCK
          clear e1 e2 e3 hok
          go_enter Try.func9, Try.ntmps9
          go_wp2_with fail
          rw [← hW0]
          clear hW0
          refine HLIVE.out.mono ?_
          rintro e w1 ⟨rfl, hb1⟩
          have b1 := HBOX.out w1 hb1
          have HB1 := Lib.hid hb1
          clear hb1
          go_wp2_with fail
          refine (HFEW.out w1 HB1.out).mono ?_
          rintro e w2 ⟨rfl, hb2⟩
          have hb2' := HB1.out.trans (hb2.mono HB1.out.size)
          have b2 := HBOX.out w2 hb2'
          have HB2 := Lib.hid hb2'
          clear hb2 hb2' b1
          go_wp2_with fail
          refine (HFL.out w2 HB2.out).mono ?_
          rintro e w3 hg3
          obtain ⟨A3, c3, A3', c3', rfl, ho3, hb3⟩ := gives_disk hg3
          dsimp only at ho3 ⊢
          obtain ⟨W3, hW3⟩ : ∃ W3, W3 = w3.alloc (Obj.cells #[Value.slice A3 Disk.zero.dry.length c3, Value.slice A3' Disk.zero.wet.length c3', .int .i64 Disk.zero.fuse, .bool Disk.zero.dead] 25) := ⟨_, rfl⟩
          have hn3 : Below w3.heap.size w3 W3 := by rw [hW3]; exact below_new _ _
          have hz3 : W3.heap.size = w3.heap.size + 1 := by rw [hW3]; simp
          have hx3 : W3.heap[w3.heap.size]? = some (.cells #[Value.slice A3 Disk.zero.dry.length c3, Value.slice A3' Disk.zero.wet.length c3', .int .i64 Disk.zero.fuse, .bool Disk.zero.dead] 25 (0, 0)) := by rw [hW3]; exact heap_first _ _
          have hb3' := HB2.out.trans (hb3.mono HB2.out.size)
          have hb3a : Below W0.heap.size W0 W3 := hb3'.trans (hn3.mono hb3'.size)
          have HX3 := Lib.hid hx3
          have HZ3 := Lib.hid ((ho3.below hn3).reads (S := fun _ => True) fun _ => trivial)
          have HB3 := Lib.hid hb3a
          have hs3 : W0.heap.size ≤ w3.heap.size := hb3'.size
          have hl3 : w.heap.size < W3.heap.size := by omega
          have hm3 : w.heap.size < w3.heap.size := by omega
          have b3 := HBOX.out w3 hb3'
          clear hg3 ho3 hb3' hb3a hx3
          clear b2 hb3 hn3
          go_wp2_with fail
          rw [← hW3]
          clear hW3 b3
          have b3 := HBOX.out W3 HB3.out
          go_wp2_with fail
          refine (HCR.out W3 HB3.out).mono ?_
          rintro e w8 hg8
          obtain ⟨A8, c8, A8', c8', rfl, ho8, hb8⟩ := gives_disk hg8
          dsimp only at ho8 ⊢
          obtain ⟨W8, hW8⟩ : ∃ W8, W8 = w8.alloc (Obj.cells #[Value.slice A8 Disk.zero.dry.length c8, Value.slice A8' Disk.zero.wet.length c8', .int .i64 Disk.zero.fuse, .bool Disk.zero.dead] 25) := ⟨_, rfl⟩
          have hn8 : Below w8.heap.size w8 W8 := by rw [hW8]; exact below_new _ _
          have hz8 : W8.heap.size = w8.heap.size + 1 := by rw [hW8]; simp
          have hx8 : W8.heap[w8.heap.size]? = some (.cells #[Value.slice A8 Disk.zero.dry.length c8, Value.slice A8' Disk.zero.wet.length c8', .int .i64 Disk.zero.fuse, .bool Disk.zero.dead] 25 (0, 0)) := by rw [hW8]; exact heap_first _ _
          have hb8' := HB3.out.trans (hb8.mono HB3.out.size)
          have hb8a : Below W0.heap.size W0 W8 := hb8'.trans (hn8.mono hb8'.size)
          have HX8 := Lib.hid hx8
          have HZ8 := Lib.hid ((ho8.below hn8).reads (S := fun _ => True) fun _ => trivial)
          have HB8 := Lib.hid hb8a
          have hs8 : W0.heap.size ≤ w8.heap.size := hb8'.size
          have hl8 : w.heap.size < W8.heap.size := by omega
          have hm8 : w.heap.size < w8.heap.size := by omega
          have b8 := HBOX.out w8 hb8'
          clear hg8 ho8 hb8' hb8a hx8
          clear b3 hb8 hn8
          go_wp2_with fail
          rw [← hW8]
          clear hW8 b8
          have b8 := HBOX.out W8 HB8.out
          go_wp2_with fail
          refine (HCK.out W8 HB8.out).mono ?_
          rintro e w9 ⟨rfl, hb9⟩
          have HBF := Lib.hid (HB0.out.trans ((HB8.out.trans (hb9.mono HB8.out.size)).mono (by omega)))
          clear hb9 b8
          go_wp2_with fail
          go_ret
          exact ⟨rfl, HBF.out⟩
        · obtain ⟨cc, c2, q1, q2, q3, q4, q5, q6, q7⟩ := crash_twice hok keep more
          rw [q1] at HCR
          have Q2 := Lib.hid q2
          have Q3 := Lib.hid q3
          have Q4 := Lib.hid q4
          have Q5 := Lib.hid q5
          have Q6 := Lib.hid q6
          have Q7 := Lib.hid q7
          clear q2 q3 q4 q5 q6 q7
          rcases flush_twice hok with ⟨z, hz⟩ | ⟨z, hz, hzw, hy⟩
          · rw [hz] at HFL
            clear hz q1
            go_enter Try.func9, Try.ntmps9
            go_wp2_with fail
            rw [← hW0]
            clear hW0
            refine HLIVE.out.mono ?_
            rintro e w1 ⟨rfl, hb1⟩
            have b1 := HBOX.out w1 hb1
            have HB1 := Lib.hid hb1
            clear hb1
            go_wp2_with fail
            refine (HFEW.out w1 HB1.out).mono ?_
            rintro e w2 ⟨rfl, hb2⟩
            have hb2' := HB1.out.trans (hb2.mono HB1.out.size)
            have b2 := HBOX.out w2 hb2'
            have HB2 := Lib.hid hb2'
            clear hb2 hb2' b1
            go_wp2_with fail
            refine (HFL.out w2 HB2.out).mono ?_
            rintro e w3 hg3
            obtain ⟨A3, c3, A3', c3', rfl, ho3, hb3⟩ := gives_disk hg3
            dsimp only at ho3 ⊢
            obtain ⟨W3, hW3⟩ : ∃ W3, W3 = w3.alloc (Obj.cells #[Value.slice A3 z.dry.length c3, Value.slice A3' z.wet.length c3', .int .i64 z.fuse, .bool z.dead] 25) := ⟨_, rfl⟩
            have hn3 : Below w3.heap.size w3 W3 := by rw [hW3]; exact below_new _ _
            have hz3 : W3.heap.size = w3.heap.size + 1 := by rw [hW3]; simp
            have hx3 : W3.heap[w3.heap.size]? = some (.cells #[Value.slice A3 z.dry.length c3, Value.slice A3' z.wet.length c3', .int .i64 z.fuse, .bool z.dead] 25 (0, 0)) := by rw [hW3]; exact heap_first _ _
            have hb3' := HB2.out.trans (hb3.mono HB2.out.size)
            have hb3a : Below W0.heap.size W0 W3 := hb3'.trans (hn3.mono hb3'.size)
            have HX3 := Lib.hid hx3
            have HZ3 := Lib.hid ((ho3.below hn3).reads (S := fun _ => True) fun _ => trivial)
            have HB3 := Lib.hid hb3a
            have hs3 : W0.heap.size ≤ w3.heap.size := hb3'.size
            have hl3 : w.heap.size < W3.heap.size := by omega
            have hm3 : w.heap.size < w3.heap.size := by omega
            have b3 := HBOX.out w3 hb3'
            clear hg3 ho3 hb3' hb3a hx3
            clear b2 hb3 hn3
            go_wp2_with fail
            rw [← hW3]
            clear hW3 b3
            have b3 := HBOX.out W3 HB3.out
            go_wp2_with fail
            refine (HCR.out _ HB3.out).mono ?_
            rintro e w8 hg8
            obtain ⟨A8, c8, A8', c8', rfl, ho8, hb8⟩ := gives_disk hg8
            dsimp only at ho8 ⊢
            obtain ⟨W8, hW8⟩ : ∃ W8, W8 = w8.alloc (Obj.cells #[Value.slice A8 cc.dry.length c8, Value.slice A8' cc.wet.length c8', .int .i64 cc.fuse, .bool cc.dead] 25) := ⟨_, rfl⟩
            have hn8 : Below w8.heap.size w8 W8 := by rw [hW8]; exact below_new _ _
            have hz8 : W8.heap.size = w8.heap.size + 1 := by rw [hW8]; simp
            have hx8 : W8.heap[w8.heap.size]? = some (.cells #[Value.slice A8 cc.dry.length c8, Value.slice A8' cc.wet.length c8', .int .i64 cc.fuse, .bool cc.dead] 25 (0, 0)) := by rw [hW8]; exact heap_first _ _
            have hb8' := HB3.out.trans (hb8.mono HB3.out.size)
            have hb8a : Below W0.heap.size W0 W8 := hb8'.trans (hn8.mono hb8'.size)
            have HX8 := Lib.hid hx8
            have HZ8 := Lib.hid ((ho8.below hn8).reads (S := fun _ => True) fun _ => trivial)
            have HB8 := Lib.hid hb8a
            have hs8 : W0.heap.size ≤ w8.heap.size := hb8'.size
            have hl8 : w.heap.size < W8.heap.size := by omega
            have hm8 : w.heap.size < w8.heap.size := by omega
            have b8 := HBOX.out w8 hb8'
            clear hg8 ho8 hb8' hb8a hx8
            clear b3 hb8 hn8
            go_wp2_with fail
            rw [← hW8]
            clear hW8 b8
            have x8 : ∀ i, W8.cell? ⟨w8.heap.size, i, none⟩ = _ := fun i => cell_of_row W8 w8.heap.size i _ _ _ HX8.out
            have hk8 : w8.heap.size < W8.heap.size := by omega
            have HC2 := Lib.hid (crash_any _ (.slice A1 more.length c1) cc more W8 HZ8.out ((HMB.out.below HB0.out).below HB8.out))
            rw [Q2.out] at HC2
            go_wp2_with fail
            refine (HC2.out).mono ?_
            rintro e w9 hg9
            obtain ⟨A9, c9, A9', c9', rfl, ho9, hb9⟩ := gives_disk hg9
            dsimp only at ho9 ⊢
            obtain ⟨W9, hW9⟩ : ∃ W9, W9 = w9.alloc (Obj.cells #[Value.slice A9 c2.dry.length c9, Value.slice A9' c2.wet.length c9', .int .i64 c2.fuse, .bool c2.dead] 25) := ⟨_, rfl⟩
            have hn9 : Below w9.heap.size w9 W9 := by rw [hW9]; exact below_new _ _
            have hz9 : W9.heap.size = w9.heap.size + 1 := by rw [hW9]; simp
            have hx9 : W9.heap[w9.heap.size]? = some (.cells #[Value.slice A9 c2.dry.length c9, Value.slice A9' c2.wet.length c9', .int .i64 c2.fuse, .bool c2.dead] 25 (0, 0)) := by rw [hW9]; exact heap_first _ _
            have hb9' := HB8.out.trans (hb9.mono HB8.out.size)
            have hb9a : Below W0.heap.size W0 W9 := hb9'.trans (hn9.mono hb9'.size)
            have HX9 := Lib.hid hx9
            have HZ9 := Lib.hid ((ho9.below hn9).reads (S := fun _ => True) fun _ => trivial)
            have HB9 := Lib.hid hb9a
            have hs9 : W0.heap.size ≤ w9.heap.size := hb9'.size
            have hl9 : w.heap.size < W9.heap.size := by omega
            have hm9 : w.heap.size < w9.heap.size := by omega
            have b9 := HBOX.out w9 hb9'
            clear hg9 ho9 hb9' hb9a hx9
            have hx89 := ((hb9.trans (hn9.mono hb9.size)).block w8.heap.size hk8).trans HX8.out
            have HZ89 := Lib.hid ((HZ8.out.below hb9).below hn9)
            have x89w : ∀ i, w9.cell? ⟨w8.heap.size, i, none⟩ = _ := fun i => cell_of_row w9 w8.heap.size i _ _ _ ((hb9.block w8.heap.size hk8).trans HX8.out)
            have hk89w : w8.heap.size < w9.heap.size := by have := hb9.size; omega
            have x89 : ∀ i, W9.cell? ⟨w8.heap.size, i, none⟩ = _ := fun i => cell_of_row W9 w8.heap.size i _ _ _ hx89
            have x99 : ∀ i, W9.cell? ⟨w9.heap.size, i, none⟩ = _ := fun i => cell_of_row W9 w9.heap.size i _ _ _ HX9.out
            have hk89 : w8.heap.size < W9.heap.size := by have := hb9.size; omega
            have hk99 : w9.heap.size < W9.heap.size := by omega
            have HSM := Lib.hid (same_dry _ _ cc c2 W9 HZ89.out HZ9.out Q3.out Q4.out Q5.out Q6.out Q7.out)
            clear x8 hb9 hn9 hx89
            go_wp2_with fail
            rw [← hW9]
            clear hW9 b9
            go_wp2_with fail
            refine HSM.out.mono ?_
            rintro e w10 ⟨rfl, hb10⟩
            have HBF := Lib.hid (HB0.out.trans ((HB9.out.trans (hb10.mono HB9.out.size)).mono (by omega)))
            clear hb10 x89 x99
            go_wp2_with fail
            go_ret
            exact ⟨rfl, HBF.out⟩
          · rw [hz] at HFL
            clear hz q1
            have tz : ((z.wet.length : Int) != 0) = false := by rw [hzw]; rfl
            clear hzw
            go_enter Try.func9, Try.ntmps9
            go_wp2_with fail
            rw [← hW0]
            clear hW0
            refine HLIVE.out.mono ?_
            rintro e w1 ⟨rfl, hb1⟩
            have b1 := HBOX.out w1 hb1
            have HB1 := Lib.hid hb1
            clear hb1
            go_wp2_with fail
            refine (HFEW.out w1 HB1.out).mono ?_
            rintro e w2 ⟨rfl, hb2⟩
            have hb2' := HB1.out.trans (hb2.mono HB1.out.size)
            have b2 := HBOX.out w2 hb2'
            have HB2 := Lib.hid hb2'
            clear hb2 hb2' b1
            go_wp2_with fail
            refine (HFL.out w2 HB2.out).mono ?_
            rintro e w3 hg3
            obtain ⟨A3, c3, A3', c3', rfl, ho3, hb3⟩ := gives_disk hg3
            dsimp only at ho3 ⊢
            obtain ⟨W3, hW3⟩ : ∃ W3, W3 = w3.alloc (Obj.cells #[Value.slice A3 z.dry.length c3, Value.slice A3' z.wet.length c3', .int .i64 z.fuse, .bool z.dead] 25) := ⟨_, rfl⟩
            have hn3 : Below w3.heap.size w3 W3 := by rw [hW3]; exact below_new _ _
            have hz3 : W3.heap.size = w3.heap.size + 1 := by rw [hW3]; simp
            have hx3 : W3.heap[w3.heap.size]? = some (.cells #[Value.slice A3 z.dry.length c3, Value.slice A3' z.wet.length c3', .int .i64 z.fuse, .bool z.dead] 25 (0, 0)) := by rw [hW3]; exact heap_first _ _
            have hb3' := HB2.out.trans (hb3.mono HB2.out.size)
            have hb3a : Below W0.heap.size W0 W3 := hb3'.trans (hn3.mono hb3'.size)
            have HX3 := Lib.hid hx3
            have HZ3 := Lib.hid ((ho3.below hn3).reads (S := fun _ => True) fun _ => trivial)
            have HB3 := Lib.hid hb3a
            have hs3 : W0.heap.size ≤ w3.heap.size := hb3'.size
            have hl3 : w.heap.size < W3.heap.size := by omega
            have hm3 : w.heap.size < w3.heap.size := by omega
            have b3 := HBOX.out w3 hb3'
            clear hg3 ho3 hb3' hb3a hx3
            clear b2 hb3 hn3
            go_wp2_with fail
            rw [← hW3]
            clear hW3 b3
            have x3 : ∀ i, W3.cell? ⟨w3.heap.size, i, none⟩ = _ := fun i => cell_of_row W3 w3.heap.size i _ _ _ HX3.out
            have hk3 : w3.heap.size < W3.heap.size := by omega
            have HF2 := Lib.hid (flush_any _ z W3 HZ3.out)
            go_wp2_with fail
            rcases hy with ⟨y, hy, hyd⟩ | ⟨y, hy, hzf⟩
            · rw [hy] at HF2
              have HYD := Lib.hid hyd
              clear hy hyd
              refine (HF2.out).mono ?_
              rintro e w5 hg5
              obtain ⟨A5, c5, A5', c5', rfl, ho5, hb5⟩ := gives_disk hg5
              dsimp only at ho5 ⊢
              obtain ⟨W5, hW5⟩ : ∃ W5, W5 = w5.alloc (Obj.cells #[Value.slice A5 y.dry.length c5, Value.slice A5' y.wet.length c5', .int .i64 y.fuse, .bool y.dead] 25) := ⟨_, rfl⟩
              have hn5 : Below w5.heap.size w5 W5 := by rw [hW5]; exact below_new _ _
              have hz5 : W5.heap.size = w5.heap.size + 1 := by rw [hW5]; simp
              have hx5 : W5.heap[w5.heap.size]? = some (.cells #[Value.slice A5 y.dry.length c5, Value.slice A5' y.wet.length c5', .int .i64 y.fuse, .bool y.dead] 25 (0, 0)) := by rw [hW5]; exact heap_first _ _
              have hb5' := HB3.out.trans (hb5.mono HB3.out.size)
              have hb5a : Below W0.heap.size W0 W5 := hb5'.trans (hn5.mono hb5'.size)
              have HX5 := Lib.hid hx5
              have HZ5 := Lib.hid ((ho5.below hn5).reads (S := fun _ => True) fun _ => trivial)
              have HB5 := Lib.hid hb5a
              have hs5 : W0.heap.size ≤ w5.heap.size := hb5'.size
              have hl5 : w.heap.size < W5.heap.size := by omega
              have hm5 : w.heap.size < w5.heap.size := by omega
              have b5 := HBOX.out w5 hb5'
              clear hg5 ho5 hb5' hb5a hx5
              have hk35w : w3.heap.size < w5.heap.size := by have := hb5.size; omega
              have x35w : ∀ i, w5.cell? ⟨w3.heap.size, i, none⟩ = _ := fun i => cell_of_row w5 w3.heap.size i _ _ _ ((hb5.block w3.heap.size hk3).trans HX3.out)
              have hx35 := ((hb5.trans (hn5.mono hb5.size)).block w3.heap.size hk3).trans HX3.out
              have x35 : ∀ i, W5.cell? ⟨w3.heap.size, i, none⟩ = _ := fun i => cell_of_row W5 w3.heap.size i _ _ _ hx35
              have x55 : ∀ i, W5.cell? ⟨w5.heap.size, i, none⟩ = _ := fun i => cell_of_row W5 w5.heap.size i _ _ _ HX5.out
              have hk35 : w3.heap.size < W5.heap.size := by have := hb5.size; omega
              have hk55 : w5.heap.size < W5.heap.size := by omega
              have HZ35 := Lib.hid ((HZ3.out.below hb5).below hn5)
              clear x3 hb5 hn5 hx35
              go_wp2_with fail
              rw [← hW5]
              clear hW5 b5
              have HSB := Lib.hid (sameBytes_any _ _ z.dry y.dry W5 HZ35.out.octets HZ5.out.octets)
              rw [decide_eq_true HYD.out] at HSB
              have b5 := HBOX.out W5 HB5.out
              go_wp2_with fail
              refine HSB.out.mono ?_
              rintro e w6 ⟨rfl, rfl⟩
              go_wp2_with fail
              clear x35 x55
              refine (HCR.out _ HB5.out).mono ?_
              rintro e w8 hg8
              obtain ⟨A8, c8, A8', c8', rfl, ho8, hb8⟩ := gives_disk hg8
              dsimp only at ho8 ⊢
              obtain ⟨W8, hW8⟩ : ∃ W8, W8 = w8.alloc (Obj.cells #[Value.slice A8 cc.dry.length c8, Value.slice A8' cc.wet.length c8', .int .i64 cc.fuse, .bool cc.dead] 25) := ⟨_, rfl⟩
              have hn8 : Below w8.heap.size w8 W8 := by rw [hW8]; exact below_new _ _
              have hz8 : W8.heap.size = w8.heap.size + 1 := by rw [hW8]; simp
              have hx8 : W8.heap[w8.heap.size]? = some (.cells #[Value.slice A8 cc.dry.length c8, Value.slice A8' cc.wet.length c8', .int .i64 cc.fuse, .bool cc.dead] 25 (0, 0)) := by rw [hW8]; exact heap_first _ _
              have hb8' := HB5.out.trans (hb8.mono HB5.out.size)
              have hb8a : Below W0.heap.size W0 W8 := hb8'.trans (hn8.mono hb8'.size)
              have HX8 := Lib.hid hx8
              have HZ8 := Lib.hid ((ho8.below hn8).reads (S := fun _ => True) fun _ => trivial)
              have HB8 := Lib.hid hb8a
              have hs8 : W0.heap.size ≤ w8.heap.size := hb8'.size
              have hl8 : w.heap.size < W8.heap.size := by omega
              have hm8 : w.heap.size < w8.heap.size := by omega
              have b8 := HBOX.out w8 hb8'
              clear hg8 ho8 hb8' hb8a hx8
              clear b5 hb8 hn8
              go_wp2_with fail
              rw [← hW8]
              clear hW8 b8
              have x8 : ∀ i, W8.cell? ⟨w8.heap.size, i, none⟩ = _ := fun i => cell_of_row W8 w8.heap.size i _ _ _ HX8.out
              have hk8 : w8.heap.size < W8.heap.size := by omega
              have HC2 := Lib.hid (crash_any _ (.slice A1 more.length c1) cc more W8 HZ8.out ((HMB.out.below HB0.out).below HB8.out))
              rw [Q2.out] at HC2
              go_wp2_with fail
              refine (HC2.out).mono ?_
              rintro e w9 hg9
              obtain ⟨A9, c9, A9', c9', rfl, ho9, hb9⟩ := gives_disk hg9
              dsimp only at ho9 ⊢
              obtain ⟨W9, hW9⟩ : ∃ W9, W9 = w9.alloc (Obj.cells #[Value.slice A9 c2.dry.length c9, Value.slice A9' c2.wet.length c9', .int .i64 c2.fuse, .bool c2.dead] 25) := ⟨_, rfl⟩
              have hn9 : Below w9.heap.size w9 W9 := by rw [hW9]; exact below_new _ _
              have hz9 : W9.heap.size = w9.heap.size + 1 := by rw [hW9]; simp
              have hx9 : W9.heap[w9.heap.size]? = some (.cells #[Value.slice A9 c2.dry.length c9, Value.slice A9' c2.wet.length c9', .int .i64 c2.fuse, .bool c2.dead] 25 (0, 0)) := by rw [hW9]; exact heap_first _ _
              have hb9' := HB8.out.trans (hb9.mono HB8.out.size)
              have hb9a : Below W0.heap.size W0 W9 := hb9'.trans (hn9.mono hb9'.size)
              have HX9 := Lib.hid hx9
              have HZ9 := Lib.hid ((ho9.below hn9).reads (S := fun _ => True) fun _ => trivial)
              have HB9 := Lib.hid hb9a
              have hs9 : W0.heap.size ≤ w9.heap.size := hb9'.size
              have hl9 : w.heap.size < W9.heap.size := by omega
              have hm9 : w.heap.size < w9.heap.size := by omega
              have b9 := HBOX.out w9 hb9'
              clear hg9 ho9 hb9' hb9a hx9
              have hx89 := ((hb9.trans (hn9.mono hb9.size)).block w8.heap.size hk8).trans HX8.out
              have HZ89 := Lib.hid ((HZ8.out.below hb9).below hn9)
              have x89w : ∀ i, w9.cell? ⟨w8.heap.size, i, none⟩ = _ := fun i => cell_of_row w9 w8.heap.size i _ _ _ ((hb9.block w8.heap.size hk8).trans HX8.out)
              have hk89w : w8.heap.size < w9.heap.size := by have := hb9.size; omega
              have x89 : ∀ i, W9.cell? ⟨w8.heap.size, i, none⟩ = _ := fun i => cell_of_row W9 w8.heap.size i _ _ _ hx89
              have x99 : ∀ i, W9.cell? ⟨w9.heap.size, i, none⟩ = _ := fun i => cell_of_row W9 w9.heap.size i _ _ _ HX9.out
              have hk89 : w8.heap.size < W9.heap.size := by have := hb9.size; omega
              have hk99 : w9.heap.size < W9.heap.size := by omega
              have HSM := Lib.hid (same_dry _ _ cc c2 W9 HZ89.out HZ9.out Q3.out Q4.out Q5.out Q6.out Q7.out)
              clear x8 hb9 hn9 hx89
              go_wp2_with fail
              rw [← hW9]
              clear hW9 b9
              go_wp2_with fail
              refine HSM.out.mono ?_
              rintro e w10 ⟨rfl, hb10⟩
              have HBF := Lib.hid (HB0.out.trans ((HB9.out.trans (hb10.mono HB9.out.size)).mono (by omega)))
              clear hb10 x89 x99
              go_wp2_with fail
              go_ret
              exact ⟨rfl, HBF.out⟩
            · rw [hy] at HF2
              have tf : (z.fuse != 0) = false := by simpa using hzf
              clear hy hzf
              refine (HF2.out).mono ?_
              rintro e w5 hg5
              obtain ⟨A5, c5, A5', c5', rfl, ho5, hb5⟩ := gives_disk hg5
              dsimp only at ho5 ⊢
              obtain ⟨W5, hW5⟩ : ∃ W5, W5 = w5.alloc (Obj.cells #[Value.slice A5 y.dry.length c5, Value.slice A5' y.wet.length c5', .int .i64 y.fuse, .bool y.dead] 25) := ⟨_, rfl⟩
              have hn5 : Below w5.heap.size w5 W5 := by rw [hW5]; exact below_new _ _
              have hz5 : W5.heap.size = w5.heap.size + 1 := by rw [hW5]; simp
              have hx5 : W5.heap[w5.heap.size]? = some (.cells #[Value.slice A5 y.dry.length c5, Value.slice A5' y.wet.length c5', .int .i64 y.fuse, .bool y.dead] 25 (0, 0)) := by rw [hW5]; exact heap_first _ _
              have hb5' := HB3.out.trans (hb5.mono HB3.out.size)
              have hb5a : Below W0.heap.size W0 W5 := hb5'.trans (hn5.mono hb5'.size)
              have HX5 := Lib.hid hx5
              have HZ5 := Lib.hid ((ho5.below hn5).reads (S := fun _ => True) fun _ => trivial)
              have HB5 := Lib.hid hb5a
              have hs5 : W0.heap.size ≤ w5.heap.size := hb5'.size
              have hl5 : w.heap.size < W5.heap.size := by omega
              have hm5 : w.heap.size < w5.heap.size := by omega
              have b5 := HBOX.out w5 hb5'
              clear hg5 ho5 hb5' hb5a hx5
              have hk35w : w3.heap.size < w5.heap.size := by have := hb5.size; omega
              have x35w : ∀ i, w5.cell? ⟨w3.heap.size, i, none⟩ = _ := fun i => cell_of_row w5 w3.heap.size i _ _ _ ((hb5.block w3.heap.size hk3).trans HX3.out)
              have hx35 := ((hb5.trans (hn5.mono hb5.size)).block w3.heap.size hk3).trans HX3.out
              have x35 : ∀ i, W5.cell? ⟨w3.heap.size, i, none⟩ = _ := fun i => cell_of_row W5 w3.heap.size i _ _ _ hx35
              have x55 : ∀ i, W5.cell? ⟨w5.heap.size, i, none⟩ = _ := fun i => cell_of_row W5 w5.heap.size i _ _ _ HX5.out
              have hk35 : w3.heap.size < W5.heap.size := by have := hb5.size; omega
              have hk55 : w5.heap.size < W5.heap.size := by omega
              have HZ35 := Lib.hid ((HZ3.out.below hb5).below hn5)
              clear x3 hb5 hn5 hx35
              go_wp2_with fail
              rw [← hW5]
              clear hW5 b5
              have b5 := HBOX.out W5 HB5.out
              go_wp2_with fail
              clear x35 x55
              refine (HCR.out _ HB5.out).mono ?_
              rintro e w8 hg8
              obtain ⟨A8, c8, A8', c8', rfl, ho8, hb8⟩ := gives_disk hg8
              dsimp only at ho8 ⊢
              obtain ⟨W8, hW8⟩ : ∃ W8, W8 = w8.alloc (Obj.cells #[Value.slice A8 cc.dry.length c8, Value.slice A8' cc.wet.length c8', .int .i64 cc.fuse, .bool cc.dead] 25) := ⟨_, rfl⟩
              have hn8 : Below w8.heap.size w8 W8 := by rw [hW8]; exact below_new _ _
              have hz8 : W8.heap.size = w8.heap.size + 1 := by rw [hW8]; simp
              have hx8 : W8.heap[w8.heap.size]? = some (.cells #[Value.slice A8 cc.dry.length c8, Value.slice A8' cc.wet.length c8', .int .i64 cc.fuse, .bool cc.dead] 25 (0, 0)) := by rw [hW8]; exact heap_first _ _
              have hb8' := HB5.out.trans (hb8.mono HB5.out.size)
              have hb8a : Below W0.heap.size W0 W8 := hb8'.trans (hn8.mono hb8'.size)
              have HX8 := Lib.hid hx8
              have HZ8 := Lib.hid ((ho8.below hn8).reads (S := fun _ => True) fun _ => trivial)
              have HB8 := Lib.hid hb8a
              have hs8 : W0.heap.size ≤ w8.heap.size := hb8'.size
              have hl8 : w.heap.size < W8.heap.size := by omega
              have hm8 : w.heap.size < w8.heap.size := by omega
              have b8 := HBOX.out w8 hb8'
              clear hg8 ho8 hb8' hb8a hx8
              clear b5 hb8 hn8
              go_wp2_with fail
              rw [← hW8]
              clear hW8 b8
              have x8 : ∀ i, W8.cell? ⟨w8.heap.size, i, none⟩ = _ := fun i => cell_of_row W8 w8.heap.size i _ _ _ HX8.out
              have hk8 : w8.heap.size < W8.heap.size := by omega
              have HC2 := Lib.hid (crash_any _ (.slice A1 more.length c1) cc more W8 HZ8.out ((HMB.out.below HB0.out).below HB8.out))
              rw [Q2.out] at HC2
              go_wp2_with fail
              refine (HC2.out).mono ?_
              rintro e w9 hg9
              obtain ⟨A9, c9, A9', c9', rfl, ho9, hb9⟩ := gives_disk hg9
              dsimp only at ho9 ⊢
              obtain ⟨W9, hW9⟩ : ∃ W9, W9 = w9.alloc (Obj.cells #[Value.slice A9 c2.dry.length c9, Value.slice A9' c2.wet.length c9', .int .i64 c2.fuse, .bool c2.dead] 25) := ⟨_, rfl⟩
              have hn9 : Below w9.heap.size w9 W9 := by rw [hW9]; exact below_new _ _
              have hz9 : W9.heap.size = w9.heap.size + 1 := by rw [hW9]; simp
              have hx9 : W9.heap[w9.heap.size]? = some (.cells #[Value.slice A9 c2.dry.length c9, Value.slice A9' c2.wet.length c9', .int .i64 c2.fuse, .bool c2.dead] 25 (0, 0)) := by rw [hW9]; exact heap_first _ _
              have hb9' := HB8.out.trans (hb9.mono HB8.out.size)
              have hb9a : Below W0.heap.size W0 W9 := hb9'.trans (hn9.mono hb9'.size)
              have HX9 := Lib.hid hx9
              have HZ9 := Lib.hid ((ho9.below hn9).reads (S := fun _ => True) fun _ => trivial)
              have HB9 := Lib.hid hb9a
              have hs9 : W0.heap.size ≤ w9.heap.size := hb9'.size
              have hl9 : w.heap.size < W9.heap.size := by omega
              have hm9 : w.heap.size < w9.heap.size := by omega
              have b9 := HBOX.out w9 hb9'
              clear hg9 ho9 hb9' hb9a hx9
              have hx89 := ((hb9.trans (hn9.mono hb9.size)).block w8.heap.size hk8).trans HX8.out
              have HZ89 := Lib.hid ((HZ8.out.below hb9).below hn9)
              have x89w : ∀ i, w9.cell? ⟨w8.heap.size, i, none⟩ = _ := fun i => cell_of_row w9 w8.heap.size i _ _ _ ((hb9.block w8.heap.size hk8).trans HX8.out)
              have hk89w : w8.heap.size < w9.heap.size := by have := hb9.size; omega
              have x89 : ∀ i, W9.cell? ⟨w8.heap.size, i, none⟩ = _ := fun i => cell_of_row W9 w8.heap.size i _ _ _ hx89
              have x99 : ∀ i, W9.cell? ⟨w9.heap.size, i, none⟩ = _ := fun i => cell_of_row W9 w9.heap.size i _ _ _ HX9.out
              have hk89 : w8.heap.size < W9.heap.size := by have := hb9.size; omega
              have hk99 : w9.heap.size < W9.heap.size := by omega
              have HSM := Lib.hid (same_dry _ _ cc c2 W9 HZ89.out HZ9.out Q3.out Q4.out Q5.out Q6.out Q7.out)
              clear x8 hb9 hn9 hx89
              go_wp2_with fail
              rw [← hW9]
              clear hW9 b9
              go_wp2_with fail
              refine HSM.out.mono ?_
              rintro e w10 ⟨rfl, hb10⟩
              have HBF := Lib.hid (HB0.out.trans ((HB9.out.trans (hb10.mono HB9.out.size)).mono (by omega)))
              clear hb10 x89 x99
              go_wp2_with fail
              go_ret
              exact ⟨rfl, HBF.out⟩
      · have t2 : decide (1000 < (more.length : Int)) = true := by simp; omega
        go_enter Try.func9, Try.ntmps9
        go_wp2_with fail
        rw [← hW0]
        clear hW0
        refine HLIVE.out.mono ?_
        rintro e w1 ⟨rfl, hb1⟩
        have b1 := HBOX.out w1 hb1
        have HB1 := Lib.hid hb1
        clear hb1
        go_wp2_with fail
        refine (HFEW.out w1 HB1.out).mono ?_
        rintro e w2 ⟨rfl, hb2⟩
        have HB2 := Lib.hid (HB0.out.trans ((HB1.out.trans (hb2.mono HB1.out.size)).mono (by omega)))
        clear hb2 b1
        go_wp2_with fail
        go_ret
        exact ⟨rfl, HB2.out⟩
    · have t1 : decide (1000 < (keep.length : Int)) = true := by simp; omega
      go_enter Try.func9, Try.ntmps9
      go_wp2_with fail
      rw [← hW0]
      clear hW0
      refine HLIVE.out.mono ?_
      rintro e w1 ⟨rfl, hb1⟩
      have b1 := HBOX.out w1 hb1
      have HB1 := Lib.hid hb1
      clear hb1
      go_wp2_with fail
      refine (HFEW.out w1 HB1.out).mono ?_
      rintro e w2 ⟨rfl, hb2⟩
      have HB2 := Lib.hid (HB0.out.trans ((HB1.out.trans (hb2.mono HB1.out.size)).mono (by omega)))
      clear hb2 b1
      go_wp2_with fail
      go_ret
      exact ⟨rfl, HB2.out⟩

end Go.Proofs.Ytpdjgkhmpkgipaa
