/- Contract of the reference's Read. -/
import Derived.Test.Ytikobhckkbicaaa1F
import Derived.Test.YtikobhckkbicaaaV
namespace Go.Proofs.Ytikobhckkbicaaa
open Go.RowKit Dk

theorem upTo_look (d : Disk) (k : Nat) (x : Wr) (at_ : Int) (h : d.wet[k]? = some x) : (upTo (k + 1) d).look at_ = if x.pos = at_ then x.b else (upTo k d).look at_ :=
  look_put rfl (by have e : d.wet.take (k + 1) = d.wet.take k ++ [x] := by rw [List.take_add_one, h]; rfl
                   exact e)

theorem upTo_look_zero (d : Disk) (at_ : Int) : (upTo 0 d).look at_ = (d.dry.drop (at_.toNat * 32)).take 32 := by simp [upTo, Disk.look]

set_option maxRecDepth 4000 in
set_option maxHeartbeats 4000000 in
theorem refRead_any (v : Value) (d : Disk) (at_ : Int) (w : World) (h : DiskR w (fun _ => True) v d) :
    Calls Try.prog 20 #[v, .int .i64 at_] w (GivesRE w (Dk.read d at_)) := by
  obtain ⟨i0, hi0, hz0', hz1', hz2'⟩ := info_parts info8
  have HD := Lib.hid h
  obtain ⟨vd, vw, rfl, ⟨A, c, rfl, hac, ham, _, hdc⟩, A', c', xs, rfl, hac', ham', _, hx, hcw⟩ := h
  unfold maxLen at ham ham'
  obtain ⟨W0, hW0⟩ : ∃ W0, W0 = w.alloc (Obj.cells #[Value.slice A d.dry.length c, Value.slice A' d.wet.length c', .int .i64 d.fuse, .bool d.dead] 25) := ⟨_, rfl⟩
  have hb0 : Below w.heap.size w W0 := by rw [hW0]; exact below_new _ _
  have hz0 : W0.heap.size = w.heap.size + 1 := by rw [hW0]; simp
  have hbox : W0.heap[w.heap.size]? = some (.cells #[Value.slice A d.dry.length c, Value.slice A' d.wet.length c', .int .i64 d.fuse, .bool d.dead] 25 (0, 0)) := by rw [hW0]; exact heap_first _ _
  have HX := Lib.hid hx
  have HCW := Lib.hid hcw
  have HDC := Lib.hid hdc
  have HB0 := Lib.hid hb0
  have HBOX := Lib.hid (fun W (hb : Below W0.heap.size W0 W) => below_past hbox hb)
  have HCK := Lib.hid (refCheck_any _ d W0 (HD.out.below hb0))
  clear hbox hx hcw hdc
  cases hok : d.ok
  · have hck : check d = 1 := by simp [check, hok]
    have HL := Lib.hid (show Dk.read d at_ = ([], 1) by simp [Dk.read, ready, hok])
    rw [hck] at HCK
    clear hok hck hb0
    go_enter Try.func20, Try.ntmps20
    go_wp2_with fail
    rw [← hW0]
    clear hW0
    refine HCK.out.mono ?_
    rintro e w1 ⟨rfl, hb1⟩
    have br1 := HBOX.out w1 hb1
    have b1 : ∀ i, w1.cell? ⟨w.heap.size, i, none⟩ = #[Value.slice A d.dry.length c, Value.slice A' d.wet.length c', .int .i64 d.fuse, .bool d.dead][i]? := fun i => cell_of_row w1 _ i _ _ _ br1
    have hl1 : w.heap.size < w1.heap.size := (Array.getElem?_eq_some_iff.1 br1).1
    clear br1
    have HB1 := Lib.hid hb1
    clear hb1
    go_wp2_with fail
    go_ret2
    rw [HL.out]
    exact ⟨_, rfl, World.ownsRow_nil _ _ _ _, HB0.out.trans (HB1.out.mono (by omega))⟩
  · have hck : check d = 0 := by simp [check, hok]
    rw [hck] at HCK
    have HOK := Lib.hid hok
    obtain ⟨hk, hall⟩ : (32 ≤ d.dry.length ∧ d.dry.length ≤ 262144 ∧ d.dry.length % 32 = 0 ∧ d.wet.length ≤ 8192 ∧ -1 ≤ d.fuse ∧ d.fuse ≤ 1073741824) ∧ ∀ x ∈ d.wet, okWr d.dry.length x = true := by
      simp only [Disk.ok, Bool.and_eq_true, decide_eq_true_eq, List.all_eq_true] at hok
      exact hok
    obtain ⟨j1, j2, j3, j4, j5, j6⟩ := hk
    have HALL := Lib.hid hall
    have K3 := Lib.hid j3
    clear hck hb0 hok hall j3
    by_cases hd : d.dead = false
    · have HRY := Lib.hid (show ready d true = 0 by simp [ready, HOK.out, hd])
      have HDD := Lib.hid hd
      clear hd
      by_cases p1 : at_ < 0
      · have HL := Lib.hid (show Dk.read d at_ = ([], 5) by
          have : d.has at_ = false := by simp [Disk.has]; omega
          rw [Dk.read, if_pos HRY.out, this]; rfl)
        go_enter Try.func20, Try.ntmps20
        go_wp2_with fail
        rw [← hW0]
        clear hW0
        refine HCK.out.mono ?_
        rintro e w1 ⟨rfl, hb1⟩
        have br1 := HBOX.out w1 hb1
        have b1 : ∀ i, w1.cell? ⟨w.heap.size, i, none⟩ = #[Value.slice A d.dry.length c, Value.slice A' d.wet.length c', .int .i64 d.fuse, .bool d.dead][i]? := fun i => cell_of_row w1 _ i _ _ _ br1
        have hl1 : w.heap.size < w1.heap.size := (Array.getElem?_eq_some_iff.1 br1).1
        clear br1
        rw [HDD.out] at b1
        have HB1 := Lib.hid hb1
        clear hb1
        go_wp2_with fail
        go_ret2
        rw [HL.out]
        exact ⟨_, rfl, World.ownsRow_nil _ _ _ _, HB0.out.trans (HB1.out.mono (by omega))⟩
      · by_cases p2 : at_ < (d.dry.length : Int) / 32
        · have hhas : d.has at_ = true := by simp [Disk.has]; omega
          have HL := Lib.hid (show Dk.read d at_ = (d.look at_, 0) by rw [Dk.read, if_pos HRY.out, hhas]; rfl)
          clear hhas
          obtain ⟨q, rfl⟩ : ∃ q : Nat, at_ = (q : Int) := ⟨at_.toNat, by omega⟩
          have hqn : q * 32 + 32 ≤ d.dry.length := by omega
          obtain ⟨a, hA, _, hcell⟩ := HDC.out (by rw [octets_length]; omega)
          subst hA
          have hsec : ((d.dry.drop (q * 32)).take 32).length = 32 := by rw [List.length_take, List.length_drop]; omega
          have HSEC := Lib.hid (show (octets ((d.dry.drop (q * 32)).take 32)).length = 32 * 1 by rw [octets_length, hsec])
          have HCS := Lib.hid (fun W (hb : Below w.heap.size w W) => (show Cells W (fun _ => True) (some (a.add (q * 32))) (octets ((d.dry.drop (q * 32)).take 32)) from fun _ => ⟨_, rfl, trivial, fun j u hu => by
            rw [add_add]
            have hj : j < 32 := by have := (List.getElem?_eq_some_iff.1 hu).1; rw [octets_length, hsec] at this; exact this
            have hu2 : (octets d.dry)[q * 32 + j]? = some u := by
              simp only [octets, List.getElem?_map] at hu ⊢
              rwa [List.getElem?_take_of_lt hj, List.getElem?_drop] at hu
            have hc0 := hcell _ _ hu2
            exact (hb.cell (World.block_lt_of_cell? w _ hc0)).trans hc0⟩))
          have w1' : IntKind.i64.wrap (32 * (q : Int)) = (q : Int) * 32 := (IntWalk.i64_in _ (by omega)).trans (Int.mul_comm _ _)
          have w2' : IntKind.i64.wrap ((q : Int) * 32 + 32) = (q : Int) * 32 + 32 := IntWalk.i64_in _ (by omega)
          have w3' : (0 : Int) ≤ (q : Int) * 32 := by omega
          have w4' : (0 : Int) ≤ (q : Int) * 32 + 32 := by omega
          have w5' : ((q : Int) * 32).toNat = q * 32 := by omega
          have w6' : ((q : Int) * 32 + 32).toNat = q * 32 + 32 := by omega
          have w7' : (q : Int) * 32 ≤ (q : Int) * 32 + 32 := by omega
          have w8' : (q : Int) * 32 + 32 ≤ (c : Int) := by omega
          have w9' : ¬ c = q * 32 := by omega
          have w10' : q * 32 + 32 - q * 32 = 32 := by omega
          have w11' : q * 32 < c := by omega
          have hz8 := upTo_look_zero d (q : Int)
          rw [Int.toNat_natCast] at hz8
          have HZ8 := Lib.hid hz8
          have HCELL := Lib.hid hcell
          clear hsec hz8 hcell
          go_enter Try.func20, Try.ntmps20
          go_wp2_with fail
          rw [← hW0]
          clear hW0
          refine HCK.out.mono ?_
          rintro e w1 ⟨rfl, hb1⟩
          have br1 := HBOX.out w1 hb1
          have b1 : ∀ i, w1.cell? ⟨w.heap.size, i, none⟩ = #[Value.slice (some a) d.dry.length c, Value.slice A' d.wet.length c', .int .i64 d.fuse, .bool d.dead][i]? := fun i => cell_of_row w1 _ i _ _ _ br1
          have hl1 : w.heap.size < w1.heap.size := (Array.getElem?_eq_some_iff.1 br1).1
          clear br1
          rw [HDD.out] at b1
          have HB1 := Lib.hid hb1
          clear hb1
          generalize hL : d.wet.length = L at *
          have HLW := Lib.hid hL
          clear hL
          go_wp2_with (at_builtin; refine wpList_append_cells _ rfl (.const (.slice none 0 0)) (.tmp 31) _ rfl W0.heap.size 5 i0 (.int .u8 0) 1 1 Try.underlying22 hi0 hz0' hz1' hz2' rfl (by decide) (.slice none 0 0) 0 [] rfl (World.ownsRow_nil _ _ _ _) (fun _ => True) (some (a.add (q * 32))) 32 (c - q * 32) _ rfl HSEC.out (HCS.out _ (HB0.out.trans (HB1.out.mono (by omega)))) octets_one (by unfold maxLen; omega) (by omega) HB1.out.size ?_)
          rintro v2 w2 hown2 hgr2 -
          (try simp only [Nat.zero_add, List.nil_append] at hown2)
          have hb2 : Below W0.heap.size W0 w2 := HB1.out.grown hgr2 HB1.out.size (fun j hj => nomatch (show (none : Option Nat) = some j from hj))
          have br2 := HBOX.out w2 hb2
          have b2 : w2.cell? ⟨w.heap.size, 1, none⟩ = some (.slice A' L c') := (cell_of_row w2 _ 1 _ _ _ br2).trans rfl
          have HO2 := Lib.hid hown2
          have HB2 := Lib.hid hb2
          clear b1 hl1 hown2 hgr2 hb2 br2
          go_wp2_with fail
          clear b2
          go_loopw [6, 36] (fun u i wr => ∃ k : Nat, k ≤ L ∧ i = .int .i64 (k : Int) ∧ wr.ownsRow (w.heap.size + 1) 5 1 u 32 (octets ((upTo k d).look (q : Int))) ∧ Below W0.heap.size W0 wr) (fun _ i _ => L - (intOf i).toNat)
          case atStart => exact ⟨0, by omega, rfl, by rw [HZ8.out]; exact HO2.out, HB2.out⟩
          case round =>
            obtain ⟨k, hk, rfl, hown, hbe⟩ := hrel
            have HOWN := Lib.hid hown
            have HBE := Lib.hid hbe
            clear hown hbe
            by_cases hlt : k < L
            · obtain ⟨x, hkx⟩ : ∃ x, d.wet[k]? = some x := ⟨_, List.getElem?_eq_getElem (by rw [HLW.out]; exact hlt)⟩
              obtain ⟨f1, vb, f2, B, cb, rfl, hb1, hb2, _, hcb⟩ := HX.out.2 k x hkx
              obtain ⟨ad, hA, _, hcell⟩ := HCW.out (by rw [HX.out.1, HLW.out]; omega)
              subst hA
              have hxo := HALL.out x (List.mem_of_getElem? hkx)
              simp only [okWr, decide_eq_true_eq] at hxo
              have hxl := hxo.1
              rw [hxl] at hb1 f2
              unfold maxLen at hb2
              have hbw : Below w.heap.size w wr := HB0.out.trans (HBE.out.mono (by omega))
              have HO := Lib.hid (fun (p : Addr) u (h : w.cell? p = some u) => (hbw.cell (World.block_lt_of_cell? w p h)).trans h)
              have c1 : wr.cell? (ad.add (k * 2)) = some (.int .i64 x.pos) := HO.out _ _ (hcell _ _ f1)
              have c2 := cell_next (HO.out _ _ (hcell _ _ f2))
              have hlook := upTo_look d k x (q : Int) hkx
              have HLK := Lib.hid hlook
              have hwz : W0.heap.size ≤ wr.heap.size := HBE.out.size
              have HBX := Lib.hid (hcb.below (hbw.alloc (by omega) (Obj.cells #[.int .i64 x.pos, .slice B 32 cb] 70)))
              have HXL := Lib.hid (show (octets x.b).length = 32 * 1 by rw [octets_length, hxl])
              have HBA := Lib.hid (HBE.out.alloc hwz (Obj.cells #[.int .i64 x.pos, .slice B 32 cb] 70))
              clear hkx f1 f2 hcell hcb hlook hxo hxl hbw
              by_cases hp : x.pos = (q : Int)
              · have tp : (x.pos == (q : Int)) = true := by simpa using hp
                have hl2 := HLK.out
                rw [if_pos hp] at hl2
                have HL2 := Lib.hid hl2
                clear hp hl2
                go_wp2_with (at_builtin; refine wpList_append_cells _ rfl (.const (.slice none 0 0)) (.tmp 45) _ rfl W0.heap.size 5 i0 (.int .u8 0) 1 1 Try.underlying22 hi0 hz0' hz1' hz2' rfl (by decide) (.slice none 0 0) 0 [] rfl (World.ownsRow_nil _ _ _ _) (fun _ => True) B 32 cb _ rfl HXL.out HBX.out octets_one (by unfold maxLen; omega) (by omega) HBA.out.size ?_)
                rintro v6 w6 hown6 hgr6 -
                (try simp only [Nat.zero_add, List.nil_append] at hown6)
                have hb6 : Below W0.heap.size W0 w6 := HBA.out.grown hgr6 HBA.out.size (fun j hj => nomatch (show (none : Option Nat) = some j from hj))
                have HO6 := Lib.hid hown6
                have HB6 := Lib.hid hb6
                clear hown6 hgr6 hb6
                go_wp2_with fail
                exact ⟨⟨k + 1, by omega, by go_num, by rw [HL2.out]; exact HO6.out, HB6.out⟩, by simp [intOf]; omega⟩
              · have tp : (x.pos == (q : Int)) = false := by simpa using hp
                have hl2 := HLK.out
                rw [if_neg hp] at hl2
                have HL2 := Lib.hid hl2
                clear hp hl2
                go_wp2_with fail
                exact ⟨⟨k + 1, by omega, by go_num, by rw [HL2.out]; exact HOWN.out.alloc _, HBA.out⟩, by simp [intOf]; omega⟩
            · obtain rfl : k = L := by omega
              have hlk : upTo k d = d := by rw [← HLW.out]; exact upTo_all d
              have hfin := HOWN.out
              rw [hlk] at hfin
              have hln : (d.look (q : Int)).length = 32 := by have := hfin.1; rw [octets_length] at this; omega
              have HF := Lib.hid hfin
              have HLN := Lib.hid hln
              clear hlk hfin hln
              go_wp2_with fail
              go_ret2
              rw [HL.out]
              refine ⟨_, rfl, ?_, HB0.out.trans (HBE.out.mono (by omega))⟩
              dsimp only
              rw [HLN.out]
              exact own_mono HF.out (by omega)
        · have HL := Lib.hid (show Dk.read d at_ = ([], 5) by
            have : d.has at_ = false := by simp [Disk.has]; omega
            rw [Dk.read, if_pos HRY.out, this]; rfl)
          go_enter Try.func20, Try.ntmps20
          go_wp2_with fail
          rw [← hW0]
          clear hW0
          refine HCK.out.mono ?_
          rintro e w1 ⟨rfl, hb1⟩
          have br1 := HBOX.out w1 hb1
          have b1 : ∀ i, w1.cell? ⟨w.heap.size, i, none⟩ = #[Value.slice A d.dry.length c, Value.slice A' d.wet.length c', .int .i64 d.fuse, .bool d.dead][i]? := fun i => cell_of_row w1 _ i _ _ _ br1
          have hl1 : w.heap.size < w1.heap.size := (Array.getElem?_eq_some_iff.1 br1).1
          clear br1
          rw [HDD.out] at b1
          have HB1 := Lib.hid hb1
          clear hb1
          go_wp2_with fail
          go_ret2
          rw [HL.out]
          exact ⟨_, rfl, World.ownsRow_nil _ _ _ _, HB0.out.trans (HB1.out.mono (by omega))⟩
    · replace hd : d.dead = true := by simpa using hd
      have HL := Lib.hid (show Dk.read d at_ = ([], 11) by simp [Dk.read, ready, HOK.out, hd])
      have HDD := Lib.hid hd
      clear hd
      go_enter Try.func20, Try.ntmps20
      go_wp2_with fail
      rw [← hW0]
      clear hW0
      refine HCK.out.mono ?_
      rintro e w1 ⟨rfl, hb1⟩
      have br1 := HBOX.out w1 hb1
      have b1 : ∀ i, w1.cell? ⟨w.heap.size, i, none⟩ = #[Value.slice A d.dry.length c, Value.slice A' d.wet.length c', .int .i64 d.fuse, .bool d.dead][i]? := fun i => cell_of_row w1 _ i _ _ _ br1
      have hl1 : w.heap.size < w1.heap.size := (Array.getElem?_eq_some_iff.1 br1).1
      clear br1
      rw [HDD.out] at b1
      have HB1 := Lib.hid hb1
      clear hb1
      go_wp2_with fail
      go_ret2
      rw [HL.out]
      exact ⟨_, rfl, World.ownsRow_nil _ _ _ _, HB0.out.trans (HB1.out.mono (by omega))⟩

end Go.Proofs.Ytikobhckkbicaaa
