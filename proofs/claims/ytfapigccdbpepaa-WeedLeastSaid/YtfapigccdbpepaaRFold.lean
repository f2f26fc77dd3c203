/- THE CONTRACT OF the document's Fold. -/
import Derived.Test.YtfapigccdbpepaaRThin
import Derived.Test.YtfapigccdbpepaaWFold
namespace Go.Proofs.Ytfapigccdbpepaa
open Go.RowKit

/-- A new record of four cells in memory. -/
abbrev oR (x : Pl.Rc) : Obj := .cells #[.int .i64 x.off, .string ⟨x.key.toArray⟩, .string ⟨x.val.toArray⟩, .bool x.gone] 44
theorem oR_new (w : World) (x : Pl.Rc) : ∀ j u, (cells4 x)[j]? = some u → (w.alloc (oR x)).cell? ((⟨w.heap.size, 0, none⟩ : Addr).add j) = some u := fun j u hj => by
  rw [Addr.add_lit, Nat.zero_add]
  exact (Blk.new w _ _).cell (by rw [← hj, ← List.getElem?_toArray]; rfl)

/-- What lies there while x is put into S: all so far in av, x in the block N1, what is written in ov. -/
structure FoS (z N1 : Nat) (W1 : World) (av : Value) (ga : Option Nat) (S : List Pl.Rc) (x : Pl.Rc) (ov : Value) (go : Option Nat) (os : List Pl.Rc) (X : World) : Prop where
  all : Wr z av ga S X
  one : Blk X N1 (cells4 x).toArray 44
  out : Wr (N1 + 1) ov go os X
  bel : Below (N1 + 1) W1 X
  size : N1 + 1 ≤ X.heap.size
  lo : ∀ b, ga = some b → b < N1
section
variable {z N1 : Nat} {W1 X X' : World} {av ov v' : Value} {ga go go' : Option Nat} {S os os' : List Pl.Rc} {x : Pl.Rc}
theorem FoS.below (h : FoS z N1 W1 av ga S x ov go os X) (b : Below X.heap.size X X') : FoS z N1 W1 av ga S x ov go os X' :=
  ⟨h.all.below b, h.one.below b, h.out.below b, h.bel.trans (b.mono h.size), Nat.le_trans h.size b.size, h.lo⟩
theorem FoS.alloc (h : FoS z N1 W1 av ga S x ov go os X) (o : Obj) : FoS z N1 W1 av ga S x ov go os (X.alloc o) := h.below ((Below.refl _ _).alloc (Nat.le_refl _) o)
theorem FoS.add (h : FoS z N1 W1 av ga S x ov go os X) (hw : Wr (N1 + 1) v' go' os' X') (hg : X.grownBy X' go) : FoS z N1 W1 av ga S x v' go' os' X' :=
  ⟨⟨h.all.1.same fun b e => hg.block b (h.all.1.lt b e) (fun e2 => by have := h.lo b e; have := h.out.2 b e2.symm; omega), h.all.2⟩,
    h.one.same (hg.block _ h.one.lt fun e => by have := h.out.2 _ e.symm; omega), hw, Below.appended h.bel hg h.out.2 h.size, Nat.le_trans h.size hg.size, h.lo⟩
theorem FoS.cells (h : FoS z N1 W1 av ga S x ov go os X) : X.cell? ⟨N1, 0, none⟩ = some (.int .i64 x.off) ∧ X.cell? ⟨N1, 1, none⟩ = some (.string ⟨x.key.toArray⟩) ∧ X.cell? ⟨N1, 2, none⟩ = some (.string ⟨x.val.toArray⟩) ∧ X.cell? ⟨N1, 3, none⟩ = some (.bool x.gone) :=
  ⟨h.one.cell (i := 0) rfl, h.one.cell (i := 1) rfl, h.one.cell (i := 2) rfl, h.one.cell (i := 3) rfl⟩
theorem FoS.at (h : FoS z N1 W1 av ga S x ov go os X) {j : Nat} {y : Pl.Rc} (hj : S[j]? = some y) : ∃ b o cap, av = .slice (some ⟨b, o, none⟩) S.length cap ∧ X.cell? ⟨b, o + j * 4, none⟩ = some (.int .i64 y.off) ∧ X.cell? ⟨b, o + j * 4 + 1, none⟩ = some (.string ⟨y.key.toArray⟩) ∧ X.cell? ⟨b, o + j * 4 + 2, none⟩ = some (.string ⟨y.val.toArray⟩) ∧ X.cell? ⟨b, o + j * 4 + 3, none⟩ = some (.bool y.gone) := by
  obtain ⟨a, cap, e, hc⟩ := h.all.rc.recs
  obtain ⟨b, o, rfl, -, c0, c1, c2, c3⟩ := hc j y hj
  exact ⟨b, o, cap, e, c0, c1, c2, c3⟩
/-- One record more is written. -/
theorem wp_fo_add {ops : Array Oper} {rest : List Oper} {o : Oper} {a : Act} {Q : Exit → Act → World → Prop} (hgd : o.guard = none) (s t : Operand) (ho : o.op = .call { callee := .builtin .append, args := #[s, t], argTypes := #[30, 30] })
    (y : Pl.Rc) (h : FoS z N1 W1 av ga S x ov go os X) (hs : a.eval s = ov) (c : Nat) (hx : a.eval t = .slice (some ⟨X.heap.size, 0, none⟩) 1 c) (hl : os.length ≤ 1099511627776)
    (k : ∀ v' go' w', FoS z N1 W1 av ga S x v' go' (os ++ [y]) w' → wpList Try.prog ops Q rest (a.put o.dst v') w') : wpList Try.prog ops Q (o :: rest) a (X.alloc (oR y)) := by
  have h1 := h.alloc (oR y)
  exact wp_add_rec hgd s t ho hs h1.out ⟨X.heap.size, 0, none⟩ c y hx (oR_new X y) hl h1.size fun v' gb' w' k1 k2 => k v' gb' w' (h1.add k1 k2)
/-- .. where its block is named otherwise. -/
theorem wp_fo_add2 {ops : Array Oper} {rest : List Oper} {o : Oper} {a : Act} {Q : Exit → Act → World → Prop} (hgd : o.guard = none) (s t : Operand) (ho : o.op = .call { callee := .builtin .append, args := #[s, t], argTypes := #[30, 30] })
    (y : Pl.Rc) (h : FoS z N1 W1 av ga S x ov go os X) (hs : a.eval s = ov) (n c : Nat) (hn : X.heap.size = n) (hx : a.eval t = .slice (some ⟨n, 0, none⟩) 1 c) (hl : os.length ≤ 1099511627776)
    (k : ∀ v' go' w', FoS z N1 W1 av ga S x v' go' (os ++ [y]) w' → wpList Try.prog ops Q rest (a.put o.dst v') w') : wpList Try.prog ops Q (o :: rest) a (X.alloc (oR y)) :=
  wp_fo_add hgd s t ho y h hs c (by rw [hn]; exact hx) hl k
end

set_option maxHeartbeats 8000000 in
set_option maxRecDepth 100000 in
theorem rfold {A : Nat → Prop} (v : Value) (L : List (Pl.Bt × Value)) (upto : Int) (w : World) (hv : BtIn A w v L) (hl : L.length ≤ 1099511627776) (hr : ∀ q ∈ L, q.1.recs.length ≤ 1099511627776) (hall : (Wd.rcs (L.map (·.1))).length ≤ 549755813888) :
    Calls Try.prog 17 #[v, .int .i64 upto] w (FoldOut w (L.map (·.1)) upto) := by
  obtain ⟨a1, cap1, rfl⟩ := hv.1.form
  obtain ⟨m, hm⟩ : ∃ m, L.length = m := ⟨_, rfl⟩
  have HV := Lib.hid hv
  rw [hm] at hl HV ⊢
  have HM := Lib.hid hm
  have HR := Lib.hid hr
  have HALL := Lib.hid hall
  clear hv hm hr hall
  go_enter Try.func17, Try.ntmps17
  go_wp2_with fail
  have ho := Wr.empty w (Nat.le_refl w.heap.size)
  have hb0 : Below w.heap.size w (w.alloc (.cells #[] 44)) := (Below.refl _ _).alloc (Nat.le_refl _) _
  have HT := Lib.hid (And.intro ho hb0)
  clear ho hb0
  go_loopw [5, 6] (fun av iv wr => ∃ (i : Nat) (ga : Option Nat), i ≤ m ∧ iv = .int .i64 i ∧ Wr w.heap.size av ga (Wd.upTo (L.map (·.1)) upto i 0) wr ∧ Below w.heap.size w wr) (fun _ iv _ => m - (intOf iv).toNat)
  case atStart => exact ⟨0, _, Nat.zero_le _, rfl, HT.out.1, HT.out.2⟩
  case round =>
    obtain ⟨i, ga, hi, rfl, hwa, hbw⟩ := hrel
    have HWA := Lib.hid hwa
    have HBW := Lib.hid hbw
    clear HT
    by_cases hlt : i < m
    · obtain ⟨⟨⟨tb, tc, tp, ts, tt, ls⟩, sv⟩, hg⟩ : ∃ q, L[i]? = some q := ⟨_, List.getElem?_eq_getElem (by rw [HM.out]; exact hlt)⟩
      have hgm : (L.map (·.1))[i]? = some ⟨tb, tc, tp, ts, tt, ls⟩ := by rw [List.getElem?_map, hg]; rfl
      have hls := HR.out _ (List.mem_of_getElem? hg)
      obtain ⟨a2, cap2, rfl⟩ : ∃ a c, sv = .slice a ls.length c := (HV.out.2 _ (List.mem_of_getElem? hg)).slice
      obtain ⟨n, hn⟩ : ∃ n, ls.length = n := ⟨_, rfl⟩
      have hln : n ≤ 1099511627776 := by rw [← hn]; exact hls
      have HNN := Lib.hid hn
      have HG := Lib.hid hg
      have HGM := Lib.hid hgm
      clear hls hn hg hgm hwa hbw
      go_wp2_with fail
      go_loopw [5, 7] (fun av kv wz => ∃ (k : Nat) (ga : Option Nat), k ≤ n ∧ kv = .int .i64 k ∧ Wr w.heap.size av ga (Wd.upTo (L.map (·.1)) upto i k) wz ∧ Below w.heap.size w wz) (fun _ kv _ => n - (intOf kv).toNat)
      case atStart => exact ⟨0, _, Nat.zero_le _, rfl, HWA.out, HBW.out⟩
      case round =>
        obtain ⟨k, ga, hk, rfl, hwa, hbw⟩ := hrel
        have HWA := Lib.hid hwa
        have HBW := Lib.hid hbw
        obtain ⟨b1, o1, cp1, e1, -, -, -, -, -, -, -, c5, hr1⟩ := (HV.out.below hbw).get HG.out
        obtain rfl : a1 = some ⟨b1, o1, none⟩ := by injection e1
        rw [HNN.out] at c5
        by_cases hkn : k < n
        · obtain ⟨x, hy⟩ : ∃ y, ls[k]? = some y := ⟨_, List.getElem?_eq_getElem (by rw [HNN.out]; exact hkn)⟩
          obtain ⟨a3, cap3, e3, hrc⟩ := hr1.recs
          have hrc2 : a2 = a3 := by injection e3
          subst hrc2
          obtain ⟨b3, o3, rfl, hbl3, d0, d1, d2, d3⟩ := hrc k _ hy
          have HOUT := Lib.hid fun hu : Wd.under upto x = false => Wd.upTo_out (upto := upto) HGM.out hy hu
          have HIN := Lib.hid fun hu : Wd.under upto x = true => Wd.upTo_in (upto := upto) HGM.out hy hu
          have HAL : Hid (Wr w.heap.size u5 ga (Wd.upTo (L.map (·.1)) upto i k) (wr.alloc (oR x)) ∧ Below w.heap.size w (wr.alloc (oR x))) := Lib.hid ⟨hwa.below ((Below.refl _ _).alloc (Nat.le_refl _) _), hbw.alloc hbw.size _⟩
          obtain ⟨off, key, val, gone⟩ := x
          clear hrc hr1 e1 e3 hbl3 hy hwa hbw
          by_cases h1 : key = []
          · have hu : Wd.under upto ⟨off, key, val, gone⟩ = false := by simp [Wd.under, h1]
            have HE := Lib.hid (HOUT.out hu)
            subst h1
            clear hu
            go_wp2_with fail
            go_roundw
            case rel => exact ⟨k + 1, ga, by omega, by go_num, by rw [HE.out]; exact HAL.out.1, HAL.out.2⟩
            case measure => simp [intOf]; omega
          have hne : key.isEmpty = false := by cases key with
            | nil => exact absurd rfl h1
            | cons => rfl
          by_cases h2 : upto ≤ off
          · have hu : Wd.under upto ⟨off, key, val, gone⟩ = false := by simp [Wd.under, h2]
            have HE := Lib.hid (HOUT.out hu)
            have hd : decide (upto ≤ off) = true := by simpa using h2
            clear hu
            go_wp2_with fail
            go_roundw
            case rel => exact ⟨k + 1, ga, by omega, by go_num, by rw [HE.out]; exact HAL.out.1, HAL.out.2⟩
            case measure => simp [intOf]; omega
          have hd : decide (upto ≤ off) = false := by simpa using h2
          have HINS := Lib.hid (HIN.out (by simp [Wd.under, h1]; omega))
          clear h1 h2 HIN HOUT
          obtain ⟨S, hS⟩ : ∃ S, Wd.upTo (L.map (·.1)) upto i k = S := ⟨_, rfl⟩
          have hsrt : Wd.Srt S := by rw [← hS]; exact Wd.upTo_srt _ _ _ _
          have hslen : S.length ≤ 549755813888 := by rw [← hS]; exact Nat.le_trans (Wd.upTo_len _ _ _ _) HALL.out
          rw [hS] at HAL HWA HINS
          obtain ⟨sn, hsn⟩ : ∃ sn, S.length = sn := ⟨_, rfl⟩
          obtain ⟨aa, ac, rfl⟩ : ∃ a c, u5 = .slice a S.length c := HWA.out.form
          rw [hsn] at hslen HWA HAL ⊢
          have HSN := Lib.hid hsn
          have HSRT := Lib.hid hsrt
          obtain ⟨W1, hW1⟩ : ∃ W1, wr.alloc (oR ⟨off, key, val, gone⟩) = W1 := ⟨_, rfl⟩
          rw [hW1] at HAL
          obtain ⟨N1, hN1⟩ : ∃ N1, wr.heap.size = N1 := ⟨_, rfl⟩
          have bW1 : Blk W1 N1 #[.int .i64 off, .string ⟨key.toArray⟩, .string ⟨val.toArray⟩, .bool gone] 44 := by rw [← hW1, ← hN1]; exact Blk.new _ _ _
          have hb1 : Below N1 wr W1 := by rw [← hW1, ← hN1]; exact (Below.refl _ _).alloc (Nat.le_refl _) _
          have s1 : W1.heap.size = N1 + 1 := by rw [← hW1, ← hN1]; simp
          have hr0 : Wr (N1 + 1) _ _ [] _ := Wr.empty W1 (Nat.le_of_eq s1.symm)
          rw [s1] at hr0
          have hal : Below W1.heap.size W1 (W1.alloc (.cells #[] 44)) := (Below.refl _ _).alloc (Nat.le_refl _) _
          have HF0 : Hid (FoS w.heap.size N1 W1 (.slice aa sn ac) ga S ⟨off, key, val, gone⟩ (.slice (some ⟨N1 + 1, 0, none⟩) 0 0) (some (N1 + 1)) [] (W1.alloc (.cells #[] 44))) :=
            Lib.hid ⟨HAL.out.1.below hal, bW1.below hal, hr0, by rw [← s1]; exact hal, by rw [← s1]; exact hal.size, fun b e => by rw [← hN1]; exact (HWA.out.lt b e).2⟩
          have HN1 := Lib.hid hN1
          have HB1 := Lib.hid hb1
          have HS1 := Lib.hid s1
          have HW1 := Lib.hid hW1
          clear hr0 hal s1 hb1 bW1 hS hsrt hsn hW1 HAL
          go_upto_region 10 with fail
          rw [HW1.out]
          go_wp2_with fail
          rw [HS1.out]
          clear hN1 d0 d1 d2 d3 c5
          go_loopw [9, 10, 11] (fun ov dv jv wq => ∃ (j : Nat) (go : Option Nat), j ≤ sn ∧ jv = .int .i64 j ∧ dv = .bool (Wd.dn S ⟨off, key, val, gone⟩ j) ∧ FoS w.heap.size N1 W1 (.slice aa sn ac) ga S ⟨off, key, val, gone⟩ ov go (Wd.op S ⟨off, key, val, gone⟩ j) wq) (fun _ _ jv _ => sn - (intOf jv).toNat)
          case atStart => exact ⟨0, _, Nat.zero_le _, rfl, rfl, HF0.out⟩
          case round =>
            obtain ⟨j, go, hj, rfl, rfl, hfo⟩ := hrel
            have HFO := Lib.hid hfo
            clear HF0
            by_cases hjs : j < sn
            · obtain ⟨y, hy⟩ : ∃ y, S[j]? = some y := ⟨_, List.getElem?_eq_getElem (by rw [HSN.out]; exact hjs)⟩
              have HOL := Lib.hid (Nat.le_trans (Wd.op_len S ⟨off, key, val, gone⟩ j) (by rw [HSN.out]; omega : S.length + 1 ≤ 1099511627776))
              obtain ⟨n0, n1, n2, n3⟩ := hfo.cells
              obtain ⟨yb, yo, ycap, e, y0, y1, y2, y3⟩ := hfo.at hy
              obtain rfl : aa = some ⟨yb, yo, none⟩ := by injection e
              obtain ⟨yoff, ykey, yval, ygone⟩ := y
              simp only at n0 n1 n2 n3 y0 y1 y2 y3
              have HY := Lib.hid hy
              clear hfo e hy
              have HFO := Lib.hid HFO.out
              cases hdn : Wd.dn S ⟨off, key, val, gone⟩ j with
              | true =>
                obtain ⟨p1, p2, p3⟩ := Wd.op_in HSRT.out HY.out hdn
                have HP := Lib.hid (And.intro p1 p2)
                have hek : (ykey == key) = false := by simpa using p3
                clear p1 p2 hdn p3
                go_wp2_with fail
                go_quiet (fail)
                obtain ⟨W3, hW3⟩ : ∃ W, wr.drewN nq = W := ⟨_, rfl⟩
                have HF3 := Lib.hid (HFO.out.below (show Below wr.heap.size wr W3 by rw [← hW3]; exact below_drewN _ _))
                rw [hW3]
                clear hW3 n0 n1 n2 n3 y0 y1 y2 y3
                obtain ⟨n0, n1, n2, n3⟩ := HF3.out.cells
                obtain ⟨yb', yo', ycap', e, y0, y1, y2, y3⟩ := HF3.out.at HY.out
                have e' : (some ⟨yb, yo, none⟩ : Option Addr) = some ⟨yb', yo', none⟩ := by injection e
                obtain ⟨rfl, rfl⟩ : yb = yb' ∧ yo = yo' := by injection e' with e'; injection e' with e1 e2; exact ⟨e1, e2⟩
                simp only at n0 n1 n2 n3 y0 y1 y2 y3
                clear e e'
                go_wp2_with fail
                go_quiet (fail)
                obtain ⟨W4, hW4⟩ : ∃ W, W3.drewN nq = W := ⟨_, rfl⟩
                have HF4 := Lib.hid (HF3.out.below (show Below W3.heap.size W3 W4 by rw [← hW4]; exact below_drewN _ _))
                rw [hW4]
                clear hW4 n0 n1 n2 n3 y0 y1 y2 y3
                obtain ⟨n0, n1, n2, n3⟩ := HF4.out.cells
                obtain ⟨yb', yo', ycap', e, y0, y1, y2, y3⟩ := HF4.out.at HY.out
                have e' : (some ⟨yb, yo, none⟩ : Option Addr) = some ⟨yb', yo', none⟩ := by injection e
                obtain ⟨rfl, rfl⟩ : yb = yb' ∧ yo = yo' := by injection e' with e'; injection e' with e1 e2; exact ⟨e1, e2⟩
                simp only at n0 n1 n2 n3 y0 y1 y2 y3
                clear e e'
                go_wp2_with (at_builtin; refine wp_fo_add (by rfl) _ _ (by rfl) ⟨yoff, ykey, yval, ygone⟩ HF4.out (by rfl) 1 (by rfl) HOL.out ?_)
                intro v9 g9 w9 hf9
                rw [← HP.out.1] at hf9
                have HF9 := Lib.hid hf9
                clear hf9 n0 n1 n2 n3 y0 y1 y2 y3
                go_wp2_with fail
                go_roundw
                case rel => exact ⟨j + 1, g9, by omega, by go_num, by rw [HP.out.2], HF9.out⟩
                case measure => simp [intOf]; omega
              | false =>
                by_cases hlt1 : key < ykey
                · obtain ⟨p1, p2, p3⟩ := Wd.op_ahead (x := ⟨off, key, val, gone⟩) HY.out hdn hlt1
                  have HP := Lib.hid (And.intro (p1.trans (List.append_assoc _ _ _) : _ = _ ++ ([⟨off, key, val, gone⟩, ⟨yoff, ykey, yval, ygone⟩] : List Pl.Rc)) p2)
                  have hek : (ykey == key) = false := by simpa using p3
                  have hbl : Op.bytesLess key ykey = true := by rw [bytesLess_eq]; simpa using hlt1
                  clear p1 p2 hdn p3 hlt1
                  go_wp2_with fail
                  go_quiet (fail)
                  obtain ⟨W3, hW3⟩ : ∃ W, wr.drewN nq = W := ⟨_, rfl⟩
                  have HF3 := Lib.hid (HFO.out.below (show Below wr.heap.size wr W3 by rw [← hW3]; exact below_drewN _ _))
                  rw [hW3]
                  clear hW3 n0 n1 n2 n3 y0 y1 y2 y3
                  obtain ⟨n0, n1, n2, n3⟩ := HF3.out.cells
                  obtain ⟨yb', yo', ycap', e, y0, y1, y2, y3⟩ := HF3.out.at HY.out
                  have e' : (some ⟨yb, yo, none⟩ : Option Addr) = some ⟨yb', yo', none⟩ := by injection e
                  obtain ⟨rfl, rfl⟩ : yb = yb' ∧ yo = yo' := by injection e' with e'; injection e' with e1 e2; exact ⟨e1, e2⟩
                  simp only at n0 n1 n2 n3 y0 y1 y2 y3
                  clear e e'
                  go_wp2_with (at_builtin; refine wp_fo_add (by rfl) _ _ (by rfl) ⟨off, key, val, gone⟩ HF3.out (by rfl) 1 (by rfl) HOL.out ?_)
                  intro v5 g5 w5 hf5
                  have HF5 := Lib.hid hf5
                  have HOL5 : Hid ((Wd.op S ⟨off, key, val, gone⟩ j ++ [(⟨off, key, val, gone⟩ : Pl.Rc)]).length ≤ 1099511627776) := Lib.hid (by have := Wd.op_len S ⟨off, key, val, gone⟩ j; have := HSN.out; rw [List.length_append, List.length_singleton]; omega)
                  clear hf5 n0 n1 n2 n3 y0 y1 y2 y3
                  obtain ⟨n0, n1, n2, n3⟩ := HF5.out.cells
                  obtain ⟨yb', yo', ycap', e, y0, y1, y2, y3⟩ := HF5.out.at HY.out
                  have e' : (some ⟨yb, yo, none⟩ : Option Addr) = some ⟨yb', yo', none⟩ := by injection e
                  obtain ⟨rfl, rfl⟩ : yb = yb' ∧ yo = yo' := by injection e' with e'; injection e' with e1 e2; exact ⟨e1, e2⟩
                  simp only at n0 n1 n2 n3 y0 y1 y2 y3
                  clear e e'
                  go_wp2_with fail
                  go_quiet (fail)
                  obtain ⟨W4, hW4⟩ : ∃ W, w5.drewN nq = W := ⟨_, rfl⟩
                  have HF4 := Lib.hid (HF5.out.below (show Below w5.heap.size w5 W4 by rw [← hW4]; exact below_drewN _ _))
                  rw [hW4]
                  clear hW4 n0 n1 n2 n3 y0 y1 y2 y3
                  obtain ⟨n0, n1, n2, n3⟩ := HF4.out.cells
                  obtain ⟨yb', yo', ycap', e, y0, y1, y2, y3⟩ := HF4.out.at HY.out
                  have e' : (some ⟨yb, yo, none⟩ : Option Addr) = some ⟨yb', yo', none⟩ := by injection e
                  obtain ⟨rfl, rfl⟩ : yb = yb' ∧ yo = yo' := by injection e' with e'; injection e' with e1 e2; exact ⟨e1, e2⟩
                  simp only at n0 n1 n2 n3 y0 y1 y2 y3
                  clear e e'
                  go_wp2_with (at_builtin; refine wp_fo_add (by rfl) _ _ (by rfl) ⟨yoff, ykey, yval, ygone⟩ HF4.out (by rfl) 1 (by rfl) HOL5.out ?_)
                  intro v9 g9 w9 hf9
                  rw [← HP.out.1] at hf9
                  have HF9 := Lib.hid hf9
                  clear hf9 n0 n1 n2 n3 y0 y1 y2 y3
                  go_wp2_with fail
                  go_roundw
                  case rel => exact ⟨j + 1, g9, by omega, by go_num, by rw [HP.out.2], HF9.out⟩
                  case measure => simp [intOf]; omega
                · by_cases heq : ykey = key
                  · obtain ⟨p1, p2, p3⟩ := Wd.op_at (x := ⟨off, key, val, gone⟩) HY.out hdn heq
                    have HP := And.intro p1 p2
                    subst heq
                    have hek : (ykey == ykey) = true := by simp
                    have hbl : Op.bytesLess ykey ykey = false := by rw [bytesLess_eq]; simp
                    clear p1 p2 hdn p3 hlt1
                    have HP := Lib.hid HP
                    go_wp2_with fail
                    go_quiet (fail)
                    obtain ⟨W3, hW3⟩ : ∃ W, wr.drewN nq = W := ⟨_, rfl⟩
                    have HF3 := Lib.hid (HFO.out.below (show Below wr.heap.size wr W3 by rw [← hW3]; exact below_drewN _ _))
                    rw [hW3]
                    clear hW3 n0 n1 n2 n3 y0 y1 y2 y3
                    obtain ⟨n0, n1, n2, n3⟩ := HF3.out.cells
                    obtain ⟨yb', yo', ycap', e, y0, y1, y2, y3⟩ := HF3.out.at HY.out
                    have e' : (some ⟨yb, yo, none⟩ : Option Addr) = some ⟨yb', yo', none⟩ := by injection e
                    obtain ⟨rfl, rfl⟩ : yb = yb' ∧ yo = yo' := by injection e' with e'; injection e' with e1 e2; exact ⟨e1, e2⟩
                    simp only at n0 n1 n2 n3 y0 y1 y2 y3
                    clear e e'
                    go_wp2_with fail
                    go_quiet (fail)
                    obtain ⟨W4, hW4⟩ : ∃ W, W3.drewN nq = W := ⟨_, rfl⟩
                    have HF4 := Lib.hid (HF3.out.below (show Below W3.heap.size W3 W4 by rw [← hW4]; exact below_drewN _ _))
                    rw [hW4]
                    clear hW4 n0 n1 n2 n3 y0 y1 y2 y3
                    obtain ⟨n0, n1, n2, n3⟩ := HF4.out.cells
                    obtain ⟨yb', yo', ycap', e, y0, y1, y2, y3⟩ := HF4.out.at HY.out
                    have e' : (some ⟨yb, yo, none⟩ : Option Addr) = some ⟨yb', yo', none⟩ := by injection e
                    obtain ⟨rfl, rfl⟩ : yb = yb' ∧ yo = yo' := by injection e' with e'; injection e' with e1 e2; exact ⟨e1, e2⟩
                    simp only at n0 n1 n2 n3 y0 y1 y2 y3
                    clear e e'
                    have m0 : ∀ o, (W4.alloc o).cell? ⟨N1, 0, none⟩ = some (.int .i64 off) := fun o => (HF4.out.alloc o).cells.1
                    have m1 : ∀ o, (W4.alloc o).cell? ⟨N1, 1, none⟩ = some (.string ⟨ykey.toArray⟩) := fun o => (HF4.out.alloc o).cells.2.1
                    have m2 : ∀ o, (W4.alloc o).cell? ⟨N1, 2, none⟩ = some (.string ⟨val.toArray⟩) := fun o => (HF4.out.alloc o).cells.2.2.1
                    have m3 : ∀ o, (W4.alloc o).cell? ⟨N1, 3, none⟩ = some (.bool gone) := fun o => (HF4.out.alloc o).cells.2.2.2
                    by_cases hyo : yoff ≤ off
                    · have hdo : decide (yoff ≤ off) = true := by simpa using hyo
                      have HFA := Lib.hid (HF4.out.alloc (oR ⟨off, ykey, val, gone⟩))
                      have HSZ4 : Hid ((W4.alloc (oR ⟨off, ykey, val, gone⟩)).heap.size = W4.heap.size + 1) := Lib.hid (by simp)
                      have hp := HP.out; rw [if_pos hyo] at hp; have HP := Lib.hid hp; clear hp
                      go_wp2_with (at_builtin; refine wp_fo_add2 (by rfl) _ _ (by rfl) ⟨off, ykey, val, gone⟩ HFA.out (by rfl) (W4.heap.size + 1) 1 HSZ4.out (by rfl) HOL.out ?_)
                      intro v9 g9 w9 hf9
                      rw [← HP.out.1] at hf9
                      have HF9 := Lib.hid hf9
                      clear hf9 n0 n1 n2 n3 y0 y1 y2 y3
                      go_wp2_with fail
                      go_roundw
                      case rel => exact ⟨j + 1, g9, by omega, by go_num, by rw [HP.out.2], HF9.out⟩
                      case measure => simp [intOf]; omega
                    · have hdo : decide (yoff ≤ off) = false := by simpa using hyo
                      have HFA := Lib.hid (HF4.out.alloc (oR ⟨yoff, ykey, yval, ygone⟩))
                      have HSZ4 : Hid ((W4.alloc (oR ⟨yoff, ykey, yval, ygone⟩)).heap.size = W4.heap.size + 1) := Lib.hid (by simp)
                      have hp := HP.out; rw [if_neg hyo] at hp; have HP := Lib.hid hp; clear hp
                      go_wp2_with (at_builtin; refine wp_fo_add2 (by rfl) _ _ (by rfl) ⟨yoff, ykey, yval, ygone⟩ HFA.out (by rfl) (W4.heap.size + 1) 1 HSZ4.out (by rfl) HOL.out ?_)
                      intro v9 g9 w9 hf9
                      rw [← HP.out.1] at hf9
                      have HF9 := Lib.hid hf9
                      clear hf9 n0 n1 n2 n3 y0 y1 y2 y3
                      go_wp2_with fail
                      go_roundw
                      case rel => exact ⟨j + 1, g9, by omega, by go_num, by rw [HP.out.2], HF9.out⟩
                      case measure => simp [intOf]; omega
                  · have hlt2 : ykey < key := by
                      rcases Wd.key_tri ykey key with h | h | h
                      · exact h
                      · exact absurd h heq
                      · exact absurd h hlt1
                    obtain ⟨p1, p2, p3, p4⟩ := Wd.op_on (x := ⟨off, key, val, gone⟩) HY.out hdn hlt2
                    have HP := Lib.hid (And.intro p1 p2)
                    have hek : (ykey == key) = false := by simpa using p4
                    have hbl : Op.bytesLess key ykey = false := by rw [bytesLess_eq]; simpa using p3
                    clear p1 p2 hdn p3 p4 hlt1 hlt2 heq
                    go_wp2_with fail
                    go_quiet (fail)
                    obtain ⟨W3, hW3⟩ : ∃ W, wr.drewN nq = W := ⟨_, rfl⟩
                    have HF3 := Lib.hid (HFO.out.below (show Below wr.heap.size wr W3 by rw [← hW3]; exact below_drewN _ _))
                    rw [hW3]
                    clear hW3 n0 n1 n2 n3 y0 y1 y2 y3
                    obtain ⟨n0, n1, n2, n3⟩ := HF3.out.cells
                    obtain ⟨yb', yo', ycap', e, y0, y1, y2, y3⟩ := HF3.out.at HY.out
                    have e' : (some ⟨yb, yo, none⟩ : Option Addr) = some ⟨yb', yo', none⟩ := by injection e
                    obtain ⟨rfl, rfl⟩ : yb = yb' ∧ yo = yo' := by injection e' with e'; injection e' with e1 e2; exact ⟨e1, e2⟩
                    simp only at n0 n1 n2 n3 y0 y1 y2 y3
                    clear e e'
                    go_wp2_with fail
                    go_quiet (fail)
                    obtain ⟨W4, hW4⟩ : ∃ W, W3.drewN nq = W := ⟨_, rfl⟩
                    have HF4 := Lib.hid (HF3.out.below (show Below W3.heap.size W3 W4 by rw [← hW4]; exact below_drewN _ _))
                    rw [hW4]
                    clear hW4 n0 n1 n2 n3 y0 y1 y2 y3
                    obtain ⟨n0, n1, n2, n3⟩ := HF4.out.cells
                    obtain ⟨yb', yo', ycap', e, y0, y1, y2, y3⟩ := HF4.out.at HY.out
                    have e' : (some ⟨yb, yo, none⟩ : Option Addr) = some ⟨yb', yo', none⟩ := by injection e
                    obtain ⟨rfl, rfl⟩ : yb = yb' ∧ yo = yo' := by injection e' with e'; injection e' with e1 e2; exact ⟨e1, e2⟩
                    simp only at n0 n1 n2 n3 y0 y1 y2 y3
                    clear e e'
                    go_wp2_with (at_builtin; refine wp_fo_add (by rfl) _ _ (by rfl) ⟨yoff, ykey, yval, ygone⟩ HF4.out (by rfl) 1 (by rfl) HOL.out ?_)
                    intro v9 g9 w9 hf9
                    rw [← HP.out.1] at hf9
                    have HF9 := Lib.hid hf9
                    clear hf9 n0 n1 n2 n3 y0 y1 y2 y3
                    go_wp2_with fail
                    go_roundw
                    case rel => exact ⟨j + 1, g9, by omega, by go_num, by rw [HP.out.2], HF9.out⟩
                    case measure => simp [intOf]; omega
            · obtain ⟨n0, n1, n2, n3⟩ := hfo.cells
              simp only at n0 n1 n2 n3
              have HBA : Hid (Below w.heap.size w W1) := Lib.hid (HBW.out.trans (HB1.out.mono (by rw [← HN1.out]; exact HBW.out.size)))
              have hz : w.heap.size ≤ N1 + 1 := by have := HBW.out.size; have := HN1.out; omega
              have HZ := Lib.hid hz
              clear hfo hz
              cases hdn : Wd.dn S ⟨off, key, val, gone⟩ j with
              | true =>
                have he := Wd.op_done (by rw [HSN.out]; omega) hdn
                have HO : Hid (Wr w.heap.size u9 go (Wd.upTo (L.map (·.1)) upto i (k + 1)) wr) := Lib.hid (by
                  rw [HINS.out, ← he]
                  exact ⟨HFO.out.out.1, fun b e => Nat.le_trans HZ.out (HFO.out.out.2 b e)⟩)
                clear he
                go_wp2_with fail
                go_roundw
                case rel => exact ⟨k + 1, go, by omega, by go_num, HO.out, HBA.out.trans (HFO.out.bel.mono HZ.out)⟩
                case measure => simp [intOf]; omega
              | false =>
                have he := Wd.op_last (by rw [HSN.out]; omega) hdn
                have HE := Lib.hid he
                have HOL := Lib.hid (Nat.le_trans (Wd.op_len S ⟨off, key, val, gone⟩ j) (by rw [HSN.out]; omega : S.length + 1 ≤ 1099511627776))
                clear he
                go_wp2_with (at_builtin; refine wp_fo_add (by rfl) _ _ (by rfl) ⟨off, key, val, gone⟩ HFO.out (by rfl) 1 (by rfl) HOL.out ?_)
                intro v9 g9 w9 hf9
                rw [HE.out] at hf9
                have HF9 := Lib.hid hf9
                have HO : Hid (Wr w.heap.size v9 g9 (Wd.upTo (L.map (·.1)) upto i (k + 1)) w9) := Lib.hid (by
                  rw [HINS.out]
                  exact ⟨hf9.out.1, fun b e => Nat.le_trans HZ.out (hf9.out.2 b e)⟩)
                clear hf9 n0 n1 n2 n3
                go_wp2_with fail
                go_roundw
                case rel => exact ⟨k + 1, g9, by omega, by go_num, HO.out, HBA.out.trans (HF9.out.bel.mono HZ.out)⟩
                case measure => simp [intOf]; omega
        · go_wp2_with fail
          go_roundw
          case rel => exact ⟨i + 1, ga, by omega, by go_num, by rw [Wd.upTo_next HGM.out (by rw [HNN.out]; omega : (⟨tb, tc, tp, ts, tt, ls⟩ : Pl.Bt).recs.length ≤ k)]; exact HWA.out, HBW.out⟩
          case measure => simp [intOf]; omega
    · obtain ⟨S, hS⟩ : ∃ S, Wd.upTo (L.map (·.1)) upto i 0 = S := ⟨_, rfl⟩
      have hslen : S.length ≤ 549755813888 := by rw [← hS]; exact Nat.le_trans (Wd.upTo_len _ _ _ _) HALL.out
      have HFD : Hid (S.filter (fun x => !x.gone) = Wd.fold (L.map (·.1)) upto) := Lib.hid (by rw [← hS]; exact Wd.upTo_all (by rw [List.length_map, HM.out]; omega))
      rw [hS] at hwa HWA
      obtain ⟨sn, hsn⟩ : ∃ sn, S.length = sn := ⟨_, rfl⟩
      obtain ⟨aa, ac, rfl⟩ : ∃ a c, u5 = .slice a S.length c := HWA.out.form
      rw [hsn] at hslen hwa HWA ⊢
      have HSN := Lib.hid hsn
      have hr0 := Wr.empty wr (Nat.le_refl wr.heap.size)
      have hb1 : Below wr.heap.size wr (wr.alloc (.cells #[] 44)) := (Below.refl _ _).alloc (Nat.le_refl _) _
      have HR0 := Lib.hid (And.intro hr0 hb1)
      clear hwa hbw hS hsn hr0 hb1
      go_wp2_with fail
      go_loopw [13, 14] (fun ov jv wz => ∃ (j : Nat) (go : Option Nat), j ≤ sn ∧ jv = .int .i64 j ∧ Wr wr.heap.size ov go ((S.take j).filter fun x => !x.gone) wz ∧ Below wr.heap.size wr wz) (fun _ jv _ => sn - (intOf jv).toNat)
      case atStart => exact ⟨0, _, Nat.zero_le _, rfl, HR0.out.1, HR0.out.2⟩
      case round =>
        obtain ⟨j, go, hj, rfl, hwo, hbz⟩ := hrel
        have HWO := Lib.hid hwo
        have HBZ := Lib.hid hbz
        by_cases hjs : j < sn
        · obtain ⟨y, hy⟩ : ∃ y, S[j]? = some y := ⟨_, List.getElem?_eq_getElem (by rw [HSN.out]; exact hjs)⟩
          obtain ⟨a5, cap5, e5, hrc⟩ := (HWA.out.below hbz).rc.recs
          obtain rfl : aa = a5 := by injection e5
          obtain ⟨yb, yo, rfl, -, y0, y1, y2, y3⟩ := hrc j y hy
          have hst : (S.take (j + 1)).filter (fun x => !x.gone) = (S.take j).filter (fun x => !x.gone) ++ if y.gone then [] else [y] := by
            rw [Wd.take_snoc hy, List.filter_append, List.filter_cons]
            cases y.gone <;> rfl
          have HST := Lib.hid hst
          have HOL : Hid (((S.take j).filter fun x => !x.gone).length ≤ 1099511627776) := Lib.hid (Nat.le_trans (List.length_filter_le _ _) (by rw [List.length_take, HSN.out]; omega))
          obtain ⟨yoff, ykey, yval, ygone⟩ := y
          simp only at y0 y1 y2 y3
          clear hwo hbz hrc e5 hy hst
          cases ygone with
          | true =>
            go_wp2_with fail
            go_roundw
            case rel => exact ⟨j + 1, go, by omega, by go_num, by rw [HST.out]; simpa using HWO.out, HBZ.out⟩
            case measure => simp [intOf]; omega
          | false =>
            have HA2 := Lib.hid (HWO.out.below ((Below.refl _ _).alloc (Nat.le_refl _) (oR ⟨yoff, ykey, yval, false⟩)))
            have HB2 := Lib.hid (HBZ.out.alloc HBZ.out.size (oR ⟨yoff, ykey, yval, false⟩))
            go_wp2_with (at_builtin; refine wp_add_rec (by rfl) _ _ (by rfl) (by rfl) HA2.out ⟨wr.heap.size, 0, none⟩ 1 ⟨yoff, ykey, yval, false⟩ (by rfl) (oR_new wr _) HOL.out HB2.out.size ?_)
            intro v9 g9 w9 hw9 hg9
            have HW9 := Lib.hid hw9
            have HB9 := Lib.hid (Below.appended HB2.out hg9 HA2.out.2 HB2.out.size)
            clear hw9 hg9
            go_wp2_with fail
            go_roundw
            case rel => exact ⟨j + 1, g9, by omega, by go_num, by rw [HST.out]; exact HW9.out, HB9.out⟩
            case measure => simp [intOf]; omega
        · have he := HWO.out
          rw [List.take_of_length_le (by rw [HSN.out]; omega), HFD.out] at he
          have HE := Lib.hid he
          clear hwo hbz he
          go_wp2_with fail
          go_ret
          exact ⟨HBW.out.trans (HBZ.out.mono HBW.out.size), _, rfl, HE.out.rc.mono fun _ hb => Nat.le_trans HBW.out.size hb⟩
end Go.Proofs.Ytfapigccdbpepaa
