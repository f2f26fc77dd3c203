import Derived.Test.YtjccfilbihkfpaaGreatDoorM15

/- THE CONTRACTS OF turnOf, pointOf. -/
namespace Go.Proofs.YtjccfilbihkfpaaGreatDoor
open Go.RowKit

def Fk.clamp (q : Int) : Int := if q < 0 then 0 else if 4 < q then 4 else q
theorem Fk.clamp_ok (q : Int) : 0 ≤ Fk.clamp q ∧ Fk.clamp q ≤ 4 := by unfold Fk.clamp; split <;> (try split) <;> omega
def msT (ms : List ByteArray) : List (List UInt8) := ms.map fun m => Pl.wText m.data.toList
theorem wText_len {m : ByteArray} (h : m.size ≤ 8) : (Pl.wText m.data.toList).length ≤ 40 := by
  have h1 : m.data.toList.length = m.size := Array.length_toList
  have := Lib.itoa_length_le (m.size : Int) (by omega) (by omega)
  unfold Pl.wText
  rw [h1]
  simp
  omega
theorem msT_len {ms : List ByteArray} (h4 : ms.length ≤ 4) (h8 : ∀ m ∈ ms, m.size ≤ 8) : (msT ms).flatten.length ≤ 160 := by
  have : ∀ (l : List ByteArray), (∀ m ∈ l, m.size ≤ 8) → (msT l).flatten.length ≤ l.length * 40 := by
    intro l
    induction l with
    | nil => intro _; simp [msT]
    | cons m l ih =>
      intro h
      have h1 := ih fun x hx => h x (by simp [hx])
      have h2 := wText_len (h m (by simp))
      simp only [msT, List.map_cons, List.flatten_cons, List.length_append, List.length_cons] at h1 ⊢
      omega
  have := this ms h8
  omega
theorem enc_ms (ms : List ByteArray) : (108 :: ((msT ms).flatten ++ [101])) = Fk.encMs ms := by simp [Fk.encMs, msT, List.flatMap_def]
theorem wInt_len {c : Int} (hc : Pl.I64 c) : (Pl.wInt c).length ≤ 30 := by have := Lib.itoa_length_le c hc.1 hc.2; unfold Pl.wInt; simp; omega
theorem key_cat (c : UInt8) (n : ByteArray) : (⟨#[c]⟩ : ByteArray) ++ n = ⟨(c :: n.data.toList).toArray⟩ := by
  obtain ⟨⟨l⟩⟩ := n
  exact app_mk [c] l
def Eqw (w w' : World) : Prop := w' = w
set_option maxHeartbeats 4000000 in
set_option maxRecDepth 100000 in
theorem turnOf_any {A : Nat → Prop} (n : ByteArray) (g q : Int) (v : Value) (ms : List ByteArray) (w : World) (lb : Lb w) (h : Nms A w v ms) (hn : n.size ≤ 8) (hg : Pl.I64 g) (h4 : ms.length ≤ 4) (h8 : ∀ m ∈ ms, m.size ≤ 8) :
    Calls Tryz.prog 65 #[.string n, .int .i64 g, .int .i64 q, v] w fun e w' => RecOut w (.turn n g (Fk.clamp q) ms) e w' := by
  obtain ⟨P, hP⟩ : ∃ P, Fk.clamp q = P := ⟨_, rfl⟩
  have hPc := Fk.clamp_ok q
  rw [hP] at hPc ⊢
  have HP := Lib.hid hP
  obtain ⟨W1, hW1⟩ : ∃ W, w.alloc (.cells zero4 28) = W := ⟨_, rfl⟩
  have hb1 : Below w.heap.size w W1 := by rw [← hW1]; exact (Below.refl _ _).alloc (Nat.le_refl _) _
  have k1 : Blk W1 w.heap.size zero4 28 := by rw [← hW1]; exact Blk.new _ _ _
  have hl6 := lb.size
  have HLB := Lib.hid lb
  have HV := Lib.hid (h.below hb1)
  obtain ⟨a, cap, rfl⟩ := h.form
  obtain ⟨m, hm⟩ : ∃ m, ms.length = m := ⟨_, rfl⟩
  have hfl := msT_len h4 h8
  rw [hm] at h4
  rw [hm]
  have HM := Lib.hid hm
  have H8 := Lib.hid h8
  have HB1 := Lib.hid hb1
  have HK1 := Lib.hid k1
  have HR1 := Lib.hid (Below.refl W1.heap.size W1)
  have HZ0 : Hid (Wz W1.heap.size W1 (.slice none 0 0) none 9 1 (msT (ms.take 0)).length (strs (msT (ms.take 0)))) := Lib.hid (by simp only [List.take_zero, msT, List.map_nil, List.length_nil, strs]; exact Wz.nil _ _ _ _)
  have HFN : Hid (ms.take m = ms) := Lib.hid (by rw [← hm, List.take_length])
  obtain ⟨SG, hSG⟩ : ∃ S : ByteArray, (⟨(Pl.wInt g).toArray⟩ : ByteArray) = S := ⟨_, rfl⟩
  obtain ⟨SP, hSP⟩ : ∃ S : ByteArray, (⟨(Pl.wInt P).toArray⟩ : ByteArray) = S := ⟨_, rfl⟩
  obtain ⟨SM, hSM⟩ : ∃ S : ByteArray, (⟨(Fk.encMs ms).toArray⟩ : ByteArray) = S := ⟨_, rfl⟩
  obtain ⟨SV, hSV⟩ : ∃ S : ByteArray, (⟨(Fk.encTv g P ms).toArray⟩ : ByteArray) = S := ⟨_, rfl⟩
  have HI1 : Hid (∀ wx, Below w.heap.size w wx → Calls Tryz.prog 69 #[.int .i64 g] wx fun e w' => e = .returned (.string SG) ∧ Below wx.heap.size wx w') := Lib.hid fun wx hb => by rw [← hSG]; exact bead_int g hg wx (lb.below lb.size hb)
  have HI2 : Hid (∀ wx, Below w.heap.size w wx → Calls Tryz.prog 69 #[.int .i64 P] wx fun e w' => e = .returned (.string SP) ∧ Below wx.heap.size wx w') := Lib.hid fun wx hb => by rw [← hSP]; exact bead_int P ⟨by omega, by omega⟩ wx (lb.below lb.size hb)
  have hgl := wInt_len hg
  have hpl := wInt_len (c := P) ⟨by omega, by omega⟩
  have hml : (Fk.encMs ms).length ≤ 170 := by rw [← enc_ms]; simp only [List.length_cons, List.length_append, List.length_nil]; omega
  have HL3 : Hid (∀ wx : World, Calls Tryz.prog 68 #[.slice (some ⟨wx.heap.size, 0, none⟩) 3 3] (wx.alloc (.cells #[.string SG, .string SP, .string SM] 9)) fun e w' => e = .returned (.string SV) ∧ Below (wx.alloc (.cells #[.string SG, .string SP, .string SM] 9)).heap.size (wx.alloc (.cells #[.string SG, .string SP, .string SM] 9)) w') := Lib.hid fun wx => by
    have hE : (108 :: (([Pl.wInt g, Pl.wInt P, Fk.encMs ms] : List (List UInt8)).flatten ++ [101])) = Fk.encTv g P ms := by simp [Fk.encTv]
    have C := list_sl (l := [Pl.wInt g, Pl.wInt P, Fk.encMs ms]) (n := 3) (Sl.new wx 9 1 3 #[.string ⟨(Pl.wInt g).toArray⟩, .string ⟨(Pl.wInt P).toArray⟩, .string ⟨(Fk.encMs ms).toArray⟩] rfl) rfl (by decide) (by simp; omega)
    rw [hE, hSV, hSG, hSP, hSM] at C
    exact C
  have HLM : Hid (∀ (wx : World) (u : Value) (gb : Option Nat), Wz W1.heap.size wx u gb 9 1 m (strs (msT ms)) → Calls Tryz.prog 68 #[u] wx fun e w' => e = .returned (.string SM) ∧ Below wx.heap.size wx w') := Lib.hid fun wx u gb hz => by
    have C := list_sl (l := msT ms) (n := m) hz.1 (by unfold msT; rw [List.length_map, hm]) (by omega) (by omega)
    rw [enc_ms, hSM] at C
    exact C
  have HSV := Lib.hid hSV
  have hcase : (q < 0 ∧ P = 0) ∨ (0 ≤ q ∧ q ≤ 4 ∧ P = q) ∨ (4 < q ∧ P = 4) := by
    unfold Fk.clamp at hP
    split at hP
    · exact .inl ⟨by assumption, hP.symm⟩
    · split at hP
      · exact .inr (.inr ⟨by assumption, hP.symm⟩)
      · exact .inr (.inl ⟨by omega, by omega, hP.symm⟩)
  have HCS := Lib.hid hcase
  clear lb h hb1 k1 hm hfl hSG hSP hSM hSV hgl hpl hml h8 hg hP hPc hcase
  obtain ⟨K, hK⟩ : ∃ K, (⟨#[116]⟩ : ByteArray) ++ n = K := ⟨_, rfl⟩
  have HKK : Hid (K = ⟨(116 :: n.data.toList).toArray⟩) := Lib.hid (by rw [← hK]; exact key_cat 116 n)
  go_enter Tryz.func65, Tryz.ntmps65
  go_wp2_with fail
  go_loopw [9, 11, 14] (fun s9 _ s14 wr => ∃ (i : Nat) (gb : Option Nat), i ≤ m ∧ s14 = .int .i64 i ∧ Below W1.heap.size W1 wr ∧ Wz W1.heap.size wr s9 gb 9 1 (msT (ms.take i)).length (strs (msT (ms.take i)))) (fun _ _ s14 _ => m - (intOf s14).toNat)
  case atStart => exact ⟨0, none, Nat.zero_le _, rfl, HR1.out, HZ0.out⟩
  case round =>
    obtain ⟨i, gb, hi, rfl, hb, hz⟩ := hrel
    have HB := Lib.hid hb
    have HZ := Lib.hid hz
    by_cases hlt : i < m
    · obtain ⟨x, hx⟩ : ∃ x, ms[i]? = some x := ⟨_, List.getElem?_eq_getElem (by rw [HM.out]; exact hlt)⟩
      obtain ⟨b, p, cap', ev, -, hbl, c0⟩ := (HV.out.below hb).at hx
      rw [HM.out] at ev
      obtain rfl : a = some ⟨b, p, none⟩ := by injection ev
      have hx8 := H8.out x (List.mem_of_getElem? hx)
      obtain ⟨T, hT⟩ : ∃ T : ByteArray, (⟨(Pl.wText x.data.toList).toArray⟩ : ByteArray) = T := ⟨_, rfl⟩
      have CT := bead_text x (by omega) wr (HLB.out.below hl6 (HB1.out.trans (hb.mono HB1.out.size)))
      rw [hT] at CT
      have HCT := Lib.hid CT
      have HTS : Hid (msT (ms.take (i + 1)) = msT (ms.take i) ++ [Pl.wText x.data.toList]) := Lib.hid (by unfold msT; rw [List.take_add_one, hx]; simp)
      have HT := Lib.hid hT
      obtain ⟨N, hN⟩ : ∃ N, (msT (ms.take i)).length = N := ⟨_, rfl⟩
      have hN4 : N ≤ 4 := by rw [← hN]; unfold msT; rw [List.length_map, List.length_take]; omega
      rw [hN] at hz
      obtain ⟨ao, co, rfl⟩ := hz.form
      have HN := Lib.hid hN
      have i0 : (0 : Int) ≤ (i : Int) := by omega
      have i1 : (i : Int) < (m : Int) := by omega
      have HZ2 := Lib.hid hz
      clear hx ev hx8 CT hT hb hz hN
      go_wp2_with fail
      refine HCT.out.mono ?_
      rintro e w3 ⟨rfl, hb3⟩
      obtain ⟨W4, hW4⟩ : ∃ W, w3.alloc (.cells #[.string T] 9) = W := ⟨_, rfl⟩
      have hb4 : Below w3.heap.size w3 W4 := by rw [← hW4]; exact (Below.refl _ _).alloc (Nat.le_refl _) _
      have hb34 := hb3.trans (hb4.mono hb3.size)
      have HZ4 := Lib.hid (HZ2.out.below hb34)
      have HB4 := Lib.hid (HB.out.trans (hb34.mono HB.out.size))
      have HNEW : Hid (∀ t u, ([.string T] : List Value)[t]? = some u → W4.cell? ((⟨w3.heap.size, 0, none⟩ : Addr).add t) = some u) := Lib.hid (by rw [← hW4]; exact built_cells w3 _ _)
      clear hb3 hb4 hb34 HCT
      go_wp2_with (at_builtin; refine wp_add infoText Tryz.underlying41 (by rfl) _ _ (by rfl) (by rfl) HZ4.out ⟨w3.heap.size, 0, none⟩ 1 [.string T] (by rfl) rfl HNEW.out (by simp [Value.oneCell']) (by omega) (by decide) HB4.out.size ?_)
      intro v' g' w' hz' hg' _
      have HZ' : Hid (Wz W1.heap.size w' v' g' 9 1 (msT (ms.take (i + 1))).length (strs (msT (ms.take (i + 1))))) := Lib.hid (by
        rw [HTS.out, List.length_append, strs_snoc, HN.out, HT.out]
        exact hz')
      have HB' := Lib.hid (Below.appended HB4.out hg' HZ4.out.2 HB4.out.size)
      clear hz' hg'
      go_wp2_with fail
      go_roundw
      case rel => exact ⟨i + 1, g', by omega, by go_num, HB'.out, HZ'.out⟩
      case measure => simp [intOf]; omega
    · have HZF : Hid (Wz W1.heap.size wr u9 gb 9 1 m (strs (msT ms))) := Lib.hid (by
        have e : i = m := by omega
        rw [e, HFN.out] at hz
        have e2 : (msT ms).length = m := by unfold msT; rw [List.length_map, HM.out]
        rw [e2] at hz
        exact hz)
      obtain ⟨ao, co, rfl⟩ := HZF.out.form
      clear hb hz HZ
      go_upto_region 7 with fail
      go_cut [2] (fun s2 wx => s2 = .int .i64 P ∧ Eqw wr wx)
      case first =>
        rcases HCS.out with ⟨h1, h2⟩ | ⟨h1, h2, h3⟩ | ⟨h1, h2⟩
        · subst h2
          go_wp2_with fail
          go_meet
          case rel => exact ⟨by first | rfl | (congr 1; omega) | (simp; omega), rfl⟩
        · subst h3
          go_wp2_with fail
          go_meet
          case rel => exact ⟨by first | rfl | (congr 1; omega) | (simp; omega), rfl⟩
        · subst h2
          go_wp2_with fail
          go_meet
          case rel => exact ⟨by first | rfl | (congr 1; omega) | (simp; omega), rfl⟩
      case rest =>
        obtain ⟨rfl, he⟩ := hcut
        have hwe : wr = wc := he.symm
        subst hwe
        clear he HCS
        have HBR := Lib.hid (HB1.out.trans (HB.out.mono HB1.out.size))
        go_wp2_with fail
        refine (HI1.out _ HBR.out).mono ?_
        rintro e w3 ⟨rfl, hb3⟩
        have HB3 := Lib.hid (HBR.out.trans (hb3.mono HBR.out.size))
        have HZ3 := Lib.hid (HZF.out.below hb3)
        have HX3 := Lib.hid (HB.out.trans (hb3.mono HB.out.size))
        clear hb3 HI1
        go_wp2_with fail
        refine (HI2.out _ HB3.out).mono ?_
        rintro e w4 ⟨rfl, hb4⟩
        have HZ4 := Lib.hid (HZ3.out.below hb4)
        have HX4 := Lib.hid (HX3.out.trans (hb4.mono HX3.out.size))
        clear hb4 HI2
        go_wp2_with fail
        refine (HLM.out _ _ _ HZ4.out).mono ?_
        rintro e w5 ⟨rfl, hb5⟩
        have HX5 := Lib.hid (HX4.out.trans (hb5.mono HX4.out.size))
        clear hb5 HLM
        go_wp2_with fail
        refine (HL3.out w5).mono ?_
        rintro e w6 ⟨rfl, hb6⟩
        have ha := (Below.refl w5.heap.size w5).alloc (Nat.le_refl _) (.cells #[.string SG, .string SP, .string SM] 9)
        have h56 := ha.trans (hb6.mono ha.size)
        have h16 := HX5.out.trans (h56.mono HX5.out.size)
        have k6 := HK1.out.below h16
        obtain ⟨x0, x1, x2, x3⟩ := k6.cells4
        obtain ⟨y0, y1, y2, y3⟩ := k6.free4
        have HK6 := Lib.hid k6
        have H16 := Lib.hid (HB1.out.trans (h16.mono HB1.out.size))
        clear hb6 ha h56 h16 k6 HL3
        go_wp2_with fail
        refine bodyPost_ret (ret_turnOf (HK6.out.four (.int .i64 0) (.string K) (.string SV) (.bool false)) rfl) rfl ?_
        refine ⟨?_, (four_kb _ _ _ _ _ _).low H16.out (Nat.le_refl _) HK6.out.lt⟩
        rw [HKK.out, ← HSV.out]
        rfl
end Go.Proofs.YtjccfilbihkfpaaGreatDoor

/- THE CONTRACT OF pointOf. -/
namespace Go.Proofs.YtjccfilbihkfpaaGreatDoor
open Go.RowKit

theorem far4 {w : World} {b c o : Nat} {v0 v1 v2 v3 x : Value} (h : b ≠ c) (k : w.cell? ⟨b, o, none⟩ = some x) : ((((w.setCell ⟨c, 0, none⟩ v0).setCell ⟨c, 1, none⟩ v1).setCell ⟨c, 2, none⟩ v2).setCell ⟨c, 3, none⟩ v3).cell? ⟨b, o, none⟩ = some x := by
  rw [cell_far h, cell_far h, cell_far h, cell_far h]
  exact k
theorem i64_p {p : Int} (hp : 0 ≤ p ∧ p < 4) : Pl.I64 p := ⟨by omega, by omega⟩
theorem below_chain' {w W W' wq : World} (h : Below w.heap.size w W) (hb : Below W.heap.size W W') (hc : Below W'.heap.size W' wq) : Below w.heap.size w wq := (h.trans (hb.mono h.size)).trans (hc.mono (Nat.le_trans h.size hb.size))
set_option maxHeartbeats 4000000 in
set_option maxRecDepth 100000 in
theorem pointOf_any (n : ByteArray) (g p o : Int) (w : World) (lb : Lb w) (hn : n.size ≤ 8) (hg : Pl.I64 g) (hp : 0 ≤ p ∧ p < 4) (ho : 0 ≤ o ∧ o ≤ 1099511627776) :
    Calls Tryz.prog 67 #[.string n, .int .i64 g, .agg #[.int .i64 p, .int .i64 o]] w fun e w' => RecOut w (.point n p o g) e w' := by
  obtain ⟨W1, hW1⟩ : ∃ W, w.alloc (.cells #[.int .i64 p, .int .i64 o] 59) = W := ⟨_, rfl⟩
  obtain ⟨W2, hW2⟩ : ∃ W, W1.alloc (.cells zero4 28) = W := ⟨_, rfl⟩
  have hb1 : Below w.heap.size w W1 := by rw [← hW1]; exact (Below.refl _ _).alloc (Nat.le_refl _) _
  have hb12 : Below W1.heap.size W1 W2 := by rw [← hW2]; exact (Below.refl _ _).alloc (Nat.le_refl _) _
  have hb2 := hb1.trans (hb12.mono hb1.size)
  have k1 : Blk W2 w.heap.size #[.int .i64 p, .int .i64 o] 59 := by
    refine Blk.below ?_ hb12
    rw [← hW1]; exact Blk.new _ _ _
  have k2 : Blk W2 W1.heap.size zero4 28 := by rw [← hW2]; exact Blk.new _ _ _
  have x0 : W2.cell? ⟨w.heap.size, 0, none⟩ = some (.int .i64 p) := k1.cell rfl
  have x1 : W2.cell? ⟨w.heap.size, 1, none⟩ = some (.int .i64 o) := k1.cell rfl
  obtain ⟨SA, hSA⟩ : ∃ S : ByteArray, (⟨(Lib.itoa p).toArray⟩ : ByteArray) = S := ⟨_, rfl⟩
  obtain ⟨SO, hSO⟩ : ∃ S : ByteArray, (⟨(Pl.wInt o).toArray⟩ : ByteArray) = S := ⟨_, rfl⟩
  obtain ⟨SG, hSG⟩ : ∃ S : ByteArray, (⟨(Pl.wInt g).toArray⟩ : ByteArray) = S := ⟨_, rfl⟩
  obtain ⟨SV, hSV⟩ : ∃ S : ByteArray, (⟨(Fk.encCv o g).toArray⟩ : ByteArray) = S := ⟨_, rfl⟩
  have ho64 : Pl.I64 o := ⟨by omega, by omega⟩
  have hlb := fun wx (hb : Below W2.heap.size W2.drew wx) => lb.below lb.size (hb2.trans ((of_drew hb).mono hb2.size))
  have HA := Lib.hid fun wx hb => itoa_any p (i64_p hp) wx (hlb wx hb)
  have HO := Lib.hid fun wx hb => bead_int o ho64 wx (hlb wx hb)
  have HG := Lib.hid fun wx hb => bead_int g hg wx (hlb wx hb)
  rw [hSA] at HA
  rw [hSO] at HO
  rw [hSG] at HG
  have hAl : SA.size ≤ 30 := by
    rw [← hSA, size_list]
    exact Nat.le_trans (Lib.itoa_length_le p (by omega) (by omega)) (by decide : _ ≤ 30)
  have hol := wInt_len ho64
  have hgl := wInt_len hg
  have HL2 : Hid (∀ wx : World, Calls Tryz.prog 68 #[.slice (some ⟨wx.heap.size, 0, none⟩) 2 2] (wx.alloc (.cells #[.string SO, .string SG] 9)) fun e w' => e = .returned (.string SV) ∧ Below (wx.alloc (.cells #[.string SO, .string SG] 9)).heap.size (wx.alloc (.cells #[.string SO, .string SG] 9)) w') := Lib.hid fun wx => by
    have hE : (108 :: (([Pl.wInt o, Pl.wInt g] : List (List UInt8)).flatten ++ [101])) = Fk.encCv o g := by simp [Fk.encCv]
    have C := list_sl (l := [Pl.wInt o, Pl.wInt g]) (n := 2) (Sl.new wx 9 1 2 #[.string ⟨(Pl.wInt o).toArray⟩, .string ⟨(Pl.wInt g).toArray⟩] rfl) rfl (by decide) (by simp; omega)
    rw [hE, hSV, hSO, hSG] at C
    exact C
  have HB2 := Lib.hid hb2
  have HK2 := Lib.hid k2
  have HS := Lib.hid (And.intro hSA hSV)
  have HB1 := Lib.hid hb1
  obtain ⟨KA, hKA⟩ : ∃ K, (⟨#[99]⟩ : ByteArray) ++ SA = K := ⟨_, rfl⟩
  obtain ⟨K, hK⟩ : ∃ K, KA ++ n = K := ⟨_, rfl⟩
  have hKs : KA.size ≤ 40 := by rw [← hKA]; simp; show 1 + SA.size ≤ 40; omega
  have HKK : Hid (K = ⟨(99 :: (Lib.itoa p ++ n.data.toList)).toArray⟩) := Lib.hid (by
    rw [← hK, ← hKA, ← hSA, key_cat]
    obtain ⟨⟨l⟩⟩ := n
    exact app_mk (99 :: Lib.itoa p) l)
  have g2 : ¬ (9223372036854775807 < KA.size + n.size) := by omega
  have g3 : ¬ (9223372036854775807 < 1 + SA.size) := by omega
  have HNE : Hid (w.heap.size ≠ W1.heap.size) := Lib.hid (by rw [← hW1]; simp)
  have HX0 := Lib.hid (drew_refl W2)
  have HFR : Hid (∀ wx, Below W2.heap.size W2.drew wx → Blk wx W1.heap.size zero4 28) := Lib.hid fun wx hb => k2.below (of_drew hb)
  clear hlb hb1 hb12 hb2 k1 k2 hSA hSO hSG hSV hol hgl ho64 hp ho hg lb
  go_enter Tryz.func67, Tryz.ntmps67
  go_upto_region 1 with fail
  have hB := HX0.out
  go_region_held3 (fun w' => w'.cell? ⟨w.heap.size, 0, none⟩ = some (.int .i64 p) ∧ w'.cell? ⟨w.heap.size, 1, none⟩ = some (.int .i64 o)) (first | exact ⟨dcell hB x0, dcell hB x1⟩ | exact ⟨dcell (hB.alloc hB.size _) x0, dcell (hB.alloc hB.size _) x1⟩ | exact ⟨far4 HNE.out (dcell hB x0), far4 HNE.out (dcell hB x1)⟩ | go_keep | fail)
    (first
      | (go_at_call 88; ((with_reducible refine (HA.out _ hB).mono ?_); rintro e w3 ⟨rfl, hb3⟩; have hB := drew_trans hB hb3))
      | (go_at_call 69; ((with_reducible refine (HO.out _ hB).mono ?_); rintro e w4 ⟨rfl, hb4⟩; have hB := drew_trans hB hb4))
      | (go_at_call 69; ((with_reducible refine (HG.out _ hB).mono ?_); rintro e w5 ⟨rfl, hb5⟩; have hB := drew_trans hB hb5))
      | (go_at_call 68; ((with_reducible refine (HL2.out _).mono ?_); rintro e w6 ⟨rfl, hb6⟩; have hB := drew_trans (hB.alloc hB.size _) hb6; obtain ⟨q0, q1, q2, q3⟩ := (HFR.out _ hB).cells4; obtain ⟨y0, y1, y2, y3⟩ := (HFR.out _ hB).free4))
      | fail)
  all_goals
    have HK6 := Lib.hid (HFR.out _ hB)
    have H6 := Lib.hid (HB2.out.trans ((of_drew hB).mono HB2.out.size))
    clear q0 q1 q2 q3 y0 y1 y2 y3 hB
    go_wp2_with fail
    refine bodyPost_ret (ret_pointOf (HK6.out.four (.int .i64 0) (.string K) (.string SV) (.bool false)) rfl) rfl ?_
    refine ⟨?_, (four_kb _ _ _ _ _ _).low H6.out HB1.out.size HK6.out.lt⟩
    rw [HKK.out, ← HS.out.2]
    rfl
end Go.Proofs.YtjccfilbihkfpaaGreatDoor

/- WHAT REQUESTS BRING, plainly; a slice cut in two. -/
namespace Go.Proofs.YtjccfilbihkfpaaGreatDoor
open Go.RowKit

namespace Fk
/-- A request, but for its records. -/
structure Q where
  client : Int
  n : Int
  kind : Int
  part : Int
  seq : Int
  off : Int
  max : Int
  gen : Int
  group : ByteArray
  member : ByteArray
def decJ (L : List G) (parts : Int) (q : Q) : Wd :=
  if Sh.nameB q.group = true ∧ Sh.nameB q.member = true then
    if (hit (cS q.member) (fndD L q.group).mem).isSome = true then .no 0
    else if 4 ≤ (fndD L q.group).mem.length ∨ ((fnd L q.group).isSome = false ∧ 4 ≤ L.length) then .no 32
    else .turn q.group ((fndD L q.group).gen + 1) (clamp parts) (ins (fndD L q.group).mem (low (cS q.member) (fndD L q.group).mem) q.member)
  else .no 1
def decL (L : List G) (parts : Int) (q : Q) : Wd :=
  if Sh.nameB q.group = true ∧ Sh.nameB q.member = true then
    if (hit (cS q.member) (fndD L q.group).mem).isSome = false then .no 31
    else .turn q.group ((fndD L q.group).gen + 1) (clamp parts) ((fndD L q.group).mem.take (low (cS q.member) (fndD L q.group).mem) ++ (fndD L q.group).mem.drop (low (cS q.member) (fndD L q.group).mem + 1))
  else .no 1
def ownD (g : G) (p : Int) : Option ByteArray := Sh.ownerOf (Sh.msOf g.parts g.mem) p
def decC (L : List G) (q : Q) : Wd :=
  if q.gen = (fndD L q.group).gen ∧ ownD (fndD L q.group) q.part = some q.member then
    if 0 ≤ q.off ∧ q.off ≤ 1099511627776 then .point q.group q.part q.off q.gen else .no 1
  else .no 30
def decide (L : List G) (parts : Int) (q : Q) : Wd := if q.kind = 3 then decJ L parts q else if q.kind = 4 then decL L parts q else if q.kind = 6 then decC L q else .no 1
theorem okZ : Sh.goodB zeroG.mem = true := rfl
end Fk
/-- What the walks ask of the group that is found. -/
structure Gd (g : Fk.G) : Prop where
  mem : Sh.goodB g.mem = true
  pts : g.pts.length ≤ 4
  g0 : 0 ≤ g.gen
  g1 : g.gen ≤ 1099511627776
  pm : ∀ p, Fk.Mono (Fk.cP p) g.pts
  p0 : 0 ≤ g.parts
  p4 : g.parts ≤ 4
theorem Gd.zero : Gd Fk.zeroG := ⟨rfl, by decide, by decide, by decide, fun _ => trivial, by decide, by decide⟩
theorem Gd.l4 {g : Fk.G} (h : Gd g) : g.mem.length ≤ 4 := Sh.good_len h.mem
theorem Gd.sm {g : Fk.G} (h : Gd g) (n : ByteArray) : Fk.Mono (Fk.cS n) g.mem := Fk.mem_mono h.mem n
theorem good_mem {ms : List ByteArray} (h : Sh.goodB ms = true) : ∀ m ∈ ms, Sh.nameB m = true := fun m hm => by
  obtain ⟨i, hi, rfl⟩ := List.getElem_of_mem hm
  have := Sh.good_name h hi
  rw [List.getD_eq_getElem?_getD, List.getElem?_eq_getElem hi] at this
  exact this
theorem Gd.s8 {g : Fk.G} (h : Gd g) : ∀ m ∈ g.mem, m.size ≤ 8 := fun m hm => (Fk.name_len (good_mem h.mem m hm)).1
theorem Gk.gd {m : Int} {L : List Fk.G} (h : Gk m L) (hm : m ≤ 1099511627776) (n : ByteArray) : Gd (Fk.fndD L n) := by
  unfold Fk.fndD
  cases hf : Fk.fnd L n with
  | none => exact Gd.zero
  | some g =>
    have hg := Fk.hit_mem hf
    have ho := h.ok.all g hg
    have h1 := h.gens g hg
    have h2 := ho.gen
    exact ⟨ho.mem, Fk.pts_few ho.pts fun q hq => ⟨(ho.low q hq).1, (ho.low q hq).2.1⟩, by show 0 ≤ g.gen; omega, by show g.gen ≤ _; omega, ho.pmono, ho.p0, ho.p4⟩
theorem Gk.small {m : Int} {L : List Fk.G} (h : Gk m L) : L.length ≤ 64 := by have := h.ok.len; omega
theorem GsR.bound {A : Nat → Prop} {w : World} {v : Value} {L : List Fk.G} (h : GsR A w v L) : GsR (fun b => b < w.heap.size) w v L := by
  obtain ⟨E, h1, h2, h3⟩ := h
  exact ⟨E, h1, h2.bound, fun e he => ⟨Rds.bound (h3 e he).1, Rds.bound (h3 e he).2⟩⟩
theorem Rds.cap {A : Nat → Prop} {w : World} {size m : Nat} {xs : List Value} {a : Option Addr} {k c : Nat} (h : Rds A w (.slice a k c) size m xs) : k = m ∧ m ≤ c ∧ (a = none → k = 0 ∧ c = 0) := by
  rcases h.2 with ⟨e, rfl⟩ | ⟨ad, cap, e, hc, -⟩
  · injection e with e1 e2 e3
    exact ⟨e2, by omega, fun _ => ⟨e2, e3⟩⟩
  · injection e with e1 e2 e3
    exact ⟨e2, by omega, fun h => by rw [e1] at h; cases h⟩
/-- A beginning of texts, and what stands behind. -/
theorem Nms.take {A : Nat → Prop} {w : World} {a : Option Addr} {m c : Nat} {L : List ByteArray} (h : Nms A w (.slice a m c) L) {i : Nat} (hi : i ≤ m) : Nms A w (.slice a i c) (L.take i) := by
  obtain ⟨e1, e2, e3⟩ := Rds.cap h
  have hl : (L.take i).length = i := by rw [List.length_take]; omega
  unfold Nms
  rw [hl]
  refine ⟨by simp; omega, ?_⟩
  rcases h.2 with ⟨e, h0⟩ | ⟨ad, cap, e, hc, h2⟩
  · injection e with q1 q2 q3
    exact .inl ⟨by rw [q1, q3, show i = 0 by omega], by omega⟩
  · injection e with q1 q2 q3
    refine .inr ⟨ad, c, by rw [q1], by omega, fun h0 => ?_⟩
    obtain ⟨b, p, f1, f2, f3, f4⟩ := h2 (by omega)
    refine ⟨b, p, f1, f2, f3, fun j x hj => f4 j x ?_⟩
    rw [List.getElem?_map, List.getElem?_take] at hj
    split at hj
    · rw [List.getElem?_map]; exact hj
    · cases hj
theorem Nms.drop {A : Nat → Prop} {w : World} {b p m c : Nat} {L : List ByteArray} (h : Nms A w (.slice (some ⟨b, p, none⟩) m c) L) {i : Nat} (hi : i ≤ m) : Nms A w (.slice (some ⟨b, p + i, none⟩) (m - i) (c - i)) (L.drop i) := by
  obtain ⟨e1, e2, e3⟩ := Rds.cap h
  have hl : (L.drop i).length = m - i := by rw [List.length_drop]; omega
  unfold Nms
  rw [hl]
  refine ⟨by simp; omega, .inr ⟨⟨b, p + i, none⟩, c - i, rfl, by omega, fun h0 => ?_⟩⟩
  rcases h.2 with ⟨e, h0⟩ | ⟨ad, cap, e, hc, h2⟩
  · cases e
  · injection e with q1 q2 q3
    obtain ⟨b', p', f1, f2, f3, f4⟩ := h2 (by omega)
    rw [f1] at q1
    injection q1 with q1
    injection q1 with g1 g2
    subst g1 g2
    refine ⟨b, p + i, rfl, f2, f3, fun j x hj => ?_⟩
    rw [Nat.add_assoc]
    refine f4 (i + j) x ?_
    rw [List.getElem?_map, List.getElem?_drop] at hj
    rw [List.getElem?_map]
    exact hj
theorem Nms.dropm {A : Nat → Prop} {w : World} {a : Option Addr} {m c : Nat} {L : List ByteArray} (h : Nms A w (.slice a m c) L) {i : Nat} (hi : i ≤ m) : Nms A w (.slice (a.map fun x => x.add i) (m - i) (c - i)) (L.drop i) := by
  rcases h.2 with ⟨e, h0⟩ | ⟨ad, cap, e, hc, h2⟩
  · injection e with q1 q2 q3
    subst q1 q2 q3
    have : L = [] := List.eq_nil_of_length_eq_zero (by omega)
    subst this
    simp only [Nat.zero_sub, Option.map_none, List.drop_nil]
    exact Rds.nil _ _ _
  · injection e with q1 q2 q3
    subst q1 q2 q3
    rcases Nat.eq_zero_or_pos L.length with hz | hz
    · have : L = [] := List.eq_nil_of_length_eq_zero hz
      subst this
      have hi0 : i = 0 := by simp at hi; exact hi
      subst hi0
      exact Rds.empty _ _ _ _ _
    · obtain ⟨b, p, rfl, f2, f3, f4⟩ := h2 hz
      rw [Option.map_some, Addr.add_lit]
      exact Nms.drop h hi
theorem Nms.dropz {A : Nat → Prop} {w : World} {a : Option Addr} {m c i : Nat} {L : List ByteArray} (h : Nms A w (.slice a m c) L) (hi : L.length ≤ i) : Nms A w (.slice a 0 0) (L.drop i) := by
  have : L.drop i = [] := List.drop_of_length_le hi
  rw [this]
  cases a with
  | none => exact Rds.nil _ _ _
  | some ad => exact Rds.empty _ _ _ _ _
theorem Nms.dropAll {A : Nat → Prop} {w : World} {v : Value} {m c : Nat} {L : List ByteArray} (_h : Nms A w v L) (hm : L.length ≤ m) (ad : Addr) : Nms A w (.slice (some ad) 0 c) (L.drop m) := by
  have : L.drop m = [] := List.drop_of_length_le hm
  rw [this]
  exact Rds.empty _ _ _ _ _
end Go.Proofs.YtjccfilbihkfpaaGreatDoor

/- REQUESTS AS THEY LIE; what their records' makers leave. -/
namespace Go.Proofs.YtjccfilbihkfpaaGreatDoor
open Go.RowKit

abbrev qval (q : Fk.Q) (rv : Value) : Value := .agg #[.int .i64 q.client, .int .i64 q.n, .int .i64 q.kind, .int .i64 q.part, .int .i64 q.seq, .int .i64 q.off, .int .i64 q.max, .int .i64 q.gen, .string q.group, .string q.member, rv]
/-- A record, its strings with names. -/
def RecN (w : World) (x : Fk.Wd) (e : Ending) (w' : World) : Prop := ∃ K V : ByteArray, e = .returned (.agg #[.int .i64 0, .string K, .string V, .bool false]) ∧ (K = ⟨(Fk.enc x).1.toArray⟩ ∧ V = ⟨(Fk.enc x).2.toArray⟩) ∧ Below w.heap.size w w'
theorem RecOut.named {w : World} {x : Fk.Wd} {e : Ending} {w' : World} (h : RecOut w x e w') : RecN w x e w' := ⟨_, _, h.1, ⟨rfl, rfl⟩, h.2⟩
/-- The request's box, the answer's. -/
structure QSt (w : World) (bq br : Nat) (qc : Array Value) (wr : World) : Prop where
  low : Below w.heap.size w wr
  kq : Blk wr bq qc 34
  kr : Blk wr br zero4 28
  lq : w.heap.size ≤ bq
  lr : bq < br
theorem QSt.below {w wr w' : World} {bq br : Nat} {qc : Array Value} (h : QSt w bq br qc wr) (b : Below wr.heap.size wr w') : QSt w bq br qc w' := ⟨h.low.trans (b.mono h.low.size), h.kq.below b, h.kr.below b, h.lq, h.lr⟩
theorem QSt.start (w : World) (qc : Array Value) : ∃ W1 W2 : World, w.alloc (.cells qc 34) = W1 ∧ W1.alloc (.cells zero4 28) = W2 ∧ QSt w w.heap.size W1.heap.size qc W2 := by
  have h1 := (Below.refl w.heap.size w).alloc (Nat.le_refl _) (.cells qc 34)
  refine ⟨_, _, rfl, rfl, ⟨h1.alloc h1.size _, ?_, Blk.new _ _ _, Nat.le_refl _, by simp⟩⟩
  exact (Blk.new w qc 34).alloc _
/-- What is stored in the answer's box is answered. -/
theorem QSt.fin {w wr : World} {bq br : Nat} {qc : Array Value} (h : QSt w bq br qc wr) (v0 v1 v2 v3 : Value) : Below w.heap.size w ((((wr.setCell ⟨br, 0, none⟩ v0).setCell ⟨br, 1, none⟩ v1).setCell ⟨br, 2, none⟩ v2).setCell ⟨br, 3, none⟩ v3) :=
  h.low.trans ((four_kb wr br v0 v1 v2 v3).below (Nat.le_of_lt (Nat.lt_of_le_of_lt h.lq h.lr)) h.kr.lt)
theorem join_cat {A : Nat → Prop} (i : Nat) (mem : List ByteArray) (M : ByteArray) (w : World) (U1 U2 : Value) (h1 : ∀ wx, Below w.heap.size w wx → Nms A wx U1 (mem.take i)) (h2 : ∀ wx, Below w.heap.size w wx → Nms A wx U2 (mem.drop i)) (hl : mem.length ≤ 8) :
    Calls Tryz.prog 66 #[.slice (some ⟨w.heap.size + 1, 0, none⟩) 3 3] (((w.alloc (.cells #[.string M] 9)).alloc (.cells #[U1, .slice (some ⟨w.heap.size, 0, none⟩) 1 1, U2] 41)).drew) fun e w' => ClnOut 9 1 (((w.alloc (.cells #[.string M] 9)).alloc (.cells #[U1, .slice (some ⟨w.heap.size, 0, none⟩) 1 1, U2] 41)).drew) (Fk.ins mem i M).length ((Fk.ins mem i M).map Value.string) e w' := by
  obtain ⟨WA, hWA⟩ : ∃ W, w.alloc (.cells #[.string M] 9) = W := ⟨_, rfl⟩
  have sA : WA.heap.size = w.heap.size + 1 := by rw [← hWA]; simp
  have bA : Below w.heap.size w WA := by rw [← hWA]; exact (Below.refl _ _).alloc (Nat.le_refl _) _
  have kA : Blk WA w.heap.size #[.string M] 9 := by rw [← hWA]; exact Blk.new _ _ _
  rw [hWA]
  have bB : Below WA.heap.size WA ((WA.alloc (.cells #[U1, .slice (some ⟨w.heap.size, 0, none⟩) 1 1, U2] 41)).drew) := ((Below.refl _ _).alloc (Nat.le_refl _) _).drew
  have kB : Blk ((WA.alloc (.cells #[U1, .slice (some ⟨w.heap.size, 0, none⟩) 1 1, U2] 41)).drew) WA.heap.size #[U1, .slice (some ⟨w.heap.size, 0, none⟩) 1 1, U2] 41 := Blk.below (Blk.new WA _ _) ((Below.refl _ _).drew)
  obtain ⟨WB, hWB⟩ : ∃ W, (WA.alloc (.cells #[U1, .slice (some ⟨w.heap.size, 0, none⟩) 1 1, U2] 41)).drew = W := ⟨_, rfl⟩
  rw [hWB] at bB kB ⊢
  have hcat : cat [(U1, mem.take i), (.slice (some ⟨w.heap.size, 0, none⟩) 1 1, [M]), (U2, mem.drop i)] = Fk.ins mem i M := by simp [cat, Fk.ins]
  have hb := bA.trans (bB.mono bA.size)
  rw [← hcat, ← sA]
  refine concat_any (A := fun _ => True) WA.heap.size 0 3 3 [(U1, mem.take i), (.slice (some ⟨w.heap.size, 0, none⟩) 1 1, [M]), (U2, mem.drop i)] WB ⟨kB.lt, fun j x hj => ?_, fun x hx => ?_⟩ rfl (by decide) ?_
  · rw [Nat.zero_add]
    match j, hj with
    | 0, hj => simp at hj; subst hj; exact kB.cell rfl
    | 1, hj => simp at hj; subst hj; exact kB.cell rfl
    | 2, hj => simp at hj; subst hj; exact kB.cell rfl
    | j + 3, hj => simp at hj
  · simp only [List.mem_cons, List.not_mem_nil, or_false] at hx
    rcases hx with rfl | rfl | rfl
    · exact (h1 WB hb).mono fun _ _ => trivial
    · refine ⟨rfl, .inr ⟨_, _, rfl, Nat.le_refl _, fun _ => ⟨_, 0, rfl, trivial, Nat.lt_of_lt_of_le kA.lt bB.size, fun j x hj => ?_⟩⟩⟩
      rw [Nat.zero_add]
      exact (kA.below bB).cell (by rw [← Array.getElem?_toList]; exact hj)
    · exact (h2 WB hb).mono fun _ _ => trivial
  · rw [hcat]
    unfold Fk.ins
    rw [List.length_append, List.length_cons, List.length_take, List.length_drop]
    omega
theorem leave_cat {A : Nat → Prop} (i : Nat) (mem : List ByteArray) (w : World) (U1 U2 : Value) (h1 : ∀ wx, Below w.heap.size w wx → Nms A wx U1 (mem.take i)) (h2 : ∀ wx, Below w.heap.size w wx → Nms A wx U2 (mem.drop (i + 1))) (hl : mem.length ≤ 8) :
    Calls Tryz.prog 66 #[.slice (some ⟨w.heap.size, 0, none⟩) 2 2] ((w.alloc (.cells #[U1, U2] 41)).drew) fun e w' => ClnOut 9 1 ((w.alloc (.cells #[U1, U2] 41)).drew) (mem.take i ++ mem.drop (i + 1)).length ((mem.take i ++ mem.drop (i + 1)).map Value.string) e w' := by
  have bB : Below w.heap.size w ((w.alloc (.cells #[U1, U2] 41)).drew) := ((Below.refl _ _).alloc (Nat.le_refl _) _).drew
  have kB : Blk ((w.alloc (.cells #[U1, U2] 41)).drew) w.heap.size #[U1, U2] 41 := Blk.below (Blk.new w _ _) ((Below.refl _ _).drew)
  obtain ⟨WB, hWB⟩ : ∃ W, (w.alloc (.cells #[U1, U2] 41)).drew = W := ⟨_, rfl⟩
  rw [hWB] at bB kB ⊢
  have hcat : cat [(U1, mem.take i), (U2, mem.drop (i + 1))] = mem.take i ++ mem.drop (i + 1) := by simp [cat]
  rw [← hcat]
  refine concat_any (A := fun _ => True) w.heap.size 0 2 2 [(U1, mem.take i), (U2, mem.drop (i + 1))] WB ⟨kB.lt, fun j x hj => ?_, fun x hx => ?_⟩ rfl (by decide) ?_
  · rw [Nat.zero_add]
    match j, hj with
    | 0, hj => simp at hj; subst hj; exact kB.cell rfl
    | 1, hj => simp at hj; subst hj; exact kB.cell rfl
    | j + 2, hj => simp at hj
  · simp only [List.mem_cons, List.not_mem_nil, or_false] at hx
    rcases hx with rfl | rfl
    · exact (h1 WB bB).mono fun _ _ => trivial
    · exact (h2 WB bB).mono fun _ _ => trivial
  · rw [hcat, List.length_append, List.length_take, List.length_drop]
    omega
theorem leave_low {w w8 : World} {o1 : Obj} (h : Below (((w.alloc o1)).drew).heap.size (((w.alloc o1)).drew) w8) : Below w.heap.size w.drew w8 := by
  have h1 : Below w.heap.size w.drew (((w.alloc o1)).drew) := by
    have := ((Below.refl w.heap.size w).alloc (Nat.le_refl _) o1)
    exact ⟨this.os, this.tape, this.output, this.size, this.block⟩
  exact h1.trans (h.mono h1.size)
theorem nms_of {z : Nat} {w : World} {v : Value} {gb : Option Nat} {L : List ByteArray} (h : Wz z w v gb 9 1 L.length (L.map Value.string)) : Nms (fun b => z ≤ b) w v L := h.rd
theorem join_low {w w8 : World} {o1 o2 : Obj} (h : Below (((w.alloc o1).alloc o2).drew).heap.size (((w.alloc o1).alloc o2).drew) w8) : Below w.heap.size w.drew w8 := by
  have h1 : Below w.heap.size w.drew (((w.alloc o1).alloc o2).drew) := by
    have := (((Below.refl w.heap.size w).alloc (Nat.le_refl _) o1).alloc (by simp) o2)
    exact ⟨this.os, this.tape, this.output, this.size, this.block⟩
  exact h1.trans (h.mono h1.size)
end Go.Proofs.YtjccfilbihkfpaaGreatDoor
