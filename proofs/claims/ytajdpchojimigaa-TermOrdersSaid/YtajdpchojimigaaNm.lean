/- The names of an expression's variables: the reference. -/
import Derived.Test.YtajdpchojimigaaSn
namespace Go.Proofs.Ytajdpchojimigaa
open Go.RowKit TmM

/-- the name of a term: of a variable, with its kind; otherwise empty. -/
def nameF (k : Int) (t : ByteArray) : ByteArray := if k = 5 then (⟨#[115, 46]⟩ : ByteArray) ++ t else if k = 6 then (⟨#[116, 46]⟩ : ByteArray) ++ t else if k = 7 then (⟨#[101, 46]⟩ : ByteArray) ++ t else ⟨#[]⟩
theorem nameF_size (k : Int) (t : ByteArray) (h : t.size ≤ 1000000) : (nameF k t).size ≤ 1000002 := by
  have h5 : (⟨#[115, 46]⟩ : ByteArray).size = 2 := rfl
  have h6 : (⟨#[116, 46]⟩ : ByteArray).size = 2 := rfl
  have h7 : (⟨#[101, 46]⟩ : ByteArray).size = 2 := rfl
  unfold nameF
  by_cases e5 : k = 5
  · rw [if_pos e5, ByteArray.size_append]; omega
  · rw [if_neg e5]
    by_cases e6 : k = 6
    · rw [if_pos e6, ByteArray.size_append]; omega
    · rw [if_neg e6]
      by_cases e7 : k = 7
      · rw [if_pos e7, ByteArray.size_append]; omega
      · rw [if_neg e7]; show 0 ≤ _; omega
def addN (s : ByteArray) (out : List ByteArray) : List ByteArray := if s.size = 0 ∨ hasB out s = true then out else out ++ [s]
def namesF : Fo → List ByteArray → List ByteArray
  | .nil, out => out
  | .cons k t c r, out => namesF r (namesF c (addN (nameF k t) out))
theorem namesF_app : ∀ (f g : Fo) (out : List ByteArray), namesF (f.app g) out = namesF g (namesF f out)
  | .nil, _, _ => rfl
  | .cons k t c r, g, out => by simp only [Fo.app, namesF]; exact namesF_app r g _
theorem names_next {f : Fo} {n : Nat} {k t c g} (hd : f.drop n = .cons k t c g) (out : List ByteArray) : namesF (f.take (n + 1)) out = namesF c (addN (nameF k t) (namesF (f.take n) out)) := by
  rw [Fo.take_succ hd, namesF_app]; rfl
theorem addN_len (s : ByteArray) (out : List ByteArray) : (addN s out).length ≤ out.length + 1 := by unfold addN; split <;> simp
theorem names_len : ∀ (f : Fo) (out : List ByteArray), (namesF f out).length ≤ out.length + f.count
  | .nil, _ => by simp [namesF, Fo.count]
  | .cons k t c r, out => by
    have h1 := names_len r (namesF c (addN (nameF k t) out))
    have h2 := names_len c (addN (nameF k t) out)
    have h3 := addN_len (nameF k t) out
    simp only [namesF, Fo.count]
    omega
theorem addN_skip {s : ByteArray} {out : List ByteArray} (h : s.size = 0 ∨ hasB out s = true) : addN s out = out := if_pos h
theorem addN_new {s : ByteArray} {out : List ByteArray} (h : 0 < s.size) (h2 : hasB out s = false) : addN s out = out ++ [s] := if_neg (fun h3 => by rcases h3 with h3 | h3; omega; rw [h2] at h3; cases h3)

set_option maxHeartbeats 1600000 in
theorem rname_any (k : Int) (t : ByteArray) (a : Option Addr) (l c : Nat) (w : World) (ht : t.size ≤ 1000000) :
    Calls Try.prog 32 #[.agg #[.int .i64 k, .string t, .slice a l c]] w (OutV w (.string (nameF k t))) := by
  have hb : Below w.heap.size w (w.alloc (.cells #[.int .i64 k, .string t, .slice a l c] 35)) := (Below.refl _ _).alloc (Nat.le_refl _) _
  rcases (show k = 5 ∨ k = 6 ∨ k = 7 ∨ (k ≠ 5 ∧ k ≠ 6 ∧ k ≠ 7) by omega) with rfl | rfl | rfl | ⟨h5, h6, h7⟩
  · go_enter Try.func32, Try.ntmps32
    go_wp2
    go_ret
    exact ⟨rfl, hb⟩
  · go_enter Try.func32, Try.ntmps32
    go_wp2
    go_ret
    exact ⟨rfl, hb⟩
  · go_enter Try.func32, Try.ntmps32
    go_wp2
    go_ret
    exact ⟨rfl, hb⟩
  · have e5 : (k == 5) = false := by simpa using h5
    have e6 : (k == 6) = false := by simpa using h6
    have e7 : (k == 7) = false := by simpa using h7
    have HN := Lib.hid (show nameF k t = ⟨#[]⟩ from by rw [nameF, if_neg h5, if_neg h6, if_neg h7])
    clear h5 h6 h7
    go_enter Try.func32, Try.ntmps32
    go_wp2
    go_ret
    exact ⟨by rw [HN.out]; rfl, hb⟩

set_option maxHeartbeats 12800000 in
set_option maxRecDepth 100000 in
theorem rnames_n (N : Nat) : ∀ (f : Fo) (a : Option Addr) (cap : Nat) (l : List ByteArray) (a2 : Option Addr) (cap2 : Nat) (w : World), f.count < N → Small f → Sl w.heap.size w a cap f → Ss w a2 cap2 l → l.length + f.count ≤ 4000000 →
    Calls Try.prog 73 #[.slice a f.len cap, .slice a2 l.length cap2] w (OutS w (namesF f l)) := by
  induction N with
  | zero => exact fun f a cap l a2 cap2 w hc _ _ _ _ => absurd hc (Nat.not_lt_zero _)
  | succ N ih =>
    intro f a cap l a2 cap2 w hc hsm hs hs2 hL
    have hnot : ∀ (x : Bool) (w : World), (Op.unary .not (.bool x)).run Try.prog w = .ok (.bool (!x)) w := fun _ _ => rfl
    obtain ⟨b, o, hab, hbw, HCX⟩ := base_of hs
    have hcap := hs.cap
    unfold maxLen at hcap
    have HAB := Lib.hid hab
    have HBW := Lib.hid hbw
    have HIH := Lib.hid ih
    have HC := Lib.hid hc
    have HSM := Lib.hid hsm
    have HL := Lib.hid hL
    obtain ⟨m, hm⟩ : ∃ m, m = f.len := ⟨_, rfl⟩
    obtain ⟨m2, hm2⟩ : ∃ m, m = l.length := ⟨_, rfl⟩
    have HM := Lib.hid hm
    have HM2 := Lib.hid hm2
    have HS2 := Lib.hid hs2
    rw [← hm] at hcap ⊢
    rw [← hm2]
    clear ih hs hab hbw hc hsm hL hs2 hm hm2
    go_enter Try.func73, Try.ntmps73
    go_wp2_with fail
    go_loopw [1, 5] (fun u i wr => ∃ (k : Nat) (ax : Option Addr) (mx cx : Nat), u = .slice ax mx cx ∧ i = .int .i64 k ∧ k ≤ m ∧ Hid (mx = (namesF (f.take k) l).length) ∧ Hid (Ss wr ax cx (namesF (f.take k) l)) ∧ Below w.heap.size w wr) (fun _ i _ => m - (intOf i).toNat)
    case atStart => exact ⟨0, _, _, _, rfl, rfl, Nat.zero_le _, Lib.hid (by rw [Fo.take_zero]; exact HM2.out), Lib.hid (by rw [Fo.take_zero]; exact HS2.out), Below.refl _ _⟩
    case round =>
      obtain ⟨k, ax, mx, cx, rfl, rfl, hk, hmx, hsx, hbl⟩ := hrel
      by_cases hkl : k < m
      · have hkf : k < f.len := by rw [← HM.out]; exact hkl
        have hki : (k : Int) < (m : Int) := by omega
        obtain rfl := HAB.out (by omega)
        have hb := HBW.out (by omega)
        obtain ⟨kd, t, c, hd⟩ := Fo.drop_at hkf
        obtain ⟨c0, c1, ac, capc, c2, hsc⟩ := HCX.out k kd t c _ hd
        have hat := HSM.out.at hd
        have e0 := (hbl.cell (p := ⟨b, o + k * 3, none⟩) hb).trans c0
        have e1 := (hbl.cell (p := ⟨b, o + k * 3 + 1, none⟩) hb).trans c1
        have e2 := (hbl.cell (p := ⟨b, o + k * 3 + 2, none⟩) hb).trans c2
        have hbz : b < wr.heap.size := Nat.lt_of_lt_of_le hb hbl.size
        have hck := Fo.count_kid hd
        have htk : (f.take k).count + (c.count + (f.drop (k + 1)).count + 1) = f.count := by
          have e := congrArg Fo.count (Fo.take_app_drop k f)
          rw [Fo.count_app, hd] at e; exact e
        have HLX := Lib.hid (show (namesF (f.take k) l).length + 1 + c.count ≤ 4000000 by have := names_len (f.take k) l; have := HL.out; omega)
        have HN := Lib.hid (names_next hd l)
        obtain ⟨L, hLn⟩ : ∃ L, L = namesF (f.take k) l := ⟨_, rfl⟩
        rw [← hLn] at hmx hsx HLX HN
        have HSC := Lib.hid (hsc.below hbl hbl.size)
        have HCK := Lib.hid hck
        have HSMC := Lib.hid hat.2
        have ht6 : t.size ≤ 1000000 := by have := hat.1; omega
        obtain ⟨mc, hmc⟩ : ∃ m, m = c.len := ⟨_, rfl⟩
        rw [← hmc] at e2 c2
        have HMC := Lib.hid hmc
        obtain ⟨s, hsn⟩ : ∃ s, s = nameF kd t := ⟨_, rfl⟩
        have HSN := Lib.hid hsn
        have NM := Lib.hid (rname_any kd t ac mc capc wr ht6)
        rw [← hsn] at NM HN
        have hss : s.size ≤ 1000002 := by
          rw [hsn]
          exact nameF_size kd t ht6
        have HSS := Lib.hid hss
        have HCALL := Lib.hid (fun (W : World) (hbW : Below wr.heap.size wr W) (l' : List ByteArray) (m' : Nat) (a' : Option Addr) (c' : Nat) (hm' : m' = l'.length) (hl' : l'.length ≤ L.length + 1) (hs' : Ss W a' c' l') => show Calls Try.prog 73 #[.slice ac mc capc, .slice a' m' c'] W (OutS W (namesF c l')) from by
          rw [HMC.out, hm']
          exact HIH.out c ac capc l' a' c' W (by have := HC.out; have := HCK.out; omega) HSMC.out (HSC.out.below hbW hbW.size) hs' (by have := HLX.out; omega))
        clear hd hsc c0 c1 c2 hck hat htk hLn hmc hsn hss ht6 hkf
        go_wp2_with fail
        refine NM.out.mono ?_
        rintro e w2 ⟨rfl, hb2⟩
        have d2 := (hb2.cell (p := ⟨b, o + k * 3 + 2, none⟩) hbz).trans e2
        have hbl2 := hbl.trans (hb2.mono hbl.size)
        have hsx2 := Lib.hid (hsx.out.later hb2)
        by_cases hz : s.size = 0
        · have hs1 := nil_of hz
          have HA := Lib.hid (show addN s L = L from addN_skip (.inl hz))
          clear hz e0 e1 e2
          go_wp2_with fail
          refine (HCALL.out w2 hb2 L mx ax cx hmx.out (Nat.le_succ _) hsx2.out).mono ?_
          rintro e w9 ⟨a9, c9, rfl, hs9, hb9⟩
          have hbl9 := hbl2.trans (hb9.out.mono hbl2.size)
          have HX9 := Lib.hid (show namesF (f.take (k + 1)) l = namesF c L from by rw [HN.out, HA.out])
          go_wp2
          go_roundw
          case rel => exact ⟨k + 1, a9, _, c9, rfl, by go_num, by omega, Lib.hid (by rw [HX9.out]), Lib.hid (by rw [HX9.out]; exact hs9.out), hbl9⟩
          case measure => simp [intOf]; omega
        · have hz1 : 0 < s.size := by omega
          have hs2 := empty_of hz1
          have hs3 := not_nil_of hz1
          have HS := Lib.hid (rhas_any L ax cx s w2 hsx2.out)
          obtain ⟨q, hq⟩ : ∃ q, q = hasB L s := ⟨_, rfl⟩
          rw [← hq, ← hmx.out] at HS
          have HQ := Lib.hid hq
          have HZ := Lib.hid hz1
          clear hz hq e0 e1 e2
          go_wp2_with fail
          refine HS.out.mono ?_
          rintro e w3 ⟨rfl, rfl⟩
          cases q
          · have HA := Lib.hid (show addN s L = L ++ [s] from addN_new HZ.out HQ.out.symm)
            have hoE := OwnS.empty (w := w2) rfl
            have hbE : Below w2.heap.size w2 (w2.alloc (.cells #[] 9)) := (Below.refl _ _).alloc (Nat.le_refl _) _
            have hsE := hsx2.out.later hbE
            have HBE := Lib.hid hbE
            have hbz2 : b < w2.heap.size := Nat.lt_of_lt_of_le hbz hb2.size
            have HLX2 := Lib.hid (show L.length ≤ 4000000 by have := HLX.out; omega)
            clear hbE
            go_wp2_with (first
              | (at_builtin; refine wpList_append_strs rfl (.tmp 28) (.tmp 30) rfl (hB6.later ((Below.refl _ w6).alloc (Nat.le_refl _) _)) rfl rfl rfl (Ss.one w6 s) (by have := HLX2.out; simp; omega) ?_; intro v7 w7 hB7 hgrow7 hat7; have hb7 := Lib.hid ((hb6.out.alloc (by have := hb6.out.size; omega) _).grown hgrow7 (by have := hb6.out.size; simp; omega) (fun k hk => hB6.own_ge hk)); have d7 := (hb7.out.cell (p := ⟨b, o + k * 3 + 2, none⟩) hbz2).trans d2; obtain ⟨a7, c7, hv7, hs7⟩ := hB7.ss; subst hv7)
              | (at_builtin; refine wpList_append_strs rfl (.tmp 26) (.tmp 27) rfl hoE rfl rfl hmx.out hsE (by have := HLX2.out; simp; omega) ?_; intro v6 w6 hB6 hgrow6 hat6; have hb6 := Lib.hid (HBE.out.grown hgrow6 (by simp) (fun k hk => hoE.own_ge hk)))
              | fail)
            have hb27 := hb2.trans (hb7.out.mono hb2.size)
            have hbl7 := hbl.trans (hb27.mono hbl.size)
            refine (HCALL.out w7 hb27 (L ++ [s]) (L.length + 1) a7 c7 (by simp) (by simp) (by simpa using hs7)).mono ?_
            rintro e w9 ⟨a9, c9, rfl, hs9, hb9⟩
            have hbl9 := hbl7.trans (hb9.out.mono hbl7.size)
            have HX9 := Lib.hid (show namesF (f.take (k + 1)) l = namesF c (L ++ [s]) from by rw [HN.out, HA.out])
            clear hB7 hB6 hs7 hat7 hat6 hgrow7 hgrow6 hoE hsE
            go_wp2
            go_roundw
            case rel => exact ⟨k + 1, a9, _, c9, rfl, by go_num, by omega, Lib.hid (by rw [HX9.out]), Lib.hid (by rw [HX9.out]; exact hs9.out), hbl9⟩
            case measure => simp [intOf]; omega
          · have HA := Lib.hid (show addN s L = L from addN_skip (.inr HQ.out.symm))
            go_wp2_with fail
            refine (HCALL.out w2 hb2 L mx ax cx hmx.out (Nat.le_succ _) hsx2.out).mono ?_
            rintro e w9 ⟨a9, c9, rfl, hs9, hb9⟩
            have hbl9 := hbl2.trans (hb9.out.mono hbl2.size)
            have HX9 := Lib.hid (show namesF (f.take (k + 1)) l = namesF c L from by rw [HN.out, HA.out])
            go_wp2
            go_roundw
            case rel => exact ⟨k + 1, a9, _, c9, rfl, by go_num, by omega, Lib.hid (by rw [HX9.out]), Lib.hid (by rw [HX9.out]; exact hs9.out), hbl9⟩
            case measure => simp [intOf]; omega
      · have hki : ¬ (k : Int) < (m : Int) := by omega
        have HF := Lib.hid (show f.take k = f from by rw [show k = f.len by rw [← HM.out]; omega, Fo.take_len])
        clear hkl
        rw [HF.out] at hmx hsx
        go_wp2
        go_ret
        exact ⟨ax, cx, by rw [← hmx.out]; rfl, hsx, Lib.hid hbl⟩

theorem rvariables_any (f : Fo) (a : Option Addr) (cap : Nat) (w : World) (hc : f.count ≤ 1000000) (hsm : Small f) (hs : Sl w.heap.size w a cap f) :
    Calls Try.prog 39 #[.slice a f.len cap] w (OutS w (namesF f [])) := by
  have S := Lib.hid (rnames_n 1000001 f a cap [] none 0 w (by omega) hsm hs Ss.nil (by simp; omega))
  obtain ⟨m, hm⟩ : ∃ m, m = f.len := ⟨_, rfl⟩
  rw [← hm] at S ⊢
  clear hm hc hsm hs
  go_enter Try.func39, Try.ntmps39
  go_wp2_with fail
  refine S.out.mono ?_
  rintro e w2 ⟨a2, c2, rfl, hs2, hb2⟩
  go_wp2
  go_ret
  exact ⟨a2, c2, rfl, hs2, hb2⟩

/-- whether there is a call. -/
def callsF : Fo → Bool
  | .nil => false
  | .cons k _ c r => (decide (k = 8) || callsF c) || callsF r
theorem callsF_app (f g : Fo) : callsF (f.app g) = (callsF f || callsF g) := by induction f with
  | nil => simp [callsF]
  | cons k t c r _ ih => simp [Fo.app, callsF, ih, Bool.or_assoc]
theorem calls_split (f : Fo) (n : Nat) : callsF f = (callsF (f.take n) || callsF (f.drop n)) := by rw [← callsF_app, Fo.take_app_drop]
theorem calls_next {f : Fo} {n : Nat} {k t c g} (hd : f.drop n = .cons k t c g) : callsF (f.take (n + 1)) = (callsF (f.take n) || (decide (k = 8) || callsF c)) := by
  rw [Fo.take_succ hd, callsF_app]; simp [callsF]

set_option maxHeartbeats 3200000 in
set_option maxRecDepth 100000 in
theorem rcalls_n (N : Nat) : ∀ (f : Fo) (a : Option Addr) (cap : Nat) (w : World), f.count < N → Sl w.heap.size w a cap f →
    Calls Try.prog 41 #[.slice a f.len cap] w fun e w' => e = .returned (.bool (callsF f)) ∧ w = w' := by
  induction N with
  | zero => exact fun f a cap w hc _ => absurd hc (Nat.not_lt_zero _)
  | succ N ih =>
    intro f a cap w hc hs
    obtain ⟨b, o, hab, hbw, HCX⟩ := base_of hs
    have hcap := hs.cap
    unfold maxLen at hcap
    have HAB := Lib.hid hab
    have HIH := Lib.hid ih
    have HC := Lib.hid hc
    obtain ⟨R, hR⟩ : ∃ R, R = callsF f := ⟨_, rfl⟩
    obtain ⟨m, hm⟩ : ∃ m, m = f.len := ⟨_, rfl⟩
    have HM := Lib.hid hm
    rw [← hR, ← hm]
    rw [← hm] at hcap
    have HR := Lib.hid hR
    clear ih hs hab hbw hc hR hm
    go_enter Try.func41, Try.ntmps41
    go_wp2_with fail
    go_loop [3] (fun i => ∃ k : Nat, i = .int .i64 k ∧ k ≤ m ∧ Hid (callsF (f.take k) = false)) (fun i => m - (intOf i).toNat)
    case atStart => exact ⟨0, rfl, Nat.zero_le _, Lib.hid (by rw [Fo.take_zero]; rfl)⟩
    case round =>
      obtain ⟨k, rfl, hk, hok⟩ := hrel
      by_cases hkl : k < m
      · have hkf : k < f.len := by rw [← HM.out]; exact hkl
        have hki : (k : Int) < (m : Int) := by omega
        obtain rfl := HAB.out (by omega)
        obtain ⟨kd, t, c, hd⟩ := Fo.drop_at hkf
        obtain ⟨c0, c1, ac, capc, c2, hsc⟩ := HCX.out k kd t c _ hd
        have hck := Fo.count_kid hd
        have S := Lib.hid (HIH.out c ac capc w (by have := HC.out; omega) hsc)
        have HN := Lib.hid (calls_next hd)
        have HS := Lib.hid (calls_split f (k + 1))
        obtain ⟨g, hg⟩ : ∃ g, g = callsF c := ⟨_, rfl⟩
        rw [← hg] at S HN
        clear hd hsc hck hg hkf
        by_cases h1 : kd = 8
        · subst h1
          have HF := Lib.hid (show R = true from by rw [HR.out, HS.out, HN.out, decide_eq_true rfl]; simp)
          go_wp2
          go_ret
          exact ⟨by rw [HF.out]; rfl, rfl⟩
        · have e1 : (kd == 8) = false := by simpa using h1
          have H1 := Lib.hid h1
          clear h1
          cases g
          · have HF := Lib.hid (show callsF (f.take (k + 1)) = false from by rw [HN.out, hok.out, decide_eq_false H1.out]; rfl)
            go_wp2_with (go_at_call 41; refine S.out.mono ?_; rintro e w2 ⟨rfl, rfl⟩)
            go_round
            case rel => exact ⟨k + 1, by go_num, by omega, HF⟩
            case measure => simp [intOf]; omega
          · have HF := Lib.hid (show R = true from by rw [HR.out, HS.out, HN.out]; simp)
            go_wp2_with (go_at_call 41; refine S.out.mono ?_; rintro e w2 ⟨rfl, rfl⟩)
            go_ret
            exact ⟨by rw [HF.out]; rfl, rfl⟩
      · have hki : ¬ (k : Int) < (m : Int) := by omega
        have HF := Lib.hid (show R = false from by rw [HR.out, ← hok.out, show f.take k = f by rw [show k = f.len by rw [← HM.out]; omega, Fo.take_len]])
        clear hkl
        go_wp2
        go_ret
        exact ⟨by rw [HF.out]; rfl, rfl⟩
theorem rcalls_any (f : Fo) (a : Option Addr) (cap : Nat) (w : World) (hs : Sl w.heap.size w a cap f) :
    Calls Try.prog 41 #[.slice a f.len cap] w fun e w' => e = .returned (.bool (callsF f)) ∧ w = w' := rcalls_n (f.count + 1) f a cap w (Nat.lt_succ_self _) hs

end Go.Proofs.Ytajdpchojimigaa
