/- The order of expressions, as plain mathematics. -/
import Derived.Test.YtajdpchojimigaaMem
import Derived.Laws.Cover1
namespace Go.Proofs.Ytajdpchojimigaa
open Go.RowKit TmM
namespace TmM

def signB (s t : ByteArray) : Int := if Op.bytesLess s.toList t.toList then -1 else if s.toList == t.toList then 0 else 1
theorem less_irrefl : ∀ s : List UInt8, Op.bytesLess s s = false
  | [] => rfl
  | a :: r => by simp [Op.bytesLess, less_irrefl r]
theorem signB_self (s : ByteArray) : signB s s = 0 := by simp [signB, less_irrefl]
theorem bytes_eq {s t : ByteArray} (h : s.toList = t.toList) : s = t := by
  rw [ByteArray.toList_eq, ByteArray.toList_eq] at h
  exact ByteArray.ext (Array.toList_inj.1 h)
theorem signB_zero {s t : ByteArray} (h : signB s t = 0) : s = t := by
  unfold signB at h
  split at h
  · omega
  · split at h
    · rename_i h2; exact bytes_eq (by simpa using h2)
    · omega

def cmpF : Fo → Fo → Int
  | .nil, .nil => 0
  | .nil, .cons _ _ _ _ => -1
  | .cons _ _ _ _, .nil => 1
  | .cons k t c r, .cons k' t' c' r' => if k ≠ k' then (if k < k' then -1 else 1) else if signB t t' ≠ 0 then signB t t' else if cmpF c c' ≠ 0 then cmpF c c' else cmpF r r'
theorem cmpF_self (f : Fo) : cmpF f f = 0 := by induction f with
  | nil => rfl
  | cons k t c r ic ih => simp [cmpF, signB_self, ic, ih]
theorem cmpF_zero : ∀ {f g : Fo}, cmpF f g = 0 → f = g
  | .nil, .nil, _ => rfl
  | .nil, .cons _ _ _ _, h => by simp [cmpF] at h
  | .cons _ _ _ _, .nil, h => by simp [cmpF] at h
  | .cons k t c r, .cons k' t' c' r', h => by
    rw [cmpF] at h
    by_cases h1 : k = k'
    · rw [if_neg (by simpa using h1)] at h
      by_cases h2 : signB t t' = 0
      · rw [if_neg (by simpa using h2)] at h
        by_cases h3 : cmpF c c' = 0
        · rw [if_neg (by simpa using h3)] at h
          rw [h1, signB_zero h2, cmpF_zero h3, cmpF_zero h]
        · rw [if_pos (by simpa using h3)] at h; exact absurd h h3
      · rw [if_pos (by simpa using h2)] at h; exact absurd h h2
    · rw [if_pos (by simpa using h1)] at h; split at h <;> omega
/-- whether two expressions are equal, by their order. -/
def eqF (f g : Fo) : Bool := cmpF f g == 0
theorem eqF_self (f : Fo) : eqF f f = true := by rw [eqF, cmpF_self]; rfl
theorem eqF_iff {f g : Fo} : eqF f g = true ↔ f = g := by
  refine ⟨fun h => cmpF_zero (by simpa [eqF] using h), fun h => by rw [h, eqF_self]⟩
end TmM

/-- the world, but for draws. -/
def Drew (w w' : World) : Prop := ∃ q, w' = w.drewN q
theorem Drew.refl (w : World) : Drew w w := ⟨0, rfl⟩
theorem Drew.step {w w' : World} (h : Drew w w') (n : Nat) : Drew w (w'.drewN n) := by
  obtain ⟨q, rfl⟩ := h
  exact ⟨q + n, World.drewN_drewN _ _ _⟩
theorem Drew.below {w w' : World} (h : Drew w w') : Below w.heap.size w w' := by
  obtain ⟨q, rfl⟩ := h
  exact below_drewN (Below.refl _ _) q

set_option maxHeartbeats 800000 in
theorem sign_any (s t : ByteArray) (w : World) : Calls Try.prog 65 #[.string s, .string t] w fun e w' => e = .returned (.int .i64 (signB s t)) ∧ w' = w := by
  obtain ⟨l, hl⟩ : ∃ l, l = Op.bytesLess s.toList t.toList := ⟨_, rfl⟩
  obtain ⟨q, hq⟩ : ∃ q, q = (s.toList == t.toList) := ⟨_, rfl⟩
  have HR := Lib.hid (show signB s t = if l then -1 else if q then 0 else 1 from by rw [signB, ← hl, ← hq])
  cases l
  · cases q
    · have h1 := hl.symm
      have h2 := hq.symm
      clear hl hq
      go_enter Try.func65, Try.ntmps65
      go_wp2
      go_ret
      exact ⟨by rw [HR.out]; rfl, rfl⟩
    · have h1 := hl.symm
      have h2 := hq.symm
      clear hl hq
      go_enter Try.func65, Try.ntmps65
      go_wp2
      go_ret
      exact ⟨by rw [HR.out]; rfl, rfl⟩
  · have h1 := hl.symm
    clear hl hq
    go_enter Try.func65, Try.ntmps65
    go_wp2
    go_ret
    exact ⟨by rw [HR.out]; rfl, rfl⟩

theorem quiet_add {P : Program} {f : FuncId} {args : Array Value} {w : World} {a n : Nat} {v : Value}
    (h : Calls P f args (w.drewN (a + n)) fun e w' => e = .returned v ∧ Drew (w.drewN (a + n)) w') :
    Calls P f args (w.drewN (a + n)) fun e w'' => e = .returned v ∧ ∃ m, w'' = w.drewN (a + m) :=
  h.mono fun _ _ ⟨he, m, hm⟩ => ⟨he, n + m, by rw [hm, World.drewN_drewN, Nat.add_assoc]⟩
theorem quiet_add_same {P : Program} {f : FuncId} {args : Array Value} {w : World} {a n : Nat} {v : Value}
    (h : Calls P f args (w.drewN (a + n)) fun e w' => e = .returned v ∧ w' = w.drewN (a + n)) :
    Calls P f args (w.drewN (a + n)) fun e w'' => e = .returned v ∧ ∃ m, w'' = w.drewN (a + m) :=
  h.mono fun _ _ ⟨he, hm⟩ => ⟨he, n, hm⟩

/-- what stands at an index of both, and behind. -/
theorem cmp_next {f g : Fo} {n : Nat} {k t c x k' t' c' y} (h : f.drop n = .cons k t c x) (h' : g.drop n = .cons k' t' c' y) :
    cmpF (f.drop n) (g.drop n) = if k ≠ k' then (if k < k' then -1 else 1) else if signB t t' ≠ 0 then signB t t' else if cmpF c c' ≠ 0 then cmpF c c' else cmpF x y := by
  rw [h, h', cmpF]

set_option maxHeartbeats 12800000 in
set_option maxRecDepth 100000 in
theorem compare_n (N : Nat) : ∀ (f g : Fo) (a a' : Option Addr) (cap cap' : Nat) (w : World), f.count ≤ N → Sl w.heap.size w a cap f → Sl w.heap.size w a' cap' g →
    Calls Try.prog 23 #[.slice a f.len cap, .slice a' g.len cap'] w fun e w' => e = .returned (.int .i64 (cmpF f g)) ∧ Drew w w' := by
  induction N with
  | zero =>
    intro f g a a' cap cap' w hc hs hs'
    have hcap' := hs'.cap
    unfold maxLen at hcap'
    obtain rfl : f = .nil := by cases f with
      | nil => rfl
      | cons k t c r => simp [Fo.count] at hc
    obtain ⟨R, hR⟩ : ∃ R, R = cmpF .nil g := ⟨_, rfl⟩
    rw [← hR]
    have HR := Lib.hid hR
    have HZ := Lib.hid (show 0 < g.len → R = -1 from fun h => by cases g with
      | nil => simp at h
      | cons _ _ _ _ => exact hR)
    have HZ2 := Lib.hid (show ¬ 0 < g.len → R = 0 from fun h => by cases g with
      | nil => exact hR
      | cons _ _ _ _ => simp at h)
    clear hR hs hs' hc
    by_cases hg : 0 < g.len
    · have hg2 : (0 : Int) < (g.len : Int) := by omega
      have HQ := Lib.hid (HZ.out hg)
      go_enter Try.func23, Try.ntmps23
      go_wp2_with fail
      go_loop [5] (fun i => i = .int .i64 0) (fun _ => 0)
      case atStart => rfl
      case round =>
        obtain rfl := hrel
        go_wp2
        go_ret
        exact ⟨by rw [HQ.out]; rfl, Drew.refl _⟩
    · have hg2 : ¬ (0 : Int) < (g.len : Int) := by omega
      have HQ := Lib.hid (HZ2.out hg)
      have hgl : g.len = 0 := by omega
      rw [hgl]
      clear hgl
      go_enter Try.func23, Try.ntmps23
      go_wp2_with fail
      go_loop [5] (fun i => i = .int .i64 0) (fun _ => 0)
      case atStart => rfl
      case round =>
        obtain rfl := hrel
        go_wp2
        go_ret
        exact ⟨by rw [HQ.out]; rfl, Drew.refl _⟩
  | succ N ih =>
    intro f g a a' cap cap' w hc hs hs'
    obtain ⟨b, o, hab, hbw, HCX⟩ := base_of hs
    obtain ⟨b', o', hab', hbw', HCY⟩ := base_of hs'
    have hcap := hs.cap
    have hcap' := hs'.cap
    unfold maxLen at hcap hcap'
    have HAB := Lib.hid hab
    have HAB' := Lib.hid hab'
    have HBW := Lib.hid hbw
    have HBW' := Lib.hid hbw'
    have HIH := Lib.hid ih
    have HC := Lib.hid hc
    obtain ⟨R, hR⟩ : ∃ R, R = cmpF f g := ⟨_, rfl⟩
    rw [← hR]
    have HR := Lib.hid hR
    clear ih hs hs' hab hab' hbw hbw' hc hR
    go_enter Try.func23, Try.ntmps23
    go_wp2_with fail
    go_loopw [5] (fun i wr => ∃ k : Nat, i = .int .i64 k ∧ k ≤ f.len ∧ k ≤ g.len ∧ Hid (R = cmpF (f.drop k) (g.drop k)) ∧ Hid (Drew w wr)) (fun i _ => f.len - (intOf i).toNat)
    case atStart => exact ⟨0, rfl, Nat.zero_le _, Nat.zero_le _, Lib.hid (by rw [Fo.drop_zero, Fo.drop_zero]; exact HR.out), Lib.hid (Drew.refl _)⟩
    case round =>
      obtain ⟨k, rfl, hk, hk', heq, hdr⟩ := hrel
      by_cases hkl : k < f.len
      · by_cases hkl' : k < g.len
        · obtain rfl := HAB.out (by omega)
          obtain rfl := HAB'.out (by omega)
          obtain ⟨kd, t, c, hd⟩ := Fo.drop_at hkl
          obtain ⟨kd', t', c', hd'⟩ := Fo.drop_at hkl'
          obtain ⟨x0, x1, ac, capc, x2, hsc⟩ := HCX.out k kd t c _ hd
          obtain ⟨y0, y1, ac', capc', y2, hsc'⟩ := HCY.out k kd' t' c' _ hd'
          have hck := Fo.count_kid hd
          have hbl := hdr.out.below
          have c0 : wr.cell? ⟨b, o + k * 3, none⟩ = some (.int .i64 kd) := (hbl.cell (p := ⟨b, o + k * 3, none⟩) (HBW.out (by omega))).trans x0
          have c1 : wr.cell? ⟨b, o + k * 3 + 1, none⟩ = some (.string t) := (hbl.cell (p := ⟨b, o + k * 3 + 1, none⟩) (HBW.out (by omega))).trans x1
          have c2 : wr.cell? ⟨b, o + k * 3 + 2, none⟩ = some (.slice ac c.len capc) := (hbl.cell (p := ⟨b, o + k * 3 + 2, none⟩) (HBW.out (by omega))).trans x2
          have d0 : wr.cell? ⟨b', o' + k * 3, none⟩ = some (.int .i64 kd') := (hbl.cell (p := ⟨b', o' + k * 3, none⟩) (HBW'.out (by omega))).trans y0
          have d1 : wr.cell? ⟨b', o' + k * 3 + 1, none⟩ = some (.string t') := (hbl.cell (p := ⟨b', o' + k * 3 + 1, none⟩) (HBW'.out (by omega))).trans y1
          have d2 : wr.cell? ⟨b', o' + k * 3 + 2, none⟩ = some (.slice ac' c'.len capc') := (hbl.cell (p := ⟨b', o' + k * 3 + 2, none⟩) (HBW'.out (by omega))).trans y2
          have ST := Lib.hid (fun (q : Nat) => HIH.out c c' ac ac' capc capc' (wr.drewN q) (by have := HC.out; omega) (hsc.below (below_drewN hbl q) (below_drewN hbl q).size) (hsc'.below (below_drewN hbl q) (below_drewN hbl q).size))
          have HN := Lib.hid (show R = _ from heq.out.trans (cmp_next hd hd'))
          obtain ⟨sg, hsg⟩ : ∃ sg, sg = signB t t' := ⟨_, rfl⟩
          obtain ⟨cm, hcm⟩ : ∃ cm, cm = cmpF c c' := ⟨_, rfl⟩
          have SG := Lib.hid (fun (w : World) => sign_any t t' w)
          rw [← hsg] at HN SG
          rw [← hcm] at HN ST
          clear hd hd' x0 x1 x2 y0 y1 y2 hsc hsc' hck hbl hsg hcm
          by_cases hk1 : kd = kd'
          · subst hk1
            have HN1 := Lib.hid (show R = if sg ≠ 0 then sg else if cm ≠ 0 then cm else cmpF (f.drop (k + 1)) (g.drop (k + 1)) from by rw [HN.out, if_neg (by simp)])
            by_cases hs0 : sg = 0
            · subst hs0
              have HN2 := Lib.hid (show R = if cm ≠ 0 then cm else cmpF (f.drop (k + 1)) (g.drop (k + 1)) from by rw [HN1.out, if_neg (by simp)])
              by_cases hc0 : cm = 0
              · subst hc0
                have HN3 := Lib.hid (show R = cmpF (f.drop (k + 1)) (g.drop (k + 1)) from by rw [HN2.out, if_neg (by simp)])
                go_wp2_with fail
                go_quiet (fail)
                go_wp2_with fail
                go_quiet ((go_at_call 65; exact quiet_add_same (SG.out _)))
                go_wp2_with fail
                go_quiet ((go_at_call 23; exact quiet_add (ST.out _)))
                go_wp2_with fail
                go_roundw
                case rel => exact ⟨k + 1, by go_num, by omega, by omega, HN3, Lib.hid (hdr.out.step _)⟩
                case measure => simp [intOf]; omega
              · have e0 : (cm != 0) = true := by simpa using hc0
                have HN3 := Lib.hid (show R = cm from by rw [HN2.out, if_pos hc0])
                clear hc0
                go_wp2_with fail
                go_quiet (fail)
                go_wp2_with fail
                go_quiet ((go_at_call 65; exact quiet_add_same (SG.out _)))
                go_wp2_with fail
                go_quiet ((go_at_call 23; exact quiet_add (ST.out _)))
                go_wp2_with fail
                go_ret
                exact ⟨by rw [HN3.out]; rfl, hdr.out.step _⟩
            · have e0 : (sg != 0) = true := by simpa using hs0
              have HN2 := Lib.hid (show R = sg from by rw [HN1.out, if_pos hs0])
              clear hs0
              go_wp2_with fail
              go_quiet (fail)
              go_wp2_with fail
              go_quiet ((go_at_call 65; exact quiet_add_same (SG.out _)))
              go_wp2_with fail
              go_ret
              exact ⟨by rw [HN2.out]; rfl, hdr.out.step _⟩
          · have e0 : (kd != kd') = true := by simpa using hk1
            by_cases hlt : kd < kd'
            · have HN1 := Lib.hid (show R = -1 from by rw [HN.out, if_pos hk1, if_pos hlt])
              clear hk1
              go_wp2_with fail
              go_quiet (fail)
              go_wp2_with fail
              go_quiet (fail)
              go_wp2_with fail
              go_ret
              exact ⟨by rw [HN1.out]; rfl, (hdr.out.step _).step _⟩
            · have HN1 := Lib.hid (show R = 1 from by rw [HN.out, if_pos hk1, if_neg hlt])
              clear hk1
              go_wp2_with fail
              go_quiet (fail)
              go_wp2_with fail
              go_quiet (fail)
              go_wp2_with fail
              go_ret
              exact ⟨by rw [HN1.out]; rfl, (hdr.out.step _).step _⟩
        · have hlt : (g.len : Int) < (f.len : Int) := by omega
          have hlt2 : ¬ (f.len : Int) < (g.len : Int) := by omega
          have HN1 := Lib.hid (show R = 1 from by
            obtain ⟨kd, t, c, hd⟩ := Fo.drop_at hkl
            have hg : g.drop k = .nil := by rw [show k = g.len by omega, Fo.drop_len]
            rw [heq.out, hd, hg]; rfl)
          go_wp2_with fail
          go_ret
          exact ⟨by rw [HN1.out]; rfl, hdr.out⟩
      · have hf : f.drop k = .nil := by rw [show k = f.len by omega, Fo.drop_len]
        have HF := Lib.hid hf
        clear hf
        by_cases hlt : f.len < g.len
        · have hlt2 : (f.len : Int) < (g.len : Int) := by omega
          have HN1 := Lib.hid (show R = -1 from by
            obtain ⟨kd, t, c, hd⟩ := Fo.drop_at (f := g) (n := k) (by omega)
            rw [heq.out, hd, HF.out]; rfl)
          go_wp2_with fail
          go_ret
          exact ⟨by rw [HN1.out]; rfl, hdr.out⟩
        · have hlt2 : ¬ (f.len : Int) < (g.len : Int) := by omega
          have hlt3 : ¬ (g.len : Int) < (f.len : Int) := by omega
          have HN1 := Lib.hid (show R = 0 from by
            have hg : g.drop k = .nil := by rw [show k = g.len by omega, Fo.drop_len]
            rw [heq.out, hg, HF.out]; rfl)
          go_wp2_with fail
          go_ret
          exact ⟨by rw [HN1.out]; rfl, hdr.out⟩

theorem equal_any (f g : Fo) (a a' : Option Addr) (cap cap' : Nat) (w : World) (hs : Sl w.heap.size w a cap f) (hs' : Sl w.heap.size w a' cap' g) :
    Calls Try.prog 21 #[.slice a f.len cap, .slice a' g.len cap'] w (OutV w (.bool (eqF f g))) := by
  have C := Lib.hid (compare_n f.count f g a a' cap cap' w (Nat.le_refl _) hs hs')
  obtain ⟨r, hr⟩ : ∃ r, r = cmpF f g := ⟨_, rfl⟩
  have HR := Lib.hid (show eqF f g = (r == 0) from by rw [hr]; rfl)
  rw [← hr] at C
  clear hs hs' hr
  by_cases h0 : r = 0
  · subst h0
    go_enter Try.func21, Try.ntmps21
    go_wp2_with (go_at_call 23; refine C.out.mono ?_; rintro e w2 ⟨rfl, hb2⟩)
    go_ret
    exact ⟨by rw [HR.out]; rfl, hb2.below⟩
  · have e0 : (r == 0) = false := by simpa using h0
    have HQ := Lib.hid (show eqF f g = false from by rw [HR.out, e0])
    clear h0
    go_enter Try.func21, Try.ntmps21
    go_wp2_with (go_at_call 23; refine C.out.mono ?_; rintro e w2 ⟨rfl, hb2⟩)
    go_ret
    exact ⟨by rw [HQ.out]; rfl, hb2.below⟩
end Go.Proofs.Ytajdpchojimigaa
