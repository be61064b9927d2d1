/- The program's small functions on metacode: a new reader, a char, a named term. -/
import Derived.Test.YtfajodndpoepcaaRa
namespace Go.Proofs.Ytfajodndpoepcaa
open Go.RowKit TmM

/-- the functions that read from block g. -/
def nextF (g : Nat) : Value := .func (.func 64) #[] #[.pointer (some ⟨g, 0, none⟩)]
def moreF (g : Nat) : Value := .func (.func 66) #[] #[.pointer (some ⟨g, 0, none⟩)]

theorem reader_any (a : Option Addr) (m cap : Nat) (w : World) : Calls Try.prog 47 #[.slice a m cap] w fun e w' =>
    e = .returned (.tuple #[.func (.func 64) #[] #[.pointer (some ⟨w.heap.size, 0, none⟩)], .func (.func 66) #[] #[.pointer (some ⟨w.heap.size, 0, none⟩)]]) ∧ w' = w.alloc (.cells #[.slice a m cap] 22) := by
  have hmf : ∀ (fn : Fn) (first cap : Array Value) (w : World), (Instr.makeFunc fn first cap).run Try.prog w = .ok (.func fn first cap) w := fun _ _ _ _ => rfl
  go_enter Try.func47, Try.ntmps47
  go_wp2
  go_ret2
  exact ⟨rfl, rfl⟩

theorem isChar_any (k : Int) (t s : ByteArray) (a : Option Addr) (l c : Nat) (w : World) :
    Calls Try.prog 49 #[.agg #[.int .i64 k, .string t, .slice a l c], .string s] w (OutV w (.bool (decide (k = 1 ∧ t = s)))) := by
  have hb : Below w.heap.size w (w.alloc (.cells #[.int .i64 k, .string t, .slice a l c] 35)) := (Below.refl _ _).alloc (Nat.le_refl _) _
  have HT := Lib.hid (text_beq t s)
  by_cases h1 : k = 1
  · subst h1
    obtain ⟨q, hq⟩ : ∃ q, q = (t.toList == s.toList) := ⟨_, rfl⟩
    have HQ := Lib.hid hq
    rw [← hq] at HT
    go_enter Try.func49, Try.ntmps49
    go_wp2
    go_ret
    refine ⟨?_, hb⟩
    have h := HT.out
    rw [HQ.out] at h
    simp [h]
  · have q1 : (k == 1) = false := by simpa using h1
    have HD := Lib.hid (show decide (k = 1 ∧ t = s) = false from decide_eq_false (fun h => h1 h.1))
    clear h1
    go_enter Try.func49, Try.ntmps49
    go_wp2
    go_ret
    exact ⟨by rw [HD.out]; rfl, hb⟩

theorem named_ok (kd : Int) (t : ByteArray) (a : Option Addr) (l c : Nat) (w : World) :
    Calls Try.prog 69 #[.int .i64 kd, .agg #[.int .i64 2, .string t, .slice a l c]] w (OutV w (.agg #[.int .i64 kd, .string t, .slice none 0 0])) := by
  go_enter Try.func69, Try.ntmps69
  go_wp2_with fail
  refine (must_true _).mono ?_
  rintro e w2 ⟨rfl, rfl⟩
  go_wp2
  refine bodyPost_ret (v := .agg #[.int .i64 kd, .string t, .slice none 0 0]) (by simp [results, Try.results69, go_sem]) rfl ?_
  have hb : Below w.heap.size w ((w.alloc (.cells #[.int .i64 2, .string t, .slice a l c] 35)).alloc (.cells #[.int .i64 kd, .string t, .slice none 0 0] 35)) := ((Below.refl _ _).alloc (Nat.le_refl _) _).alloc (by simp) _
  exact ⟨rfl, hb⟩
theorem named_bad (kd k : Int) (t : ByteArray) (a : Option Addr) (l c : Nat) (w : World) (hk : k ≠ 2) :
    Calls Try.prog 69 #[.int .i64 kd, .agg #[.int .i64 k, .string t, .slice a l c]] w fun e w' => e = .panicked wrongP ∧ Hid (Below w.heap.size w w') := by
  have q1 : (k == 2) = false := by simpa using hk
  clear hk
  go_enter Try.func69, Try.ntmps69
  go_wp2_with fail
  refine (must_false _).mono ?_
  rintro e w2 ⟨rfl, rfl⟩
  have hb : ∀ (o1 o2 : Obj), Below w.heap.size w ((w.alloc o1).alloc o2) := fun o1 o2 => ((Below.refl _ _).alloc (Nat.le_refl _) _).alloc (by simp) _
  exact ⟨rfl, rfl, Lib.hid (hb _ _)⟩

/-- what the argument of a call is. -/
def callDn : Fo → Option (ByteArray × Fo)
  | .nil => none
  | .cons k3 t3 _ c3 => if k3 = 2 then (dn c3).map (fun l => (t3, l)) else none
theorem dn_callX (c : Fo) (t2 : ByteArray) (c2 r2 : Fo) : dn (.cons 1 (str 42) c (.cons 4 t2 c2 r2)) = (callDn c2).bind fun p => (dn r2).map (Fo.cons 8 p.1 p.2) := by
  cases c2 with
  | nil => rw [dn_call0]; rfl
  | cons k3 t3 c' c3 =>
    by_cases h : k3 = 2
    · subst h
      rw [dn_call, callDn, if_pos rfl]
      cases dn c3 <;> rfl
    · rw [dn_call1 _ _ _ _ _ _ h, callDn, if_neg h]; rfl

/-- what expression leaves. -/
def OutEx (w : World) (f : Fo) (e : Ending) (w' : World) : Prop :=
  (∃ l a cap, e = .returned (.slice a l.len cap) ∧ Hid (dn f = some l) ∧ Hid (SlS (fun b => w.heap.size ≤ b ∧ b < w'.heap.size) w' a cap l) ∧ Hid (Below w.heap.size w w')) ∨
  (e = .panicked wrongP ∧ Hid (dn f = none) ∧ Hid (Below w.heap.size w w'))
def OutCl (w : World) (f : Fo) (e : Ending) (w' : World) : Prop :=
  (∃ t l a cap, e = .returned (.agg #[.int .i64 8, .string t, .slice a l.len cap]) ∧ Hid (callDn f = some (t, l)) ∧ Hid (SlS (fun b => w.heap.size ≤ b ∧ b < w'.heap.size) w' a cap l) ∧ Hid (Below w.heap.size w w')) ∨
  (e = .panicked wrongP ∧ Hid (callDn f = none) ∧ Hid (Below w.heap.size w w'))
def OutSt (g n : Nat) (w : World) (r : Fo) (e : Ending) (w' : World) : Prop :=
  (∃ k t c a cap r', e = .returned (.agg #[.int .i64 k, .string t, .slice a c.len cap]) ∧ Hid (∀ c0, dn (.cons 1 (str 42) c0 r) = (dn r').map (Fo.cons k t c)) ∧ Hid (r'.len < r.len ∧ r'.count < r.count) ∧
    Hid (SlS (fun b => w.heap.size ≤ b ∧ b < w'.heap.size) w' a cap c) ∧ Hid (Rd g n w' r') ∧ Hid (Only g w w')) ∨
  (e = .panicked wrongP ∧ Hid (∀ c0, dn (.cons 1 (str 42) c0 r) = none) ∧ Hid (Only g w w'))
end Go.Proofs.Ytfajodndpoepcaa
