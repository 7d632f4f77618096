import PyProof.Rows.All
import Wide.All
import OpenK.AllK
import Wide.FinOn
import HandS.ForMost
import HandS.ForExc
import HandS.TupAny
import HandS.Rev
import HandS.Conv
import HandS.IsInst
import HandS.EndBits
import PyProof.WalksMore
import HandS.TupMul
import PySem.Challenge.RW_backstair_k01_tape_machines_step
set_option Elab.async false
set_option linter.all false
set_option maxRecDepth 100000
/-! PL: values as trees over what never changes, a small store of what may; readings that compute. -/
namespace PL
open PySem PySem.Spec PyProof.Rows L2

inductive PV where
  | non | bl (b : Bool) | int (i : Int) | str (x : Str) | ty (n : String)
  | tup (xs : List PV) | lst (xs : List PV) | scr (xs : List PV)
  | obj (C : Addr) (fs : List (Str × PV))
  | ptr (a : Addr)

mutual
inductive R (K : PySem.W.Frag) (F : Hp) : PV → V → Prop
  | non : R K F .non .non
  | bl (b : Bool) : R K F (.bl b) (.bl b)
  | int (i : Int) : R K F (.int i) (.int i)
  | str (x : Str) : R K F (.str x) (.str x)
  | ty (n : String) : R K F (.ty n) (.ty n)
  | tup {a : Addr} {xs : List PV} {vs : List V} : SqT K F a vs → RAll K F xs vs → R K F (.tup xs) (.ref a)
  | lst {a : Addr} {xs : List PV} {vs : List V} : F a = some (.lst vs) → RAll K F xs vs → R K F (.lst xs) (.ref a)
  | scr {a : Addr} {xs : List PV} {vs : List V} : SqL K F a vs → RAll K F xs vs → R K F (.scr xs) (.ref a)
  | obj {a C dx : Addr} {fs : List (Str × PV)} {vs : List (Str × V)} : F a = some (.ins C dx vs) → RFs K F fs vs → R K F (.obj C fs) (.ref a)
  | ptr (a : Addr) : R K F (.ptr a) (.ref a)
inductive RAll (K : PySem.W.Frag) (F : Hp) : List PV → List V → Prop
  | nil : RAll K F [] []
  | cons {x : PV} {xs : List PV} {v : V} {vs : List V} : R K F x v → RAll K F xs vs → RAll K F (x :: xs) (v :: vs)
inductive RFs (K : PySem.W.Frag) (F : Hp) : List (Str × PV) → List (Str × V) → Prop
  | nil : RFs K F [] []
  | cons {n : Str} {x : PV} {fs : List (Str × PV)} {v : V} {vs : List (Str × V)} : R K F x v → RFs K F fs vs → RFs K F ((n, x) :: fs) ((n, v) :: vs)
end

theorem sqT_same {K : PySem.W.Frag} {H H' : Hp} {a : Addr} {xs : List V} (e : Same H H') (h : SqT K H a xs) : SqT K H' a xs := by
  rcases h with h | h
  · rcases h with h | ⟨o, h⟩
    · exact .inl (.inl (e _ _ h))
    · exact .inl (.inr ⟨o, e _ _ h⟩)
  · exact .inr h

mutual
theorem R.same {K : PySem.W.Frag} {F F' : Hp} (e : Same F F') : ∀ {x : PV} {v : V}, R K F x v → R K F' x v
  | _, _, .non => .non
  | _, _, .bl b => .bl b
  | _, _, .int i => .int i
  | _, _, .str x => .str x
  | _, _, .ty n => .ty n
  | _, _, .tup h r => .tup (sqT_same e h) (RAll.same e r)
  | _, _, .lst h r => .lst (e _ _ h) (RAll.same e r)
  | _, _, .scr h r => .scr (e.seq h) (RAll.same e r)
  | _, _, .obj h r => .obj (e _ _ h) (RFs.same e r)
  | _, _, .ptr a => .ptr a
theorem RAll.same {K : PySem.W.Frag} {F F' : Hp} (e : Same F F') : ∀ {xs : List PV} {vs : List V}, RAll K F xs vs → RAll K F' xs vs
  | _, _, .nil => .nil
  | _, _, .cons r t => .cons (R.same e r) (RAll.same e t)
theorem RFs.same {K : PySem.W.Frag} {F F' : Hp} (e : Same F F') : ∀ {xs : List (Str × PV)} {vs : List (Str × V)}, RFs K F xs vs → RFs K F' xs vs
  | _, _, .nil => .nil
  | _, _, .cons r t => .cons (R.same e r) (RFs.same e t)
end

section
variable {K : PySem.W.Frag} {F F' : Hp}
theorem RAll.length : ∀ {xs : List PV} {vs : List V}, RAll K F xs vs → xs.length = vs.length
  | _, _, .nil => rfl
  | _, _, .cons _ t => congrArg (· + 1) (RAll.length t)
theorem RAll.get : ∀ {xs : List PV} {vs : List V} {i : Nat} {x : PV}, RAll K F xs vs → xs[i]? = some x → ∃ v, vs[i]? = some v ∧ R K F x v
  | _, _, 0, _, .cons r _, e => ⟨_, rfl, by cases e; exact r⟩
  | _, _, i + 1, x, .cons _ t, e => RAll.get (i := i) (x := x) t e
  | _, _, _, _, .nil, e => by simp at e
theorem RAll.at : ∀ {xs : List PV} {vs : List V} {i : Nat} {v : V}, RAll K F xs vs → vs[i]? = some v → ∃ x, xs[i]? = some x ∧ R K F x v
  | _, _, 0, _, .cons r _, e => ⟨_, rfl, by cases e; exact r⟩
  | _, _, i + 1, x, .cons _ t, e => RAll.at (i := i) (v := x) t e
  | _, _, _, _, .nil, e => by simp at e
theorem RAll.append : ∀ {xs ys : List PV} {vs ws : List V}, RAll K F xs vs → RAll K F ys ws → RAll K F (xs ++ ys) (vs ++ ws)
  | _, _, _, _, .nil, s => s
  | _, _, _, _, .cons r t, s => .cons r (RAll.append t s)
theorem RAll.take : ∀ {xs : List PV} {vs : List V} (n : Nat), RAll K F xs vs → RAll K F (xs.take n) (vs.take n)
  | _, _, 0, _ => .nil
  | _, _, _ + 1, .nil => .nil
  | _, _, n + 1, .cons r t => .cons r (RAll.take n t)
theorem RAll.drop : ∀ {xs : List PV} {vs : List V} (n : Nat), RAll K F xs vs → RAll K F (xs.drop n) (vs.drop n)
  | _, _, 0, r => r
  | _, _, _ + 1, .nil => .nil
  | _, _, n + 1, .cons _ t => RAll.drop n t
theorem RAll.reverse : ∀ {xs : List PV} {vs : List V}, RAll K F xs vs → RAll K F xs.reverse vs.reverse
  | _, _, .nil => .nil
  | _, _, .cons r t => by
    rw [List.reverse_cons, List.reverse_cons]
    exact RAll.append (RAll.reverse t) (.cons r .nil)
theorem RAll.set {x : PV} {v : V} (r : R K F x v) : ∀ {xs : List PV} {vs : List V} (n : Nat), RAll K F xs vs → RAll K F (xs.set n x) (vs.set n v)
  | _, _, _, .nil => .nil
  | _, _, 0, .cons _ t => .cons r t
  | _, _, n + 1, .cons q t => .cons q (RAll.set r n t)
theorem RAll.ints : ∀ {ns : List Int}, RAll K F (ns.map PV.int) (ns.map V.int)
  | [] => .nil
  | n :: r => .cons (.int n) RAll.ints
theorem RFs.get : ∀ {fs : List (Str × PV)} {vs : List (Str × V)} {f : Str} {x : PV}, RFs K F fs vs → fs.lookup f = some x → ∃ v, vs.lookup f = some v ∧ R K F x v
  | _, _, f, x, .nil, e => by simp at e
  | (n, y) :: fs, (_, w) :: vs, f, x, .cons r t, e => by
    rw [List.lookup_cons] at e ⊢
    cases hb : f == n with
    | true =>
      rw [hb] at e
      cases e
      exact ⟨w, rfl, r⟩
    | false =>
      rw [hb] at e
      exact RFs.get t e
theorem RFs.none : ∀ {fs : List (Str × PV)} {vs : List (Str × V)} {f : Str}, RFs K F fs vs → fs.lookup f = none → vs.lookup f = none
  | _, _, f, .nil, e => rfl
  | (n, y) :: fs, (_, w) :: vs, f, .cons r t, e => by
    rw [List.lookup_cons] at e ⊢
    cases hb : f == n with
    | true =>
      rw [hb] at e
      cases e
    | false =>
      rw [hb] at e
      exact RFs.none t e
def putP (f : Str) (v : PV) : List (Str × PV) → List (Str × PV)
  | [] => [(f, v)]
  | (g, x) :: r => if g = f then (g, v) :: r else (g, x) :: putP f v r
theorem RFs.put {f : Str} {x : PV} {v : V} (r : R K F x v) : ∀ {fs : List (Str × PV)} {vs : List (Str × V)}, RFs K F fs vs → RFs K F (putP f x fs) (putF f v vs)
  | _, _, .nil => .cons r .nil
  | (n, y) :: fs, (_, w) :: vs, .cons q t => by
    unfold putP putF
    by_cases h : n = f
    · rw [if_pos h, if_pos h]
      exact .cons r t
    · rw [if_neg h, if_neg h]
      exact .cons q (RFs.put r t)
theorem RFs.length : ∀ {fs : List (Str × PV)} {vs : List (Str × V)}, RFs K F fs vs → fs.length = vs.length
  | _, _, .nil => rfl
  | _, _, .cons _ t => congrArg (· + 1) (RFs.length t)
end

/-! ### the store -/
inductive MO where
  | lst (xs : List PV)
  | obj (C : Addr) (fs : List (Str × PV))
abbrev Mem := Addr → Option MO
def Mem.put (M : Mem) (a : Addr) (o : MO) : Mem := fun b => if b = a then some o else M b
def Mem.drop (M : Mem) (a : Addr) : Mem := fun b => if b = a then none else M b
theorem put_same {M : Mem} {a : Addr} {o : MO} : M.put a o a = some o := if_pos rfl
theorem put_ne {M : Mem} {a b : Addr} {o : MO} (h : b ≠ a) : M.put a o b = M b := if_neg h
theorem drop_same {M : Mem} {a : Addr} : M.drop a a = none := if_pos rfl
theorem drop_ne {M : Mem} {a b : Addr} (h : b ≠ a) : M.drop a b = M b := if_neg h
theorem put_put {M : Mem} {a : Addr} {o u : MO} : (M.put a o).put a u = M.put a u := by
  funext b
  by_cases e : b = a
  · subst e; rw [put_same, put_same]
  · rw [put_ne e, put_ne e, put_ne e]
theorem put_drop {M : Mem} {a : Addr} {o : MO} (h : M a = none) : (M.put a o).drop a = M := by
  funext b
  by_cases e : b = a
  · subst e; rw [drop_same, h]
  · rw [drop_ne e, put_ne e]
theorem put_put_drop {M : Mem} {a : Addr} {o u : MO} (h : M a = none) : ((M.put a o).put a u).drop a = M := by
  rw [put_put, put_drop h]
theorem put_self {M : Mem} {a : Addr} {o : MO} (h : M a = some o) : M.put a o = M := by
  funext b
  by_cases e : b = a
  · subst e; rw [put_same, h]
  · rw [put_ne e]
theorem put_swap {M : Mem} {a b : Addr} {o u : MO} (h : a ≠ b) : (M.put a o).put b u = (M.put b u).put a o := by
  funext c
  by_cases e : c = b
  · subst e; rw [put_same, put_ne (Ne.symm h), put_same]
  · rw [put_ne e]
    by_cases e2 : c = a
    · subst e2; rw [put_same, put_same]
    · rw [put_ne e2, put_ne e2, put_ne e]
theorem put_drop_swap {M : Mem} {a b : Addr} {o : MO} (h : a ≠ b) : (M.put a o).drop b = (M.drop b).put a o := by
  funext c
  by_cases e : c = b
  · subst e; rw [drop_same, put_ne (Ne.symm h), drop_same]
  · rw [drop_ne e]
    by_cases e2 : c = a
    · subst e2; rw [put_same, put_same]
    · rw [put_ne e2, put_ne e2, drop_ne e]
theorem drop_none {M : Mem} {a : Addr} (h : M a = none) : M.drop a = M := by
  funext b
  by_cases e : b = a
  · subst e; rw [drop_same, h]
  · rw [drop_ne e]

inductive RO (K : PySem.W.Frag) (F : Hp) : MO → HO → Prop
  | lst {xs : List PV} {vs : List V} : RAll K F xs vs → RO K F (.lst xs) (.lst vs)
  | obj {C dx : Addr} {fs : List (Str × PV)} {vs : List (Str × V)} : RFs K F fs vs → RO K F (.obj C fs) (.ins C dx vs)
theorem RO.same {K : PySem.W.Frag} {F F' : Hp} (e : Same F F') {m : MO} {o : HO} (r : RO K F m o) : RO K F' m o := by
  cases r with
  | lst r => exact .lst (r.same e)
  | obj r => exact .obj (r.same e)
theorem RO.mut {K : PySem.W.Frag} {F : Hp} {m : MO} {o : HO} (r : RO K F m o) : Mut (some o) := by
  cases r <;> exact trivial

/-- F: what never changes; M: what may; both in H -/
structure RM (K : PySem.W.Frag) (F : Hp) (M : Mem) (H : Hp) : Prop where
  fr : Same F H
  dj : ∀ a, M a ≠ none → F a = none
  mu : ∀ a m, M a = some m → ∃ o, H a = some o ∧ RO K F m o
/-- what may have changed -/
structure Fr (M : Mem) (H : Hp) (M' : Mem) (H' : Hp) : Prop where
  keep : ∀ b o, H b = some o → M b = none → H' b = some o
  grow : ∀ b, M' b ≠ none → M b ≠ none ∨ H b = none
  there : ∀ b, H b ≠ none → H' b ≠ none

section
variable {K : PySem.W.Frag} {F F' F2 : Hp} {M M' M2 : Mem} {H H' H2 : Hp} {p : Addr} {o : HO}
theorem Fr.refl : Fr M H M H := ⟨fun _ _ h _ => h, fun _ h => .inl h, fun _ h => h⟩
theorem Fr.trans (a : Fr M H M' H') (b : Fr M' H' M2 H2) : Fr M H M2 H2 where
  keep := fun c u h n => by
    refine b.keep c u (a.keep c u h n) ?_
    cases q : M' c with
    | none => rfl
    | some m =>
      rcases a.grow c (by rw [q]; exact Option.some_ne_none _) with z | z
      · exact absurd n z
      · rw [h] at z; cases z
  grow := fun c h => by
    rcases b.grow c h with z | z
    · exact a.grow c z
    · right
      cases q : H c with
      | none => rfl
      | some u => exact absurd z (a.there c (by rw [q]; exact Option.some_ne_none _))
  there := fun c h => b.there c (a.there c h)
theorem RM.nones (r : RM K F M H) (n : H p = Option.none) : F p = Option.none ∧ M p = Option.none := by
  constructor
  · exact r.fr.free n
  · cases q : M p with
    | none => rfl
    | some m =>
      obtain ⟨o, e, _⟩ := r.mu p m q
      rw [n] at e; cases e
theorem same_upd {F : Hp} (n : F p = Option.none) : Same F (upd F p o) := fun b u e => by
  rw [upd_ne (ne_of_none e n)]; exact e
/-- a new thing that never changes -/
theorem RM.fresh (r : RM K F M H) (n : H p = Option.none) : Same F (upd F p o) ∧ RM K (upd F p o) M (upd H p o) ∧ Fr M H M (upd H p o) := by
  obtain ⟨nF, nM⟩ := r.nones n
  have sm : Same F (upd F p o) := same_upd nF
  refine ⟨sm, ⟨fun b u e => ?_, fun b h => ?_, fun b m e => ?_⟩, ⟨fun b u e _ => ?_, fun b h => .inl h, fun b h => ?_⟩⟩
  · by_cases hb : b = p
    · subst hb; rw [upd_same] at e; rw [upd_same]; exact e
    · rw [upd_ne hb] at e; rw [upd_ne hb]; exact r.fr b u e
  · have hb : b ≠ p := fun z => h (by rw [z]; exact nM)
    rw [upd_ne hb]; exact r.dj b h
  · have hb : b ≠ p := fun z => by rw [z, nM] at e; cases e
    obtain ⟨u, e1, e2⟩ := r.mu b m e
    exact ⟨u, by rw [upd_ne hb]; exact e1, e2.same sm⟩
  · rw [upd_ne (ne_of_none e n)]; exact e
  · by_cases hb : b = p
    · subst hb; rw [upd_same]; exact Option.some_ne_none _
    · rw [upd_ne hb]; exact h
/-- a new thing that may change -/
theorem RM.new {m : MO} (r : RM K F M H) (n : H p = Option.none) (q : RO K F m o) : RM K F (M.put p m) (upd H p o) ∧ Fr M H (M.put p m) (upd H p o) := by
  obtain ⟨nF, nM⟩ := r.nones n
  refine ⟨⟨fun b u e => ?_, fun b h => ?_, fun b m' e => ?_⟩, ⟨fun b u e _ => ?_, fun b h => ?_, fun b h => ?_⟩⟩
  · have hb : b ≠ p := fun z => by rw [z, nF] at e; cases e
    rw [upd_ne hb]; exact r.fr b u e
  · by_cases hb : b = p
    · subst hb; exact nF
    · rw [put_ne hb] at h; exact r.dj b h
  · by_cases hb : b = p
    · subst hb; rw [put_same] at e; cases e; exact ⟨o, upd_same, q⟩
    · rw [put_ne hb] at e
      obtain ⟨u, e1, e2⟩ := r.mu b m' e
      exact ⟨u, by rw [upd_ne hb]; exact e1, e2⟩
  · rw [upd_ne (ne_of_none e n)]; exact e
  · by_cases hb : b = p
    · subst hb; exact .inr n
    · rw [put_ne hb] at h; exact .inl h
  · by_cases hb : b = p
    · subst hb; rw [upd_same]; exact Option.some_ne_none _
    · rw [upd_ne hb]; exact h
/-- a change -/
theorem RM.write {m m' : MO} (r : RM K F M H) (e : M p = some m) (q : RO K F m' o) : RM K F (M.put p m') (upd H p o) ∧ Fr M H (M.put p m') (upd H p o) := by
  have nF : F p = Option.none := r.dj p (by rw [e]; exact Option.some_ne_none _)
  refine ⟨⟨fun b u e => ?_, fun b h => ?_, fun b m' e => ?_⟩, ⟨fun b u e1 n1 => ?_, fun b h => ?_, fun b h => ?_⟩⟩
  · have hb : b ≠ p := fun z => by rw [z, nF] at e; cases e
    rw [upd_ne hb]; exact r.fr b u e
  · by_cases hb : b = p
    · subst hb; exact nF
    · rw [put_ne hb] at h; exact r.dj b h
  · by_cases hb : b = p
    · subst hb; rw [put_same] at e; cases e; exact ⟨o, upd_same, q⟩
    · rw [put_ne hb] at e
      obtain ⟨u, e1, e2⟩ := r.mu b m' e
      exact ⟨u, by rw [upd_ne hb]; exact e1, e2⟩
  · have hb : b ≠ p := fun z => by rw [z, e] at n1; cases n1
    rw [upd_ne hb]; exact e1
  · by_cases hb : b = p
    · subst hb; exact .inl (by rw [e]; exact Option.some_ne_none _)
    · rw [put_ne hb] at h; exact .inl h
  · by_cases hb : b = p
    · subst hb; rw [upd_same]; exact Option.some_ne_none _
    · rw [upd_ne hb]; exact h
/-- it is forgotten -/
theorem RM.drop (r : RM K F M H) : RM K F (M.drop p) H ∧ Fr M H (M.drop p) H := by
  refine ⟨⟨r.fr, fun b h => r.dj b ?_, fun b m e => r.mu b m ?_⟩, ⟨fun _ _ h _ => h, fun b h => .inl ?_, fun _ h => h⟩⟩
  · by_cases hb : b = p
    · subst hb; exact absurd drop_same h
    · rw [drop_ne hb] at h; exact h
  · by_cases hb : b = p
    · subst hb; rw [drop_same] at e; cases e
    · rw [drop_ne hb] at e; exact e
  · by_cases hb : b = p
    · subst hb; exact absurd drop_same h
    · rw [drop_ne hb] at h; exact h
/-- from now on it never changes -/
theorem RM.freeze {m : MO} (r : RM K F M H) (e : M p = some m) : ∃ o, Same F (upd F p o) ∧ RM K (upd F p o) (M.drop p) H ∧ Fr M H (M.drop p) H ∧ RO K F m o := by
  obtain ⟨o, e1, q⟩ := r.mu p m e
  have nF : F p = Option.none := r.dj p (by rw [e]; exact Option.some_ne_none _)
  have sm : Same F (upd F p o) := same_upd nF
  obtain ⟨r2, f2⟩ := r.drop (p := p)
  refine ⟨o, sm, ⟨fun b u e => ?_, fun b h => ?_, fun b m e => ?_⟩, f2, q⟩
  · by_cases hb : b = p
    · subst hb; rw [upd_same] at e; cases e; exact e1
    · rw [upd_ne hb] at e; exact r.fr b u e
  · have hb : b ≠ p := fun z => h (by rw [z]; exact drop_same)
    rw [upd_ne hb]; exact r2.dj b h
  · obtain ⟨u, e1, e2⟩ := r2.mu b m e
    exact ⟨u, e1, e2.same sm⟩
end

/-! ### slots -/
abbrev PSt := List (Option PV)
structure RS (K : PySem.W.Frag) (F : Hp) (σ : PSt) (σv : L2.St) : Prop where
  len : σ.length = σv.length
  at_ : ∀ (i : Nat) (x : PV), σ[i]? = some (some x) → ∃ v, σv[i]? = some (some v) ∧ R K F x v
section
variable {K : PySem.W.Frag} {F F' : Hp} {σ : PSt} {σv : L2.St}
theorem RS.same (r : RS K F σ σv) (e : Same F F') : RS K F' σ σv := ⟨r.len, fun i x h => let ⟨v, h1, h2⟩ := r.at_ i x h; ⟨v, h1, h2.same e⟩⟩
theorem RS.set {x : PV} {v : V} (r : RS K F σ σv) (i : Nat) (q : R K F x v) : RS K F (σ.set i (some x)) (σv.set i (some v)) := by
  refine ⟨by rw [List.length_set, List.length_set, r.len], fun j y h => ?_⟩
  by_cases hj : i = j
  · subst hj
    by_cases hl : i < σ.length
    · rw [List.getElem?_set_self hl] at h
      cases h
      exact ⟨v, List.getElem?_set_self (r.len ▸ hl), q⟩
    · rw [List.getElem?_eq_none (by rw [List.length_set]; omega)] at h
      cases h
  · rw [List.getElem?_set_ne hj] at h
    obtain ⟨w, h1, h2⟩ := r.at_ j y h
    exact ⟨w, by rw [List.getElem?_set_ne hj]; exact h1, h2⟩
end
def pstart (n : Nat) (xs : List PV) : PSt := xs.map some ++ List.replicate (n - xs.length) none
theorem RS.start {K : PySem.W.Frag} {F : Hp} {N : List Str} {xs : List PV} {vs : List V} (r : RAll K F xs vs) : RS K F (pstart N.length xs) (L2.start N vs) := by
  unfold pstart L2.start
  have hl := r.length
  refine ⟨by simp [hl], fun i x h => ?_⟩
  by_cases hi : i < xs.length
  · rw [List.getElem?_append_left (by simpa using hi), List.getElem?_map] at h
    cases hx : xs[i]? with
    | none => rw [hx] at h; cases h
    | some y =>
      rw [hx] at h
      cases h
      obtain ⟨v, h1, h2⟩ := r.get hx
      refine ⟨v, ?_, h2⟩
      rw [List.getElem?_append_left (by rw [List.length_map, ← hl]; exact hi), List.getElem?_map, h1]
      rfl
  · rw [List.getElem?_append_right (by simpa using Nat.le_of_not_lt hi), List.getElem?_replicate] at h
    split at h <;> cases h
end PL
set_option Elab.async false
set_option linter.all false
set_option maxRecDepth 100000
namespace PL
open PySem PySem.Spec PyProof.Rows L2

abbrev PQ := PV → Mem → Prop
/-- an exception: its class, its attributes -/
abbrev PXK := Addr → List (Str × PV) → Mem → Prop
abbrev PTE := PXK → PSt → Mem → PQ → Prop
abbrev PTA := PXK → PSt → Mem → (List PV → Mem → Prop) → Prop
abbrev PTT := PXK → PSt → Mem → (Bool → Mem → Prop) → Prop

def WE (X : Cx) (e : Expr) (σ : L2.St) (H : Hp) (Q : VK) : Prop := ∀ pins s, Inv X pins σ H s → wpAny (model X.prog X.w) X.A (eval e X.env) (EP X pins σ Q) X.xe s
def WT (X : Cx) (e : Expr) (σ : L2.St) (H : Hp) (Q : Bool → Hp → Prop) : Prop := ∀ pins s, Inv X pins σ H s → wpAny (model X.prog X.w) X.A (isTrue e X.env (eval e X.env)) (TP X pins σ Q) X.xe s
def WW (X : Cx) (e : Expr) (σ : L2.St) (H : Hp) (Q : Bool → Hp → Prop) : Prop := ∀ (whole : Sem Value) pins s, Inv X pins σ H s → wpAny (model X.prog X.w) X.A (isTrue e X.env whole) (TP X pins σ Q) X.xe s
def WA (X : Cx) (es : List Expr) (σ : L2.St) (H : Hp) (Q : List V → Hp → Prop) : Prop := ∀ (pos : Pos) pins s, Inv X pins σ H s → wpAny (model X.prog X.w) X.A (spliced (backTo pos (starEach es X.env))) (AP X pins σ Q) X.xe s
theorem WE.pe {X : Cx} {e : Expr} : PE X e (WE X e) := ⟨fun pins s σ H Q I h => h pins s I⟩
theorem WT.pt {X : Cx} {e : Expr} : PT X e (WT X e) := ⟨fun pins s σ H Q I h => h pins s I⟩
theorem WW.pw {X : Cx} {e : Expr} : PW X e (WW X e) := ⟨fun wh pins s σ H Q I h => h wh pins s I⟩
theorem WA.pa {X : Cx} {es : List Expr} : PA X es (WA X es) := ⟨fun pos pins s σ H Q I h => h pos pins s I⟩
theorem WE.of {X : Cx} {e : Expr} {t : TE} (p : PE X e t) {σ : L2.St} {H : Hp} {Q : VK} (h : t σ H Q) : WE X e σ H Q := fun pins s I => p.run pins s σ H Q I h
theorem WT.of {X : Cx} {e : Expr} {t : TT} (p : PT X e t) {σ : L2.St} {H : Hp} {Q : Bool → Hp → Prop} (h : t σ H Q) : WT X e σ H Q := fun pins s I => p.run pins s σ H Q I h
theorem WW.of {X : Cx} {e : Expr} {t : TT} (p : PW X e t) {σ : L2.St} {H : Hp} {Q : Bool → Hp → Prop} (h : t σ H Q) : WW X e σ H Q := fun wh pins s I => p.run wh pins s σ H Q I h
theorem WA.of {X : Cx} {es : List Expr} {t : TA} (p : PA X es t) {σ : L2.St} {H : Hp} {Q : List V → Hp → Prop} (h : t σ H Q) : WA X es σ H Q := fun pos pins s I => p.run pos pins s σ H Q I h
theorem WE.mono {X : Cx} {e : Expr} {σ : L2.St} {H : Hp} {Q Q' : VK} (h : WE X e σ H Q) (m : ∀ v H', Q v H' → Q' v H') : WE X e σ H Q' := fun pins s I =>
  thn (h pins s I) fun _ _ ⟨v, H', I', r, q⟩ => ⟨v, H', I', r, m v H' q⟩
theorem WT.mono {X : Cx} {e : Expr} {σ : L2.St} {H : Hp} {Q Q' : Bool → Hp → Prop} (h : WT X e σ H Q) (m : ∀ v H', Q v H' → Q' v H') : WT X e σ H Q' := fun pins s I =>
  thn (h pins s I) fun b _ ⟨H', I', q⟩ => ⟨H', I', m b H' q⟩
theorem WW.mono {X : Cx} {e : Expr} {σ : L2.St} {H : Hp} {Q Q' : Bool → Hp → Prop} (h : WW X e σ H Q) (m : ∀ v H', Q v H' → Q' v H') : WW X e σ H Q' := fun wh pins s I =>
  thn (h wh pins s I) fun b _ ⟨H', I', q⟩ => ⟨H', I', m b H' q⟩
theorem WA.mono {X : Cx} {es : List Expr} {σ : L2.St} {H : Hp} {Q Q' : List V → Hp → Prop} (h : WA X es σ H Q) (m : ∀ v H', Q v H' → Q' v H') : WA X es σ H Q' := fun pos pins s I =>
  thn (h pos pins s I) fun _ _ ⟨v, H', I', r, q⟩ => ⟨v, H', I', r, m v H' q⟩
/-- with the state at hand -/
theorem WE.inv {X : Cx} {e : Expr} {σ : L2.St} {H : Hp} {Q : VK} (h : (∃ pins s, Inv X pins σ H s) → WE X e σ H Q) : WE X e σ H Q := fun pins s I => h ⟨pins, s, I⟩ pins s I

/-- behind: what never changed stays, what may is as Q says -/
structure Beh (K : PySem.W.Frag) (F : Hp) (M : Mem) (H : Hp) (F' : Hp) (M' : Mem) (H' : Hp) : Prop where
  sm : Same F F'
  rm : RM K F' M' H'
  fr : Fr M H M' H'
  fg : ∀ b, F' b ≠ none → F b ≠ none ∨ M b ≠ none ∨ H b = none
theorem Beh.refl {K : PySem.W.Frag} {F H : Hp} {M : Mem} (r : RM K F M H) : Beh K F M H F M H := ⟨Same.refl F, r, Fr.refl, fun _ h => .inl h⟩
theorem Beh.trans {K : PySem.W.Frag} {F F1 F2 H H1 H2 : Hp} {M M1 M2 : Mem} (a : Beh K F M H F1 M1 H1) (b : Beh K F1 M1 H1 F2 M2 H2) : Beh K F M H F2 M2 H2 := by
  have back : ∀ c, H1 c = none → H c = none := fun c z => by
    cases q : H c with
    | none => rfl
    | some u => exact absurd z (a.fr.there c (by rw [q]; exact Option.some_ne_none _))
  refine ⟨a.sm.trans b.sm, b.rm, a.fr.trans b.fr, fun c h => ?_⟩
  rcases b.fg c h with z | z | z
  · exact a.fg c z
  · rcases a.fr.grow c z with y | y
    · exact .inr (.inl y)
    · exact .inr (.inr y)
  · exact .inr (.inr (back c z))
theorem fg_upd {F H : Hp} {M : Mem} {p : Addr} {o : HO} (n : H p = none ∨ M p ≠ none) : ∀ b, upd F p o b ≠ none → F b ≠ none ∨ M b ≠ none ∨ H b = none := fun b h => by
  by_cases hb : b = p
  · subst hb
    rcases n with n | n
    · exact .inr (.inr n)
    · exact .inr (.inl n)
  · rw [upd_ne hb] at h
    exact .inl h
theorem RM.beh {K : PySem.W.Frag} {F H : Hp} {M : Mem} {p : Addr} {o : HO} (r : RM K F M H) (n : H p = none) : Beh K F M H (upd F p o) M (upd H p o) := ⟨(r.fresh n).1, (r.fresh n).2.1, (r.fresh n).2.2, fg_upd (.inl n)⟩
theorem RM.behNew {K : PySem.W.Frag} {F H : Hp} {M : Mem} {p : Addr} {o : HO} {m : MO} (r : RM K F M H) (n : H p = none) (q : RO K F m o) : Beh K F M H F (M.put p m) (upd H p o) := ⟨Same.refl F, (r.new n q).1, (r.new n q).2, fun _ h => .inl h⟩
theorem RM.behWrite {K : PySem.W.Frag} {F H : Hp} {M : Mem} {p : Addr} {o : HO} {m m' : MO} (r : RM K F M H) (e : M p = some m) (q : RO K F m' o) : Beh K F M H F (M.put p m') (upd H p o) := ⟨Same.refl F, (r.write e q).1, (r.write e q).2, fun _ h => .inl h⟩
theorem RM.behDrop {K : PySem.W.Frag} {F H : Hp} {M : Mem} {p : Addr} (r : RM K F M H) : Beh K F M H F (M.drop p) H := ⟨Same.refl F, r.drop.1, r.drop.2, fun _ h => .inl h⟩
theorem RM.behFreeze {K : PySem.W.Frag} {F H : Hp} {M : Mem} {p : Addr} {m : MO} (r : RM K F M H) (e : M p = some m) : ∃ o, Beh K F M H (upd F p o) (M.drop p) H ∧ RO K F m o := by
  obtain ⟨o, a, b, c, d⟩ := r.freeze e
  exact ⟨o, ⟨a, b, c, fg_upd (.inr (by rw [e]; exact Option.some_ne_none _))⟩, d⟩
/-- a thing of the machine's own -/
theorem RM.behHid {K : PySem.W.Frag} {F H : Hp} {M : Mem} {p : Addr} {o : HO} (r : RM K F M H) (nF : F p = none) (nM : M p = none) : RM K F M (upd H p o) ∧ (H p = none → Beh K F M H F M (upd H p o)) := by
  have x : RM K F M (upd H p o) := ⟨fun b u e => by rw [upd_ne (ne_of_none e nF)]; exact r.fr b u e, r.dj, fun b m e => by
    have hb : b ≠ p := fun z => by rw [z, nM] at e; cases e
    obtain ⟨u, e1, e2⟩ := r.mu b m e
    exact ⟨u, by rw [upd_ne hb]; exact e1, e2⟩⟩
  exact ⟨x, fun n => ⟨Same.refl F, x, (r.fresh n).2.2, fun _ h => .inl h⟩⟩

def LQ (K : PySem.W.Frag) (F : Hp) (M : Mem) (H : Hp) (Q : PQ) : VK := fun v H' => ∃ F' M' x, Beh K F M H F' M' H' ∧ R K F' x v ∧ Q x M'
def LB (K : PySem.W.Frag) (F : Hp) (M : Mem) (H : Hp) (Q : Bool → Mem → Prop) : Bool → Hp → Prop := fun b H' => ∃ F' M', Beh K F M H F' M' H' ∧ Q b M'
def LL (K : PySem.W.Frag) (F : Hp) (M : Mem) (H : Hp) (Q : List PV → Mem → Prop) : List V → Hp → Prop := fun vs H' => ∃ F' M' xs, Beh K F M H F' M' H' ∧ RAll K F' xs vs ∧ Q xs M'
theorem LQ.tr {K : PySem.W.Frag} {F F1 H H1 : Hp} {M M1 : Mem} {Q : PQ} (b : Beh K F M H F1 M1 H1) {v : V} {H2 : Hp} : LQ K F1 M1 H1 Q v H2 → LQ K F M H Q v H2
  | ⟨F2, M2, x, b2, r, q⟩ => ⟨F2, M2, x, b.trans b2, r, q⟩
theorem LB.tr {K : PySem.W.Frag} {F F1 H H1 : Hp} {M M1 : Mem} {Q : Bool → Mem → Prop} (b : Beh K F M H F1 M1 H1) {v : Bool} {H2 : Hp} : LB K F1 M1 H1 Q v H2 → LB K F M H Q v H2
  | ⟨F2, M2, b2, q⟩ => ⟨F2, M2, b.trans b2, q⟩
theorem LL.tr {K : PySem.W.Frag} {F F1 H H1 : Hp} {M M1 : Mem} {Q : List PV → Mem → Prop} (b : Beh K F M H F1 M1 H1) {v : List V} {H2 : Hp} : LL K F1 M1 H1 Q v H2 → LL K F M H Q v H2
  | ⟨F2, M2, x, b2, r, q⟩ => ⟨F2, M2, x, b.trans b2, r, q⟩
theorem LQ.now {K : PySem.W.Frag} {F H : Hp} {M : Mem} {Q : PQ} {v : V} {x : PV} (r : RM K F M H) (q : R K F x v) (h : Q x M) : LQ K F M H Q v H := ⟨F, M, x, Beh.refl r, q, h⟩

/-- how the exception's attributes lie -/
def XA (K : PySem.W.Frag) (F : Hp) (fs : List (Str × PV)) (d : Option Addr) (H : Hp) : Prop := match d with
  | none => fs = []
  | some a => fs ≠ [] ∧ ∃ vs, H a = some (.xd vs) ∧ F a = some (.xd vs) ∧ RFs K F fs vs
def LX (K : PySem.W.Frag) (F : Hp) (M : Mem) (H : Hp) (E : PXK) : XK := fun cls d H' => ∃ F' M' C fs, cls = .ref C ∧ Beh K F M H F' M' H' ∧ XA K F' fs d H' ∧ E C fs M'
theorem LX.tr {K : PySem.W.Frag} {F F1 H H1 : Hp} {M M1 : Mem} {E : PXK} (b : Beh K F M H F1 M1 H1) {cls : Value} {d : Option Addr} {H2 : Hp} : LX K F1 M1 H1 E cls d H2 → LX K F M H E cls d H2
  | ⟨F2, M2, C, fs, h1, b2, h3, h4⟩ => ⟨F2, M2, C, fs, h1, b.trans b2, h3, h4⟩
/-- such exceptions may leave -/
def PTk (X : Cx) (F : Hp) (M : Mem) (H : Hp) (E : PXK) : Prop := Takes X (fun cls d _ H' => LX X.K F M H E cls d H')
theorem PTk.tr {X : Cx} {F F1 H H1 : Hp} {M M1 : Mem} {E : PXK} (tk : PTk X F M H E) (b : Beh X.K F M H F1 M1 H1) : PTk X F1 M1 H1 E := tk.imp fun _ _ _ _ h => h.tr b
def noX : PXK := fun _ _ _ => False
theorem PTk.no {X : Cx} {F H : Hp} {M : Mem} : PTk X F M H noX := fun _ _ ⟨_, _, _, _, _, _, _, _, _, _, _, _, _, _, _, _, _, _, _, _, _, _, _, z⟩ => z.elim

structure LE (X : Cx) (e : Expr) (t : PTE) : Prop where
  run : ∀ (σv : L2.St) (H : Hp) (σ : PSt) (F : Hp) (M : Mem) (Q : PQ) (E : PXK), PTk X F M H E → RM X.K F M H → RS X.K F σ σv → t E σ M Q → WE X e σv H (LQ X.K F M H Q)
structure LT (X : Cx) (e : Expr) (t : PTT) : Prop where
  run : ∀ (σv : L2.St) (H : Hp) (σ : PSt) (F : Hp) (M : Mem) (Q : Bool → Mem → Prop) (E : PXK), PTk X F M H E → RM X.K F M H → RS X.K F σ σv → t E σ M Q → WT X e σv H (LB X.K F M H Q)
structure LW (X : Cx) (e : Expr) (t : PTT) : Prop where
  run : ∀ (σv : L2.St) (H : Hp) (σ : PSt) (F : Hp) (M : Mem) (Q : Bool → Mem → Prop) (E : PXK), PTk X F M H E → RM X.K F M H → RS X.K F σ σv → t E σ M Q → WW X e σv H (LB X.K F M H Q)
structure LA (X : Cx) (es : List Expr) (t : PTA) : Prop where
  run : ∀ (σv : L2.St) (H : Hp) (σ : PSt) (F : Hp) (M : Mem) (Q : List PV → Mem → Prop) (E : PXK), PTk X F M H E → RM X.K F M H → RS X.K F σ σv → t E σ M Q → WA X es σv H (fun vs H' => vs.length = es.length ∧ LL X.K F M H Q vs H')
theorem LW.lt {X : Cx} {e : Expr} {t : PTT} (h : LW X e t) : LT X e t := ⟨fun σv H σ F M Q E tk r s q pins s' I => h.run σv H σ F M Q E tk r s q _ pins s' I⟩

/-! ### small words of the readings -/
def need {α : Type} (o : Option α) (k : α → Prop) : Prop := match o with | some a => k a | none => False
theorem need_some {α : Type} {a : α} {k : α → Prop} : need (some a) k = k a := rfl
theorem need_none {α : Type} {k : α → Prop} : need none k = False := rfl
theorem need_of {α : Type} {o : Option α} {k : α → Prop} (h : need o k) : ∃ a, o = some a ∧ k a := by
  cases o with
  | some a => exact ⟨a, rfl, h⟩
  | none => exact h.elim
theorem need_by {α : Type} {o : Option α} {a : α} {k : α → Prop} (e : o = some a) (h : k a) : need o k := by rw [e]; exact h

section
variable {X : Cx} {a b c e : Expr} {ta tb tc : PTE} {pos : Pos} {σv : L2.St} {H : Hp} {σ : PSt} {F : Hp} {M : Mem}

/-- two in a row -/
theorem seq2 (ha : LE X a ta) (hb : LE X b tb) {E : PXK} (tk : PTk X F M H E) (r : RM X.K F M H) (s : RS X.K F σ σv) {k : PV → PV → Mem → Prop} (h : ta E σ M fun x M1 => tb E σ M1 fun y M2 => k x y M2)
    {Q : V → V → Hp → Prop} (hk : ∀ x y xv yv F2 M2 H2, Beh X.K F M H F2 M2 H2 → R X.K F2 x xv → R X.K F2 y yv → k x y M2 → Q xv yv H2) :
    WE X a σv H fun xv H1 => WE X b σv H1 fun yv H2 => Q xv yv H2 := by
  refine (ha.run σv H σ F M _ E tk r s h).mono ?_
  rintro xv H1 ⟨F1, M1, x, b1, rx, h1⟩
  refine (hb.run σv H1 σ F1 M1 _ E (tk.tr b1) b1.rm (s.same b1.sm) h1).mono ?_
  rintro yv H2 ⟨F2, M2, y, b2, ry, h2⟩
  exact hk x y xv yv F2 M2 H2 (b1.trans b2) (rx.same b2.sm) ry h2

/-! ### names, constants -/
def pVar (i : Nat) : PTE := fun E σ M Q => match σ[i]? with | some (some x) => Q x M | _ => False
def pC (x : PV) : PTE := fun _ _ M Q => Q x M
theorem LE.var (i : Nat) {x : Str} (hN : X.N[i]? = some x := by rfl) (hv : Vis X.env.scope x := by first | exact Or.inl rfl | exact Or.inr (Or.inl rfl) | exact Or.inr (Or.inr rfl))
    (hd : (x == ("__debug__" : Str)) = false := by decide) (hcd : (x == ("__classdict__" : Str)) = false := by decide) : LE X (.Name x pos) (pVar i) := by
  refine ⟨fun σv H σ F M Q E tk r s h => WE.of (pe_var (i := i) hN hv hd hcd) ?_⟩
  unfold pVar at h
  split at h
  · rename_i x hx
    obtain ⟨v, h1, h2⟩ := s.at_ i x hx
    exact ⟨v, h1, LQ.now r h2 h⟩
  · exact h.elim
theorem LE.int {i j} : LE X (.Constant (.int i) j pos) (pC (.int i)) := ⟨fun σv H σ F M Q E tk r s h => WE.of pe_int (LQ.now r (.int i) h)⟩
theorem LE.bl {b j} : LE X (.Constant (.bool b) j pos) (pC (.bl b)) := ⟨fun σv H σ F M Q E tk r s h => WE.of pe_bl (LQ.now r (.bl b) h)⟩
theorem LE.non {j} : LE X (.Constant .none j pos) (pC .non) := ⟨fun σv H σ F M Q E tk r s h => WE.of pe_non (LQ.now r .non h)⟩
theorem LE.str {x j} : LE X (.Constant (.str x) j pos) (pC (.str x)) := ⟨fun σv H σ F M Q E tk r s h => WE.of pe_str (LQ.now r (.str x) h)⟩

/-! ### operators -/
abbrev PO2 := PV → PV → Mem → PQ → Prop
def POp (K : PySem.W.Frag) (r : R2) (o : PO2) : Prop := ∀ (F : Hp) (M : Mem) (H : Hp) (x y : PV) (xv yv : V) (Q : PQ) (Qv : VK), RM K F M H → R K F x xv → R K F y yv → o x y M Q →
  (∀ v H', LQ K F M H Q v H' → Qv v H') → r xv yv H Qv
def pBin (o : PO2) (ta tb : PTE) : PTE := fun E σ M Q => ta E σ M fun x M1 => tb E σ M1 fun y M2 => o x y M2 Q
theorem LE.bin {op : Operator} {r : R2} {o : PO2} (ho : OpR X (binaryOp op) r) (hp : POp X.K r o) (ha : LE X a ta) (hb : LE X b tb) : LE X (.BinOp a op b pos) (pBin o ta tb) := by
  refine ⟨fun σv H σ F M Q E tk rm rs h => WE.of (pe_op ho WE.pe WE.pe) ?_⟩
  exact seq2 ha hb tk rm rs h fun x y xv yv F2 M2 H2 bh rx ry h2 => hp F2 M2 H2 x y xv yv Q _ bh.rm rx ry h2 fun v H' q => q.tr bh
theorem LE.cmp {op : CmpOp} {r : R2} {o : PO2} (ho : OpR X (compareOp op) r) (hp : POp X.K r o) (hm : behindInMarks op b = false) (ha : LE X a ta) (hb : LE X b tb) : LE X (.Compare a [op] [b] pos) (pBin o ta tb) := by
  refine ⟨fun σv H σ F M Q E tk rm rs h => WE.of (pe_cmpR ho WE.pe WE.pe hm) ?_⟩
  exact seq2 ha hb tk rm rs h fun x y xv yv F2 M2 H2 bh rx ry h2 => hp F2 M2 H2 x y xv yv Q _ bh.rm rx ry h2 fun v H' q => q.tr bh
/-- a value that is a bool, as a test's -/
def kB (x : PV) (k : Bool → Prop) : Prop := match x with | .bl b => k b | _ => False
theorem kB_bl {b : Bool} {k : Bool → Prop} : kB (.bl b) k = k b := rfl
theorem R.bl_inv {K : PySem.W.Frag} {F : Hp} {x : PV} {v : V} {k : Bool → Prop} (r : R K F x v) (h : kB x k) : ∃ c, v = .bl c ∧ k c := by
  cases r <;> first | exact h.elim | exact ⟨_, rfl, h⟩
def pTest (t : PTE) : PTT := fun E σ M Q => t E σ M fun x M1 => kB x fun b => Q b M1
theorem LT.cmp {op : CmpOp} {r : R2} {o : PO2} (ho : OpR X (compareOp op) r) (hp : POp X.K r o) (hm : behindInMarks op b = false) (ha : LE X a ta) (hb : LE X b tb) : LT X (.Compare a [op] [b] pos) (pTest (pBin o ta tb)) := by
  refine ⟨fun σv H σ F M Q E tk rm rs h => WT.of (pt_cmpR ho WE.pe WE.pe hm) ?_⟩
  refine seq2 ha hb tk rm rs h fun x y xv yv F2 M2 H2 bh rx ry h2 => hp F2 M2 H2 x y xv yv _ _ bh.rm rx ry h2 fun v H' q => ?_
  obtain ⟨F3, M3, z, b3, rz, hz⟩ := q
  obtain ⟨c, rfl, hc⟩ := rz.bl_inv hz
  exact ⟨c, rfl, F3, M3, bh.trans b3, hc⟩
/-- any expression that hands back a bool, as a test -/
theorem LT.val (h : LE X e ta) (he : ∀ whole, isTrue e X.env whole = (do let v ← whole; standAt e.pos; holding [v] (truthy v)) := by intro _; rfl) : LT X e (pTest ta) := by
  refine ⟨fun σv H σ F M Q E tk rm rs hh => WT.of (pt_val WE.pe he) ?_⟩
  refine (h.run σv H σ F M _ E tk rm rs hh).mono ?_
  rintro v H1 ⟨F1, M1, x, b1, rx, hx⟩
  obtain ⟨c, rfl, hc⟩ := rx.bl_inv hx
  exact ⟨c, rfl, F1, M1, b1, hc⟩

/-! ### ints -/
def oI (C : Int → Int → Prop) (g : Int → Int → PV) : PO2 := fun x y M Q => match x, y with | .int i, .int j => C i j ∧ Q (g i j) M | _, _ => False
def oI0 (g : Int → Int → PV) : PO2 := fun x y M Q => match x, y with | .int i, .int j => Q (g i j) M | _, _ => False
theorem pop_I {K : PySem.W.Frag} {C : Int → Int → Prop} {g : Int → Int → PV} {gv : Int → Int → V} (hg : ∀ F i j, R K F (g i j) (gv i j)) : POp K (rI C gv) (oI C g) := by
  intro F M H x y xv yv Q Qv rm rx ry h k
  cases rx <;> cases ry <;> first
    | exact h.elim
    | exact ⟨_, _, rfl, rfl, h.1, k _ _ (LQ.now rm (hg _ _ _) h.2)⟩
theorem pop_I0 {K : PySem.W.Frag} {g : Int → Int → PV} {gv : Int → Int → V} (hg : ∀ F i j, R K F (g i j) (gv i j)) : POp K (rI0 gv) (oI0 g) := by
  intro F M H x y xv yv Q Qv rm rx ry h k
  cases rx <;> cases ry <;> first
    | exact h.elim
    | exact ⟨_, _, rfl, rfl, k _ _ (LQ.now rm (hg _ _ _) h)⟩
abbrev oSub := oI0 fun i j => .int (i - j)
abbrev oMul := oI CMul fun i j => .int (i * j)
abbrev oDiv := oI CDiv fun i j => .int (i / j)
abbrev oMod := oI (fun _ j => 0 < j) fun i j => .int (i % j)
abbrev oPow := oI CPow fun i j => .int (i ^ j.toNat)
abbrev oLt := oI0 fun i j => .bl (decide (i < j))
abbrev oLe := oI0 fun i j => .bl (decide (i ≤ j))
abbrev oGt := oI0 fun i j => .bl (decide (j < i))
abbrev oGe := oI0 fun i j => .bl (decide (j ≤ i))
theorem LE.sub (ha : LE X a ta) (hb : LE X b tb) : LE X (.BinOp a .Sub b pos) (pBin oSub ta tb) := LE.bin op_sub (pop_I0 fun _ _ _ => .int _) ha hb
theorem LE.mul (ha : LE X a ta) (hb : LE X b tb) : LE X (.BinOp a .Mult b pos) (pBin oMul ta tb) := LE.bin op_mul (pop_I fun _ _ _ => .int _) ha hb
theorem LE.div (ha : LE X a ta) (hb : LE X b tb) : LE X (.BinOp a .FloorDiv b pos) (pBin oDiv ta tb) := LE.bin op_fdiv (pop_I fun _ _ _ => .int _) ha hb
theorem LE.mod (ha : LE X a ta) (hb : LE X b tb) : LE X (.BinOp a .Mod b pos) (pBin oMod ta tb) := LE.bin op_mod (pop_I fun _ _ _ => .int _) ha hb
theorem LE.pow (ha : LE X a ta) (hb : LE X b tb) : LE X (.BinOp a .Pow b pos) (pBin oPow ta tb) := LE.bin op_pow (pop_I fun _ _ _ => .int _) ha hb
theorem LE.lt (ha : LE X a ta) (hb : LE X b tb) : LE X (.Compare a [.Lt] [b] pos) (pBin oLt ta tb) := LE.cmp op_lt (pop_I0 fun _ _ _ => .bl _) (nomark _) ha hb
theorem LE.le (ha : LE X a ta) (hb : LE X b tb) : LE X (.Compare a [.LtE] [b] pos) (pBin oLe ta tb) := LE.cmp op_le (pop_I0 fun _ _ _ => .bl _) (nomark _) ha hb
theorem LE.gt (ha : LE X a ta) (hb : LE X b tb) : LE X (.Compare a [.Gt] [b] pos) (pBin oGt ta tb) := LE.cmp op_gt (pop_I0 fun _ _ _ => .bl _) (nomark _) ha hb
theorem LE.ge (ha : LE X a ta) (hb : LE X b tb) : LE X (.Compare a [.GtE] [b] pos) (pBin oGe ta tb) := LE.cmp op_ge (pop_I0 fun _ _ _ => .bl _) (nomark _) ha hb
theorem LT.lt (ha : LE X a ta) (hb : LE X b tb) : LT X (.Compare a [.Lt] [b] pos) (pTest (pBin oLt ta tb)) := LT.cmp op_lt (pop_I0 fun _ _ _ => .bl _) (nomark _) ha hb
theorem LT.le (ha : LE X a ta) (hb : LE X b tb) : LT X (.Compare a [.LtE] [b] pos) (pTest (pBin oLe ta tb)) := LT.cmp op_le (pop_I0 fun _ _ _ => .bl _) (nomark _) ha hb
theorem LT.gt (ha : LE X a ta) (hb : LE X b tb) : LT X (.Compare a [.Gt] [b] pos) (pTest (pBin oGt ta tb)) := LT.cmp op_gt (pop_I0 fun _ _ _ => .bl _) (nomark _) ha hb
theorem LT.ge (ha : LE X a ta) (hb : LE X b tb) : LT X (.Compare a [.GtE] [b] pos) (pTest (pBin oGe ta tb)) := LT.cmp op_ge (pop_I0 fun _ _ _ => .bl _) (nomark _) ha hb
def pNeg (ta : PTE) : PTE := fun E σ M Q => ta E σ M fun x M1 => match x with | .int i => Q (.int (-i)) M1 | _ => False
theorem LE.neg (ha : LE X a ta) : LE X (.UnaryOp .USub a pos) (pNeg ta) := by
  refine ⟨fun σv H σ F M Q E tk rm rs h => WE.of (pe_un un_neg WE.pe) ?_⟩
  refine (ha.run σv H σ F M _ E tk rm rs h).mono ?_
  rintro v H1 ⟨F1, M1, x, b1, rx, hx⟩
  cases rx <;> first
    | exact hx.elim
    | exact ⟨_, rfl, LQ.tr b1 (LQ.now b1.rm (.int _) hx)⟩
/-- a <= b <= c and its like -/
def pChain (p q : Int → Int → Bool) (ta tb tc : PTE) : PTE := fun E σ M Q => ta E σ M fun x M1 => tb E σ M1 fun y M2 => match x, y with
  | .int i, .int j => if p i j = true then tc E σ M2 fun z M3 => match z with | .int l => Q (.bl (q j l)) M3 | _ => False else Q (.bl false) M2
  | _, _ => False
theorem LE.chain {op op' : CmpOp} {p q : Int → Int → Bool} (ho : OpR X (compareOp op) (rI0 fun i j => .bl (p i j))) (ho' : OpR X (compareOp op') (rI0 fun i j => .bl (q i j)))
    (hm : lastMarks [op, op'] [b, c] = false) (ha : LE X a ta) (hb : LE X b tb) (hc : LE X c tc) : LE X (.Compare a [op, op'] [b, c] pos) (pChain p q ta tb tc) := by
  refine ⟨fun σv H σ F M Q E tk rm rs h => WE.of (pe_chain ho ho' WE.pe WE.pe WE.pe hm) ?_⟩
  refine seq2 ha hb tk rm rs h fun x y xv yv F2 M2 H2 bh rx ry h2 => ?_
  cases rx <;> cases ry <;> first
    | exact h2.elim
    | skip
  rename_i i j
  dsimp only at h2
  refine ⟨i, j, rfl, rfl, p i j, rfl, ?_⟩
  split
  · rename_i hp
    rw [if_pos hp] at h2
    refine (hc.run σv H2 σ F2 M2 _ E (tk.tr bh) bh.rm (rs.same bh.sm) h2).mono ?_
    rintro v H3 ⟨F3, M3, z, b3, rz, hz⟩
    cases rz <;> first
      | exact hz.elim
      | exact ⟨j, _, rfl, rfl, LQ.tr (bh.trans b3) (LQ.now b3.rm (.bl _) hz)⟩
  · rename_i hp
    rw [if_neg hp] at h2
    exact LQ.tr bh (LQ.now bh.rm (.bl _) h2)
theorem LE.lele (ha : LE X a ta) (hb : LE X b tb) (hc : LE X c tc) (hm : lastMarks [CmpOp.LtE, CmpOp.LtE] [b, c] = false := by with_unfolding_all rfl) : LE X (.Compare a [.LtE, .LtE] [b, c] pos) (pChain (fun i j => decide (i ≤ j)) (fun i j => decide (i ≤ j)) ta tb tc) :=
  LE.chain op_le op_le hm ha hb hc
/-! ### is None -/
def isNon : PV → Bool | .non => true | _ => false
theorem R.isNon {K : PySem.W.Frag} {F : Hp} {x : PV} {v : V} (r : R K F x v) : decide (v = .non) = isNon x := by
  cases r <;> rfl
def pIsN (ta : PTE) : PTE := fun E σ M Q => ta E σ M fun x M1 => Q (.bl (isNon x)) M1
def pNotN (ta : PTE) : PTE := fun E σ M Q => ta E σ M fun x M1 => Q (.bl (!isNon x)) M1
def pTIsN (ta : PTE) : PTT := fun E σ M Q => ta E σ M fun x M1 => Q (isNon x) M1
def pTNotN (ta : PTE) : PTT := fun E σ M Q => ta E σ M fun x M1 => Q (!isNon x) M1
theorem LE.isN {j pos'} (ha : LE X a ta) : LE X (.Compare a [.Is] [.Constant .none j pos'] pos) (pIsN ta) := by
  refine ⟨fun σv H σ F M Q E tk rm rs h => WE.of (pe_cmp (pc_isN WE.pe)) ?_⟩
  refine (ha.run σv H σ F M _ E tk rm rs h).mono ?_
  rintro v H1 ⟨F1, M1, x, b1, rx, hx⟩
  exact ⟨F1, M1, _, b1, by rw [rx.isNon]; exact .bl _, hx⟩
theorem LE.notN {j pos'} (ha : LE X a ta) : LE X (.Compare a [.IsNot] [.Constant .none j pos'] pos) (pNotN ta) := by
  refine ⟨fun σv H σ F M Q E tk rm rs h => WE.of (pe_cmp (pc_notN WE.pe)) ?_⟩
  refine (ha.run σv H σ F M _ E tk rm rs h).mono ?_
  rintro v H1 ⟨F1, M1, x, b1, rx, hx⟩
  exact ⟨F1, M1, _, b1, by rw [rx.isNon]; exact .bl _, hx⟩
theorem LT.isN {j pos'} (ha : LE X a ta) : LT X (.Compare a [.Is] [.Constant .none j pos'] pos) (pTIsN ta) := by
  refine ⟨fun σv H σ F M Q E tk rm rs h => WT.of (pt_cmp (pc_isN WE.pe)) ?_⟩
  refine (ha.run σv H σ F M _ E tk rm rs h).mono ?_
  rintro v H1 ⟨F1, M1, x, b1, rx, hx⟩
  exact ⟨_, by rw [rx.isNon], F1, M1, b1, hx⟩
theorem LT.notN {j pos'} (ha : LE X a ta) : LT X (.Compare a [.IsNot] [.Constant .none j pos'] pos) (pTNotN ta) := by
  refine ⟨fun σv H σ F M Q E tk rm rs h => WT.of (pt_cmp (pc_notN WE.pe)) ?_⟩
  refine (ha.run σv H σ F M _ E tk rm rs h).mono ?_
  rintro v H1 ⟨F1, M1, x, b1, rx, hx⟩
  exact ⟨_, by rw [rx.isNon], F1, M1, b1, hx⟩
/-! ### and, or, not -/
variable {rest : List Expr} {tt tu : PTT}
def pAnd (t u : PTT) : PTT := fun E σ M Q => t E σ M fun c M1 => if c = true then u E σ M1 Q else Q false M1
def pOr (t u : PTT) : PTT := fun E σ M Q => t E σ M fun c M1 => if c = true then Q true M1 else u E σ M1 Q
def pNot (t : PTT) : PTT := fun E σ M Q => t E σ M fun c M1 => Q (!c) M1
theorem LW.and1 (ha : LT X a tt) : LW X (.BoolOp .And [a] pos) tt := ⟨fun σv H σ F M Q E tk rm rs h => WW.of (pw_and1 WT.pt) (ha.run σv H σ F M Q E tk rm rs h)⟩
theorem LW.or1 (ha : LT X a tt) : LW X (.BoolOp .Or [a] pos) tt := ⟨fun σv H σ F M Q E tk rm rs h => WW.of (pw_or1 WT.pt) (ha.run σv H σ F M Q E tk rm rs h)⟩
theorem LW.and (ha : LT X a tt) (hb : LW X (.BoolOp .And (b :: rest) pos) tu) : LW X (.BoolOp .And (a :: b :: rest) pos) (pAnd tt tu) := by
  refine ⟨fun σv H σ F M Q E tk rm rs h => WW.of (pw_and WT.pt WW.pw) ?_⟩
  refine (ha.run σv H σ F M _ E tk rm rs h).mono ?_
  rintro c H1 ⟨F1, M1, b1, hc⟩
  split
  · rename_i e
    rw [if_pos e] at hc
    exact (hb.run σv H1 σ F1 M1 _ E (tk.tr b1) b1.rm (rs.same b1.sm) hc).mono fun v H' q => q.tr b1
  · rename_i e
    rw [if_neg e] at hc
    exact ⟨F1, M1, b1, hc⟩
theorem LW.or (ha : LT X a tt) (hb : LW X (.BoolOp .Or (b :: rest) pos) tu) : LW X (.BoolOp .Or (a :: b :: rest) pos) (pOr tt tu) := by
  refine ⟨fun σv H σ F M Q E tk rm rs h => WW.of (pw_or WT.pt WW.pw) ?_⟩
  refine (ha.run σv H σ F M _ E tk rm rs h).mono ?_
  rintro c H1 ⟨F1, M1, b1, hc⟩
  split
  · rename_i e
    rw [if_pos e] at hc
    exact ⟨F1, M1, b1, hc⟩
  · rename_i e
    rw [if_neg e] at hc
    exact (hb.run σv H1 σ F1 M1 _ E (tk.tr b1) b1.rm (rs.same b1.sm) hc).mono fun v H' q => q.tr b1
theorem LT.not (ha : LT X a tt) : LT X (.UnaryOp .Not a pos) (pNot tt) := by
  refine ⟨fun σv H σ F M Q E tk rm rs h => WT.of (pt_not WT.pt) ?_⟩
  refine (ha.run σv H σ F M _ E tk rm rs h).mono ?_
  rintro c H1 ⟨F1, M1, b1, hc⟩
  exact ⟨F1, M1, b1, hc⟩
def pAndV (ta tb : PTE) : PTE := fun E σ M Q => ta E σ M fun x M1 => kB x fun c => if c = true then tb E σ M1 Q else Q (.bl false) M1
def pOrV (ta tb : PTE) : PTE := fun E σ M Q => ta E σ M fun x M1 => kB x fun c => if c = true then Q (.bl true) M1 else tb E σ M1 Q
def pNotV (ta : PTE) : PTE := fun E σ M Q => ta E σ M fun x M1 => kB x fun c => Q (.bl (!c)) M1
theorem LE.one {op} (ha : LE X a ta) : LE X (.BoolOp op [a] pos) ta := ⟨fun σv H σ F M Q E tk rm rs h => WE.of (pe_one WE.pe) (ha.run σv H σ F M Q E tk rm rs h)⟩
theorem LE.and (ha : LE X a ta) (hb : LE X (.BoolOp .And (b :: rest) pos) tb) : LE X (.BoolOp .And (a :: b :: rest) pos) (pAndV ta tb) := by
  refine ⟨fun σv H σ F M Q E tk rm rs h => WE.of (pe_and WE.pe WE.pe) ?_⟩
  refine (ha.run σv H σ F M _ E tk rm rs h).mono ?_
  rintro v H1 ⟨F1, M1, x, b1, rx, hx⟩
  obtain ⟨c, rfl, hc⟩ := rx.bl_inv hx
  refine ⟨c, rfl, ?_⟩
  split
  · rename_i e
    rw [if_pos e] at hc
    exact (hb.run σv H1 σ F1 M1 _ E (tk.tr b1) b1.rm (rs.same b1.sm) hc).mono fun v H' q => q.tr b1
  · rename_i e
    rw [if_neg e] at hc
    exact ⟨F1, M1, _, b1, .bl _, hc⟩
theorem LE.or (ha : LE X a ta) (hb : LE X (.BoolOp .Or (b :: rest) pos) tb) : LE X (.BoolOp .Or (a :: b :: rest) pos) (pOrV ta tb) := by
  refine ⟨fun σv H σ F M Q E tk rm rs h => WE.of (pe_or WE.pe WE.pe) ?_⟩
  refine (ha.run σv H σ F M _ E tk rm rs h).mono ?_
  rintro v H1 ⟨F1, M1, x, b1, rx, hx⟩
  obtain ⟨c, rfl, hc⟩ := rx.bl_inv hx
  refine ⟨c, rfl, ?_⟩
  split
  · rename_i e
    rw [if_pos e] at hc
    exact ⟨F1, M1, _, b1, .bl _, hc⟩
  · rename_i e
    rw [if_neg e] at hc
    exact (hb.run σv H1 σ F1 M1 _ E (tk.tr b1) b1.rm (rs.same b1.sm) hc).mono fun v H' q => q.tr b1
theorem LE.not (ha : LE X a ta) : LE X (.UnaryOp .Not a pos) (pNotV ta) := by
  refine ⟨fun σv H σ F M Q E tk rm rs h => WE.of (pe_not WE.pe) ?_⟩
  refine (ha.run σv H σ F M _ E tk rm rs h).mono ?_
  rintro v H1 ⟨F1, M1, x, b1, rx, hx⟩
  obtain ⟨c, rfl, hc⟩ := rx.bl_inv hx
  exact ⟨c, rfl, F1, M1, _, b1, .bl _, hc⟩
def pIf (t : PTT) (ta tb : PTE) : PTE := fun E σ M Q => t E σ M fun c M1 => if c = true then ta E σ M1 Q else tb E σ M1 Q
theorem LE.ifE (hc : LT X c tt) (ha : LE X a ta) (hb : LE X b tb) : LE X (.IfExp c a b pos) (pIf tt ta tb) := by
  refine ⟨fun σv H σ F M Q E tk rm rs h => WE.of (pe_ifExp WT.pt WE.pe WE.pe) ?_⟩
  refine (hc.run σv H σ F M _ E tk rm rs h).mono ?_
  rintro c H1 ⟨F1, M1, b1, hc⟩
  split
  · rename_i e
    rw [if_pos e] at hc
    exact (ha.run σv H1 σ F1 M1 _ E (tk.tr b1) b1.rm (rs.same b1.sm) hc).mono fun v H' q => q.tr b1
  · rename_i e
    rw [if_neg e] at hc
    exact (hb.run σv H1 σ F1 M1 _ E (tk.tr b1) b1.rm (rs.same b1.sm) hc).mono fun v H' q => q.tr b1
/-! ### argument lists, displays -/
variable {es : List Expr} {t : PTA}
def pNil : PTA := fun _ _ M Q => Q [] M
def pCons (ta : PTE) (tr : PTA) : PTA := fun E σ M Q => ta E σ M fun x M1 => tr E σ M1 fun xs M2 => Q (x :: xs) M2
theorem LA.nil : LA X [] pNil := ⟨fun σv H σ F M Q E tk rm rs h => WA.of pa_nil ⟨rfl, F, M, [], Beh.refl rm, .nil, h⟩⟩
theorem LA.cons (ha : LE X e ta) (hr : LA X es t) (hs : starEach (e :: es) X.env = (false, eval e X.env) :: starEach es X.env := by rfl) : LA X (e :: es) (pCons ta t) := by
  refine ⟨fun σv H σ F M Q E tk rm rs h => WA.of (pa_cons WE.pe WA.pa hs) ?_⟩
  refine (ha.run σv H σ F M _ E tk rm rs h).mono ?_
  rintro v H1 ⟨F1, M1, x, b1, rx, hx⟩
  refine (hr.run σv H1 σ F1 M1 _ E (tk.tr b1) b1.rm (rs.same b1.sm) hx).mono ?_
  rintro vs H2 ⟨hl, F2, M2, xs, b2, rxs, hxs⟩
  exact ⟨congrArg (· + 1) hl, F2, M2, _, b1.trans b2, .cons (rx.same b2.sm) rxs, hxs⟩
def pTup (t : PTA) : PTE := fun E σ M Q => t E σ M fun xs M1 => Q (.tup xs) M1
def pLst (t : PTA) : PTE := fun E σ M Q => t E σ M fun xs M1 => Q (.lst xs) M1
def pLstM (t : PTA) : PTE := fun E σ M Q => t E σ M fun xs M1 => ∀ p, M1 p = none → Q (.ptr p) (M1.put p (.lst xs))
theorem LE.tup {x1} (h : LA X es t) (hn : es.length ≤ 1000 := by decide) : LE X (.Tuple es x1 pos) (pTup t) := by
  refine ⟨fun σv H σ F M Q E tk rm rs hh => WE.of (pe_tup WA.pa) ?_⟩
  refine (h.run σv H σ F M _ E tk rm rs hh).mono ?_
  rintro vs H1 ⟨hl, F1, M1, xs, b1, rx, hx⟩
  refine ⟨by rw [hl]; exact Nat.le_of_lt (small1000 hn), fun p np => ?_⟩
  exact ⟨_, M1, _, b1.trans (b1.rm.beh np), .tup (SqT.of upd_same) (rx.same (b1.rm.beh (o := .tup vs) np).sm), hx⟩
theorem LE.lst (h : LA X es t) (hn : es.length ≤ 1000 := by decide) : LE X (.List es pos) (pLst t) := by
  refine ⟨fun σv H σ F M Q E tk rm rs hh => WE.of (pe_lst WA.pa) ?_⟩
  refine (h.run σv H σ F M _ E tk rm rs hh).mono ?_
  rintro vs H1 ⟨hl, F1, M1, xs, b1, rx, hx⟩
  refine ⟨by rw [hl]; exact Nat.le_of_lt (small1000 hn), fun p np => ?_⟩
  exact ⟨_, M1, _, b1.trans (b1.rm.beh np), .lst upd_same (rx.same (b1.rm.beh (o := .lst vs) np).sm), hx⟩
theorem LE.lstM (h : LA X es t) (hn : es.length ≤ 1000 := by decide) : LE X (.List es pos) (pLstM t) := by
  refine ⟨fun σv H σ F M Q E tk rm rs hh => WE.of (pe_lst WA.pa) ?_⟩
  refine (h.run σv H σ F M _ E tk rm rs hh).mono ?_
  rintro vs H1 ⟨hl, F1, M1, xs, b1, rx, hx⟩
  refine ⟨by rw [hl]; exact Nat.le_of_lt (small1000 hn), fun p np => ?_⟩
  exact ⟨_, _, _, b1.trans (b1.rm.behNew np (.lst rx)), .ptr p, hx p (b1.rm.nones np).2⟩
end
end PL
set_option Elab.async false
set_option linter.all false
set_option maxRecDepth 100000
namespace PL
open PySem PySem.Spec PyProof.Rows L2

/-! ### sequences -/
def seqOf (M : Mem) : PV → Option (List PV)
  | .tup xs => some xs
  | .lst xs => some xs
  | .scr xs => some xs
  | .ptr a => match M a with | some (.lst xs) => some xs | _ => none
  | _ => none
def lstOf (M : Mem) : PV → Option (List PV)
  | .lst xs => some xs
  | .scr xs => some xs
  | .ptr a => match M a with | some (.lst xs) => some xs | _ => none
  | _ => none
theorem seqOf_ptr {M : Mem} {a : Addr} {xs : List PV} (h : M a = some (.lst xs)) : seqOf M (.ptr a) = some xs := by
  show (match M a with | some (.lst xs) => some xs | _ => none) = some xs
  rw [h]
theorem lstOf_ptr {M : Mem} {a : Addr} {xs : List PV} (h : M a = some (.lst xs)) : lstOf M (.ptr a) = some xs := by
  show (match M a with | some (.lst xs) => some xs | _ => none) = some xs
  rw [h]
section
variable {K : PySem.W.Frag} {F H : Hp} {M : Mem} {x : PV} {v : V} {xs : List PV}
theorem R.lstI (rm : RM K F M H) (r : R K F x v) (h : lstOf M x = some xs) : ∃ a vs, v = .ref a ∧ SqL K H a vs ∧ RAll K F xs vs := by
  cases r with
  | lst e q => cases h; exact ⟨_, _, rfl, SqL.of (rm.fr _ _ e), q⟩
  | scr e q => cases h; exact ⟨_, _, rfl, rm.fr.seq e, q⟩
  | ptr a =>
    cases hm : M a with
    | none =>
      have h' : (match M a with | some (.lst xs) => some xs | _ => none) = some xs := h
      rw [hm] at h'
      cases h'
    | some m =>
      have h' : (match M a with | some (.lst xs) => some xs | _ => none) = some xs := h
      rw [hm] at h'
      cases m with
      | lst ys =>
        cases h'
        obtain ⟨o, e1, q⟩ := rm.mu _ _ hm
        cases q with
        | lst q => exact ⟨_, _, rfl, SqL.of e1, q⟩
      | obj C fs => cases h'
  | _ => cases h
theorem lstOf_seq {M : Mem} (h : lstOf M x = some xs) : seqOf M x = some xs := by
  cases x <;> first | exact h | cases h
theorem R.seqI (rm : RM K F M H) (r : R K F x v) (h : seqOf M x = some xs) : ∃ a vs, v = .ref a ∧ (SqL K H a vs ∨ SqT K H a vs) ∧ RAll K F xs vs := by
  cases r with
  | tup e q => cases h; exact ⟨_, _, rfl, .inr (sqT_same rm.fr e), q⟩
  | lst e q => cases h; exact ⟨_, _, rfl, .inl (SqL.of (rm.fr _ _ e)), q⟩
  | scr e q => cases h; exact ⟨_, _, rfl, .inl (rm.fr.seq e), q⟩
  | ptr a =>
    obtain ⟨a', vs, e, q, r⟩ := R.lstI (x := .ptr a) rm (.ptr a) h
    exact ⟨a', vs, e, .inl q, r⟩
  | _ => cases h
theorem RAll.atI {vs : List V} {i : Int} {x : PV} (r : RAll K F xs vs) (h : atI xs i = some x) : ∃ v, L2.atI vs i = some v ∧ R K F x v := by
  unfold L2.atI at h ⊢
  rw [← r.length]
  cases q : ixN xs.length i with
  | none => rw [q] at h; cases h
  | some j =>
    rw [q] at h
    obtain ⟨v, h1, h2⟩ := r.get (i := j) h
    exact ⟨v, h1, h2⟩
end

/-! ### calls of what is built in -/
abbrev POn := List PV → Mem → PQ → Prop
def POc (K : PySem.W.Frag) (r : List V → Hp → VK → Prop) (o : POn) : Prop := ∀ (F : Hp) (M : Mem) (H : Hp) (xs : List PV) (vs : List V) (Q : PQ) (Qv : VK), RM K F M H → RAll K F xs vs → o xs M Q →
  (∀ v H', LQ K F M H Q v H' → Qv v H') → r vs H Qv
def pCallB (o : POn) (t : PTA) : PTE := fun E σ M Q => t E σ M fun xs M1 => o xs M1 Q
section
variable {X : Cx} {a b c e : Expr} {ta tb tc : PTE} {pos p : Pos} {es : List Expr} {t : PTA} {x : Str} {id T : String} {r : List V → Hp → VK → Prop} {o : POn}
theorem LE.callB (hc : CallR X (.builtin id) r) (hp : POc X.K r o) (hg : Gl X x) (hm : X.mg x = none) (hv : bootBuiltins x = some (.builtin id)) (ha : LA X (e :: es) t) (hn : x ≠ "__name__" := by decide) (hdb : (x == ("__debug__" : Str)) = false := by decide)
    (he : starEach (e :: es) X.env = (false, eval e X.env) :: starEach es X.env := by rfl) (hpl : (backTo pos (starEach es X.env)).any (·.1) = false := by rfl) : LE X (.Call (.Name x p) (e :: es) [] pos) (pCallB o t) := by
  refine ⟨fun σv H σ F M Q E tk rm rs h => WE.of (pe_callB hc hg hm hv WA.pa hn hdb he hpl) ?_⟩
  refine (ha.run σv H σ F M _ E tk rm rs h).mono ?_
  rintro vs H1 ⟨hl, F1, M1, xs, b1, rx, hx⟩
  exact hp F1 M1 H1 xs vs Q _ b1.rm rx hx fun v H' q => q.tr b1
theorem LE.callT (hc : CallR X (.type T) r) (hp : POc X.K r o) (hg : Gl X x) (hm : X.mg x = none) (hv : bootBuiltins x = some (.type T)) (ha : LA X (e :: es) t) (hn : x ≠ "__name__" := by decide) (hdb : (x == ("__debug__" : Str)) = false := by decide)
    (he : starEach (e :: es) X.env = (false, eval e X.env) :: starEach es X.env := by rfl) (hpl : (backTo pos (starEach es X.env)).any (·.1) = false := by rfl) : LE X (.Call (.Name x p) (e :: es) [] pos) (pCallB o t) := by
  refine ⟨fun σv H σ F M Q E tk rm rs h => WE.of (pe_callTy hc hg hm hv WA.pa hn hdb he hpl) ?_⟩
  refine (ha.run σv H σ F M _ E tk rm rs h).mono ?_
  rintro vs H1 ⟨hl, F1, M1, xs, b1, rx, hx⟩
  exact hp F1 M1 H1 xs vs Q _ b1.rm rx hx fun v H' q => q.tr b1
theorem RAll.one {K : PySem.W.Frag} {F : Hp} {x : PV} {vs : List V} (r : RAll K F [x] vs) : ∃ v, vs = [v] ∧ R K F x v := by
  cases r with
  | cons r t => cases t; exact ⟨_, rfl, r⟩
theorem RAll.two {K : PySem.W.Frag} {F : Hp} {x y : PV} {vs : List V} (r : RAll K F [x, y] vs) : ∃ v w, vs = [v, w] ∧ R K F x v ∧ R K F y w := by
  cases r with
  | cons r t =>
    obtain ⟨w, e, q⟩ := t.one
    subst e
    exact ⟨_, _, rfl, r, q⟩
/-- one argument -/
def on1 (k : PV → Mem → PQ → Prop) : POn := fun xs M Q => match xs with | [x] => k x M Q | _ => False
def on2 (k : PV → PV → Mem → PQ → Prop) : POn := fun xs M Q => match xs with | [x, y] => k x y M Q | _ => False
theorem on1_of {k : PV → Mem → PQ → Prop} {xs : List PV} {M : Mem} {Q : PQ} (h : on1 k xs M Q) : ∃ x, xs = [x] ∧ k x M Q := by
  unfold on1 at h; split at h
  · exact ⟨_, rfl, h⟩
  · exact h.elim
theorem on2_of {k : PV → PV → Mem → PQ → Prop} {xs : List PV} {M : Mem} {Q : PQ} (h : on2 k xs M Q) : ∃ x y, xs = [x, y] ∧ k x y M Q := by
  unfold on2 at h; split at h
  · exact ⟨_, _, rfl, h⟩
  · exact h.elim
def kLen (x : PV) (M : Mem) (Q : PQ) : Prop := match x with
  | .str y => y.length ≤ sizeLine ∧ Q (.int y.length) M
  | x => need (seqOf M x) fun xs => Q (.int xs.length) M
theorem LE.len (hg : Gl X "len") (hm : X.mg "len" = none) (ha : LA X [e] t) (he : starEach [e] X.env = (false, eval e X.env) :: starEach [] X.env := by rfl) : LE X (.Call (.Name "len" p) [e] [] pos) (pCallB (on1 kLen) t) := by
  refine LE.callB call_len (fun F M H xs vs Q Qv rm rx h k => ?_) hg hm PySem.boot_len ha (he := he)
  obtain ⟨x, ex, h1⟩ := on1_of h
  subst ex
  obtain ⟨v, ev, rx1⟩ := rx.one
  subst ev
  unfold kLen at h1
  split at h1
  · rename_i y
    cases rx1
    exact ⟨_, _, rfl, ⟨h1.1, rfl⟩, k _ _ (LQ.now rm (.int _) h1.2)⟩
  · obtain ⟨ys, e, h2⟩ := need_of h1
    obtain ⟨q, ws, ev, hs, ra⟩ := rx1.seqI rm e
    subst ev
    refine ⟨_, _, rfl, ?_, k _ _ (LQ.now rm (.int _) h2)⟩
    rcases hs with hs | hs
    · exact .inl ⟨ws, hs, ra.length⟩
    · exact .inr ⟨ws, hs, ra.length⟩
def kAbs (x : PV) (M : Mem) (Q : PQ) : Prop := match x with | .int i => Q (.int (if i < 0 then -i else i)) M | _ => False
theorem LE.abs (hg : Gl X "abs") (hm : X.mg "abs" = none) (ha : LA X [e] t) (he : starEach [e] X.env = (false, eval e X.env) :: starEach [] X.env := by rfl) : LE X (.Call (.Name "abs" p) [e] [] pos) (pCallB (on1 kAbs) t) := by
  refine LE.callB call_abs (fun F M H xs vs Q Qv rm rx h k => ?_) hg hm (by decide +kernel) ha (he := he)
  obtain ⟨x, ex, h1⟩ := on1_of h
  subst ex
  obtain ⟨v, ev, rx1⟩ := rx.one
  subst ev
  cases rx1 <;> first
    | exact h1.elim
    | exact ⟨_, rfl, k _ _ (LQ.now rm (.int _) h1)⟩
def kInt (x : PV) (M : Mem) (Q : PQ) : Prop := match x with | .int i => Q (.int i) M | .bl b => Q (.int (if b then 1 else 0)) M | _ => False
theorem LE.intOf (hg : Gl X "int") (hm : X.mg "int" = none) (ha : LA X [e] t) (he : starEach [e] X.env = (false, eval e X.env) :: starEach [] X.env := by rfl) : LE X (.Call (.Name "int" p) [e] [] pos) (pCallB (on1 kInt) t) := by
  refine LE.callT call_int1 (fun F M H xs vs Q Qv rm rx h k => ?_) hg hm (by decide +kernel) ha (he := he)
  obtain ⟨x, ex, h1⟩ := on1_of h
  subst ex
  obtain ⟨v, ev, rx1⟩ := rx.one
  subst ev
  cases rx1 <;> first
    | exact h1.elim
    | exact .inl ⟨_, rfl, k _ _ (LQ.now rm (.int _) h1)⟩
    | exact .inr ⟨_, rfl, k _ _ (LQ.now rm (.int _) h1)⟩
def kMin2 (x y : PV) (M : Mem) (Q : PQ) : Prop := match x, y with | .int i, .int j => Q (.int (if j < i then j else i)) M | _, _ => False
def kMax2 (x y : PV) (M : Mem) (Q : PQ) : Prop := match x, y with | .int i, .int j => Q (.int (if j > i then j else i)) M | _, _ => False
theorem LE.min2 (hc : X.calm = true) (hg : Gl X "min") (hm : X.mg "min" = none) (ha : LA X [a, b] t) (he : starEach [a, b] X.env = (false, eval a X.env) :: starEach [b] X.env := by rfl) (hpl : (backTo pos (starEach [b] X.env)).any (·.1) = false := by rfl) : LE X (.Call (.Name "min" p) [a, b] [] pos) (pCallB (on2 kMin2) t) := by
  refine LE.callB (call_min2 hc) (fun F M H xs vs Q Qv rm rx h k => ?_) hg hm (by decide +kernel) ha (he := he) (hpl := hpl)
  obtain ⟨x, y, ex, h1⟩ := on2_of h
  subst ex
  obtain ⟨v, w, ev, rx1, ry1⟩ := rx.two
  subst ev
  cases rx1 <;> cases ry1 <;> first
    | exact h1.elim
    | exact ⟨_, _, rfl, k _ _ (LQ.now rm (.int _) h1)⟩
theorem LE.max2 (hc : X.calm = true) (hg : Gl X "max") (hm : X.mg "max" = none) (ha : LA X [a, b] t) (he : starEach [a, b] X.env = (false, eval a X.env) :: starEach [b] X.env := by rfl) (hpl : (backTo pos (starEach [b] X.env)).any (·.1) = false := by rfl) : LE X (.Call (.Name "max" p) [a, b] [] pos) (pCallB (on2 kMax2) t) := by
  refine LE.callB (call_max2 hc) (fun F M H xs vs Q Qv rm rx h k => ?_) hg hm (by decide +kernel) ha (he := he) (hpl := hpl)
  obtain ⟨x, y, ex, h1⟩ := on2_of h
  subst ex
  obtain ⟨v, w, ev, rx1, ry1⟩ := rx.two
  subst ev
  cases rx1 <;> cases ry1 <;> first
    | exact h1.elim
    | exact ⟨_, _, rfl, k _ _ (LQ.now rm (.int _) h1)⟩
/-! ### list(x), tuple(x) -/
def kList (x : PV) (M : Mem) (Q : PQ) : Prop := need (seqOf M x) fun xs => Q (.lst xs) M
def kListM (x : PV) (M : Mem) (Q : PQ) : Prop := need (seqOf M x) fun xs => ∀ p, M p = none → Q (.ptr p) (M.put p (.lst xs))
def kTup (x : PV) (M : Mem) (Q : PQ) : Prop := need (seqOf M x) fun xs => Q (.tup xs) M
theorem LE.list (hg : Gl X "list") (hm : X.mg "list" = none) (ha : LA X [e] t) (he : starEach [e] X.env = (false, eval e X.env) :: starEach [] X.env := by rfl) : LE X (.Call (.Name "list" p) [e] [] pos) (pCallB (on1 kList) t) := by
  refine LE.callT call_list_of (fun F M H xs vs Q Qv rm rx h k => ?_) hg hm (by decide +kernel) ha (he := he)
  obtain ⟨x, ex, h1⟩ := on1_of h
  subst ex
  obtain ⟨v, ev, rx1⟩ := rx.one
  subst ev
  obtain ⟨ys, e, h2⟩ := need_of h1
  obtain ⟨q, ws, ev, hs, ra⟩ := rx1.seqI rm e
  subst ev
  refine ⟨q, ws, rfl, hs, fun l nl => k _ _ ⟨_, M, _, rm.beh nl, .lst upd_same (ra.same (rm.beh (o := .lst ws) nl).sm), h2⟩⟩
theorem LE.listM (hg : Gl X "list") (hm : X.mg "list" = none) (ha : LA X [e] t) (he : starEach [e] X.env = (false, eval e X.env) :: starEach [] X.env := by rfl) : LE X (.Call (.Name "list" p) [e] [] pos) (pCallB (on1 kListM) t) := by
  refine LE.callT call_list_of (fun F M H xs vs Q Qv rm rx h k => ?_) hg hm (by decide +kernel) ha (he := he)
  obtain ⟨x, ex, h1⟩ := on1_of h
  subst ex
  obtain ⟨v, ev, rx1⟩ := rx.one
  subst ev
  obtain ⟨ys, e, h2⟩ := need_of h1
  obtain ⟨q, ws, ev, hs, ra⟩ := rx1.seqI rm e
  subst ev
  refine ⟨q, ws, rfl, hs, fun l nl => k _ _ ⟨_, _, _, rm.behNew nl (.lst ra), .ptr l, h2 l (rm.nones nl).2⟩⟩
theorem LE.tupOf (hg : Gl X "tuple") (hm : X.mg "tuple" = none) (ha : LA X [e] t) (he : starEach [e] X.env = (false, eval e X.env) :: starEach [] X.env := by rfl) : LE X (.Call (.Name "tuple" p) [e] [] pos) (pCallB (on1 kTup) t) := by
  refine LE.callT call_tuple_of (fun F M H xs vs Q Qv rm rx h k => ?_) hg hm (by decide +kernel) ha (he := he)
  obtain ⟨x, ex, h1⟩ := on1_of h
  subst ex
  obtain ⟨v, ev, rx1⟩ := rx.one
  subst ev
  obtain ⟨ys, e, h2⟩ := need_of h1
  have li : lstOf M x = some ys → ∃ p zs, [v] = [V.ref p] ∧ ((SqL X.K H p zs ∧ ∀ l, H l = none → Qv (.ref l) (upd H l (.tup zs))) ∨ (SqT X.K H p zs ∧ Qv (.ref p) H)) := fun e' => by
    obtain ⟨q, ws, ev, hs, ra⟩ := rx1.lstI rm e'
    subst ev
    exact ⟨q, ws, rfl, .inl ⟨hs, fun l nl => k _ _ ⟨_, M, _, rm.beh nl, .tup (SqT.of upd_same) (ra.same (rm.beh (o := .tup ws) nl).sm), h2⟩⟩⟩
  cases rx1 with
  | tup e' q' =>
    cases e
    exact ⟨_, _, rfl, .inr ⟨sqT_same rm.fr e', k _ _ (LQ.now rm (.tup e' q') h2)⟩⟩
  | lst e' q' => exact li e
  | scr e' q' => exact li e
  | ptr a => exact li e
  | _ => cases e
/-! ### subscripts -/
def oIx : PO2 := fun x y M Q => match y with
  | .int i => match x with
    | .str z => z.length ≤ sizeLine ∧ need (L2.atI z.cps.toList i) fun c => Q (.str ⟨#[c]⟩) M
    | x => need (seqOf M x) fun xs => need (L2.atI xs i) fun z => Q z M
  | _ => False
theorem LE.ix (ha : LE X a ta) (hb : LE X b tb) (hs : PlainIx b := by exact fun _ _ => rfl) : LE X (.Subscript a b pos) (pBin oIx ta tb) := by
  refine ⟨fun σv H σ F M Q E tk rm rs h => WE.of (pe_ix ix_seq WE.pe WE.pe hs) ?_⟩
  refine seq2 ha hb tk rm rs h fun x y xv yv F2 M2 H2 bh rx ry h2 => ?_
  unfold oIx at h2
  split at h2
  · rename_i i
    cases ry
    split at h2
    · rename_i z
      cases rx
      obtain ⟨h3, h4⟩ := h2
      obtain ⟨c, e, h5⟩ := need_of h4
      exact .inr (.inr ⟨z, i, c, rfl, rfl, h3, e, LQ.tr bh (LQ.now bh.rm (.str _) h5)⟩)
    · obtain ⟨ys, e, h3⟩ := need_of h2
      obtain ⟨z, e2, h4⟩ := need_of h3
      obtain ⟨q, ws, ev, hs, ra⟩ := rx.seqI bh.rm e
      subst ev
      obtain ⟨w, e3, rz⟩ := ra.atI e2
      rcases hs with hs | hs
      · exact .inl ⟨q, ws, i, w, rfl, rfl, hs, e3, LQ.tr bh (LQ.now bh.rm rz h4)⟩
      · exact .inr (.inl ⟨q, ws, i, w, rfl, rfl, hs, e3, LQ.tr bh (LQ.now bh.rm rz h4)⟩)
  · exact h2.elim
/-! ### slices -/
abbrev PTO := PXK → PSt → Mem → (Option Int → Mem → Prop) → Prop
structure LO (X : Cx) (e : Option Expr) (t : PTO) : Prop where
  run : ∀ (σv : L2.St) (H : Hp) (σ : PSt) (F : Hp) (M : Mem) (Q : Option Int → Mem → Prop) (E : PXK), PTk X F M H E → RM X.K F M H → RS X.K F σ σv → t E σ M Q →
    ∀ pins s, Inv X pins σv H s → wpAny (model X.prog X.w) X.A (evalPart e X.env) (fun u s' => ∃ o H', Inv X pins σv H' s' ∧ IsPart u o ∧ ∃ F' M', Beh X.K F M H F' M' H' ∧ Q o M') X.xe s
def pNoPart : PTO := fun _ _ M Q => Q none M
def pPart (t : PTE) : PTO := fun E σ M Q => t E σ M fun x M1 => match x with | .int i => Q (some i) M1 | _ => False
theorem LO.none : LO X none pNoPart := ⟨fun σv H σ F M Q E tk rm rs h pins s I => thn (po_none.run pins s σv H (fun o H' => ∃ F' M', Beh X.K F M H F' M' H' ∧ Q o M') I ⟨F, M, Beh.refl rm, h⟩) fun _ _ q => q⟩
theorem LO.some (ha : LE X e ta) : LO X (some e) (pPart ta) := by
  refine ⟨fun σv H σ F M Q E tk rm rs h pins s I => thn ((po_some WE.pe).run pins s σv H (fun o H' => ∃ F' M', Beh X.K F M H F' M' H' ∧ Q o M') I ?_) fun _ _ q => q⟩
  refine (ha.run σv H σ F M _ E tk rm rs h).mono ?_
  rintro v H1 ⟨F1, M1, x, b1, rx, hx⟩
  cases rx <;> first
    | exact hx.elim
    | exact ⟨_, rfl, F1, M1, b1, hx⟩
def WO (X : Cx) (e : Option Expr) (σ : L2.St) (H : Hp) (Q : Option Int → Hp → Prop) : Prop := ∀ pins s, Inv X pins σ H s → wpAny (model X.prog X.w) X.A (evalPart e X.env) (fun u s' => ∃ o H', Inv X pins σ H' s' ∧ IsPart u o ∧ Q o H') X.xe s
theorem WO.po {e : Option Expr} : L2.PO X e (WO X e) := ⟨fun pins s σ H Q I h => h pins s I⟩
def cutP (xs : List PV) (lo hi : Option Int) : List PV := (xs.drop (HT.sIx xs.length 0 lo)).take (HT.sIx xs.length xs.length hi - HT.sIx xs.length 0 lo)
theorem RAll.cut {K : PySem.W.Frag} {F : Hp} {xs : List PV} {vs : List V} (r : RAll K F xs vs) (lo hi : Option Int) : RAll K F (cutP xs lo hi) (cutV vs lo hi) := by
  unfold cutP cutV
  rw [r.length]
  exact (r.drop _).take _
theorem cutP_all {xs : List PV} {lo hi : Option Int} (h : HT.sIx xs.length 0 lo = 0 ∧ HT.sIx xs.length xs.length hi = xs.length) : cutP xs lo hi = xs := by
  unfold cutP
  rw [h.1, h.2]
  simp
def oSl (x : PV) (lo hi : Option Int) (M : Mem) (Q : PQ) : Prop := match x with
  | .tup xs => Q (.tup (cutP xs lo hi)) M
  | x => need (lstOf M x) fun xs => Q (.lst (cutP xs lo hi)) M
def pSl (ta : PTE) (tl th : PTO) : PTE := fun E σ M Q => ta E σ M fun x M1 => tl E σ M1 fun l M2 => th E σ M2 fun u M3 => oSl x l u M3 Q
theorem LE.slice {lo hi : Option Expr} {tl th : PTO} {p2 : Pos} (ha : LE X a ta) (hl : LO X lo tl) (hh : LO X hi th) : LE X (.Subscript a (.Slice lo hi none p2) pos) (pSl ta tl th) := by
  refine ⟨fun σv H σ F M Q E tk rm rs h => WE.of (pe_slice (SlR.or sl_list sl_tupA) WE.pe WO.po WO.po) ?_⟩
  refine (ha.run σv H σ F M _ E tk rm rs h).mono ?_
  rintro v H1 ⟨F1, M1, x, b1, rx, hx⟩
  intro pins s I
  refine thn (hl.run σv H1 σ F1 M1 _ E (tk.tr b1) b1.rm (rs.same b1.sm) hx pins s I) ?_
  rintro u1 s1 ⟨o1, H2, I2, p1, F2, M2, b2, h2⟩
  refine ⟨o1, H2, I2, p1, ?_⟩
  intro pins' s' I'
  refine thn (hh.run σv H2 σ F2 M2 _ E (tk.tr (b1.trans b2)) b2.rm (rs.same (b1.trans b2).sm) h2 pins' s' I') ?_
  rintro u2 s2 ⟨o2, H3, I3, p2, F3, M3, b3, h3⟩
  refine ⟨o2, H3, I3, p2, ?_⟩
  have b := (b1.trans b2).trans b3
  have rx3 := rx.same (b2.trans b3).sm
  unfold oSl at h3
  split at h3
  · rename_i xs
    cases rx3 with
    | tup e q =>
      refine .inr ⟨_, _, rfl, sqT_same b3.rm.fr e, fun hw => ?_, fun _ p np => ?_⟩
      · rw [← q.length] at hw
        rw [cutP_all hw] at h3
        exact LQ.tr b (LQ.now b3.rm (.tup e q) h3)
      · exact LQ.tr b ⟨_, M3, _, b3.rm.beh np, .tup (SqT.of upd_same) ((q.cut _ _).same (b3.rm.beh (o := .tup (cutV _ o1 o2)) np).sm), h3⟩
  · obtain ⟨xs, e, h4⟩ := need_of h3
    obtain ⟨q, ws, ev, hs, ra⟩ := rx3.lstI b3.rm e
    subst ev
    exact .inl ⟨q, ws, rfl, hs, fun p np => LQ.tr b ⟨_, M3, _, b3.rm.beh np, .lst upd_same ((ra.cut _ _).same (b3.rm.beh (o := .lst (cutV ws o1 o2)) np).sm), h4⟩⟩
/-! ### + -/
def oAdd : PO2 := fun x y M Q => match x, y with
  | .int i, .int j => Q (.int (i + j)) M
  | .str i, .str j => i.length + j.length ≤ sizeLine ∧ Q (.str (i ++ j)) M
  | .tup xs, .tup ys => xs.length + ys.length ≤ sizeLine ∧ Q (.tup (xs ++ ys)) M
  | .lst xs, .lst ys => xs.length + ys.length ≤ sizeLine ∧ Q (.lst (xs ++ ys)) M
  | _, _ => False
theorem LE.add (ha : LE X a ta) (hb : LE X b tb) : LE X (.BinOp a .Add b pos) (pBin oAdd ta tb) := by
  refine LE.bin (OpR.or op_add (OpR.or op_add_str (OpR.or op_catA op_cat))) (fun F M H x y xv yv Q Qv rm rx ry h k => ?_) ha hb
  cases rx <;> cases ry <;> first
    | exact h.elim
    | exact .inl ⟨_, _, rfl, rfl, k _ _ (LQ.now rm (.int _) h)⟩
    | exact .inr (.inl ⟨_, _, rfl, rfl, h.1, k _ _ (LQ.now rm (.str _) h.2)⟩)
    | skip
  · rename_i a' xs vs e q b' ys ws e2 q2
    refine .inr (.inr (.inl ⟨_, _, vs, ws, rfl, rfl, sqT_same rm.fr e, sqT_same rm.fr e2, by rw [← q.length, ← q2.length]; exact h.1, fun z => ?_, fun _ z => ?_, fun _ _ p np => ?_⟩))
    · subst z
      have z : xs = [] := List.eq_nil_of_length_eq_zero q.length
      subst z
      exact k _ _ (LQ.now rm (.tup e2 q2) h.2)
    · subst z
      have z : ys = [] := List.eq_nil_of_length_eq_zero q2.length
      subst z
      have h2 := h.2
      rw [List.append_nil] at h2
      exact k _ _ (LQ.now rm (.tup e q) h2)
    · exact k _ _ ⟨_, M, _, rm.beh np, .tup (SqT.of upd_same) ((q.append q2).same (rm.beh (o := .tup (vs ++ ws)) np).sm), h.2⟩
  · rename_i a' xs vs e q b' ys ws e2 q2
    exact .inr (.inr (.inr ⟨_, _, vs, ws, rfl, rfl, rm.fr _ _ e, rm.fr _ _ e2, by rw [← q.length, ← q2.length]; exact h.1, fun p np =>
      k _ _ ⟨_, M, _, rm.beh np, .lst upd_same ((q.append q2).same (rm.beh (o := .lst (vs ++ ws)) np).sm), h.2⟩⟩))
end
end PL
set_option Elab.async false
set_option linter.all false
set_option maxRecDepth 100000
namespace PL
open PySem PySem.Spec PyProof.Rows L2

/-! ### == of data -/
mutual
def toD : PV → Option PyData
  | .non => some .none
  | .bl b => some (.bool b)
  | .int i => some (.int i)
  | .str x => if (PyData.str x).canLay0 = true then some (.str x) else none
  | .tup xs => (toDs xs).map .tuple
  | .lst xs => (toDs xs).map .list
  | .scr xs => (toDs xs).map .list
  | _ => none
def toDs : List PV → Option (List PyData)
  | [] => some []
  | x :: xs => match toD x, toDs xs with | some d, some ds => some (d :: ds) | _, _ => none
end
mutual
theorem toD_dp {K : PySem.W.Frag} {F H : Hp} (e : Same F H) : ∀ (x : PV) (v : V) (d : PyData), R K F x v → toD x = some d → Dp K H v d ∧ d.canLay0 = true
  | .non, _, _, .non, h => by cases h; exact ⟨.non, rfl⟩
  | .bl b, _, _, .bl _, h => by cases h; exact ⟨.bl b, rfl⟩
  | .int b, _, _, .int _, h => by cases h; exact ⟨.int b, rfl⟩
  | .str b, _, _, .str _, h => by
    unfold toD at h
    split at h
    · rename_i hb
      cases h
      exact ⟨.str b, hb⟩
    · cases h
  | .tup xs, _, d, .tup q r, h => by
    unfold toD at h
    cases hd : toDs xs with
    | none => rw [hd] at h; cases h
    | some ds =>
      rw [hd] at h
      cases h
      obtain ⟨h1, h2⟩ := toDs_dp e xs _ ds r hd
      exact ⟨.tup (sqT_same e q) h1, by simpa [PyData.canLay0] using h2⟩
  | .lst xs, _, d, .lst q r, h => by
    unfold toD at h
    cases hd : toDs xs with
    | none => rw [hd] at h; cases h
    | some ds =>
      rw [hd] at h
      cases h
      obtain ⟨h1, h2⟩ := toDs_dp e xs _ ds r hd
      exact ⟨.lst (SqL.of (e _ _ q)) h1, by simpa [PyData.canLay0] using h2⟩
  | .scr xs, _, d, .scr q r, h => by
    unfold toD at h
    cases hd : toDs xs with
    | none => rw [hd] at h; cases h
    | some ds =>
      rw [hd] at h
      cases h
      obtain ⟨h1, h2⟩ := toDs_dp e xs _ ds r hd
      exact ⟨.lst (e.seq q) h1, by simpa [PyData.canLay0] using h2⟩
theorem toDs_dp {K : PySem.W.Frag} {F H : Hp} (e : Same F H) : ∀ (xs : List PV) (vs : List V) (ds : List PyData), RAll K F xs vs → toDs xs = some ds → DpAll K H vs ds ∧ PyData.canLayAll0 ds = true
  | [], _, _, .nil, h => by cases h; exact ⟨.nil, rfl⟩
  | x :: xs, _, ds, .cons r t, h => by
    unfold toDs at h
    cases h1 : toD x with
    | none => rw [h1] at h; cases h
    | some d =>
      cases h2 : toDs xs with
      | none => rw [h1, h2] at h; cases h
      | some ds' =>
        rw [h1, h2] at h
        cases h
        obtain ⟨a1, a2⟩ := toD_dp e x _ d r h1
        obtain ⟨b1, b2⟩ := toDs_dp e xs _ ds' t h2
        exact ⟨.cons a1 b1, by simp [PyData.canLayAll0, a2, b2]⟩
end
theorem toDs_ints : ∀ ns : List Int, toDs (ns.map PV.int) = some (ns.map PyData.int)
  | [] => rfl
  | n :: r => by
    show (match toD (.int n), toDs (r.map PV.int) with | some d, some ds => some (d :: ds) | _, _ => none) = _
    rw [toDs_ints r]
    rfl
theorem depth_ints : ∀ ns : List Int, PyData.depthAll (ns.map PyData.int) = 0
  | [] => rfl
  | n :: r => by
    show max 0 (PyData.depthAll (r.map PyData.int)) = 0
    rw [depth_ints r]
    rfl
/-- scalars -/
def eqF : PV → PV → Option Bool
  | .int i, .int j => some (decide (i = j))
  | .str i, .str j => some (decide (i = j))
  | .bl i, .bl j => some (decide (i = j))
  | .non, .non => some true
  | .non, .int _ => some false | .int _, .non => some false
  | .non, .bl _ => some false | .bl _, .non => some false
  | .non, .str _ => some false | .str _, .non => some false
  | .int _, .str _ => some false | .str _, .int _ => some false
  | .bl _, .str _ => some false | .str _, .bl _ => some false
  | _, _ => none
def eqP (x y : PV) (k : Bool → Prop) : Prop := match eqF x y with
  | some b => k b
  | none => need (toD x) fun d => need (toD y) fun e => d.depth ≤ 64 ∧ e.depth ≤ 64 ∧ k (PyData.eqv d e)
def oEq : PO2 := fun x y M Q => eqP x y fun b => Q (.bl b) M
def oNe : PO2 := fun x y M Q => eqP x y fun b => Q (.bl (!b)) M
theorem eqF_scal {K : PySem.W.Frag} {F : Hp} {x y : PV} {xv yv : V} {b : Bool} (rx : R K F x xv) (ry : R K F y yv) (h : eqF x y = some b) : scal xv yv = true ∧ decide (xv = yv) = b := by
  cases rx <;> cases ry <;> first
    | (cases h; exact ⟨rfl, rfl⟩)
    | (cases h; refine ⟨rfl, ?_⟩; simp)
    | cases h
theorem shaped_of {d : PyData} (h : d.canLay0 = true) (h2 : d.depth ≤ 64) : SeqAt.shaped d = true := by
  unfold SeqAt.shaped
  rw [h, decide_eq_true h2]
  rfl
section
variable {X : Cx} {a b c e : Expr} {ta tb tc : PTE} {pos p : Pos} {es : List Expr} {t : PTA} {x : Str}
theorem op_eqA (hu : X.A.units + 64 < cLine) : OpR X (compareOp .Eq) (fun x y H Q => rEq x y H Q ∨ rEqD X.K x y H Q) := OpR.or op_eq (op_eqD hu)
theorem op_neA (hu : X.A.units + 64 < cLine) : OpR X (compareOp .NotEq) (fun x y H Q => rNe x y H Q ∨ rNeD X.K x y H Q) := OpR.or op_ne (op_neD hu)
theorem pop_eq {K : PySem.W.Frag} : POp K (fun x y H Q => rEq x y H Q ∨ rEqD K x y H Q) oEq := by
  intro F M H x y xv yv Q Qv rm rx ry h k
  unfold oEq eqP at h
  split at h
  · rename_i b hb
    obtain ⟨h1, h2⟩ := eqF_scal rx ry hb
    exact .inl ⟨h1, k _ _ (LQ.now rm (by rw [h2]; exact .bl b) h)⟩
  · obtain ⟨d, e1, h⟩ := need_of h
    obtain ⟨e, e2, h⟩ := need_of h
    obtain ⟨h1, h2, h3⟩ := h
    obtain ⟨a1, a2⟩ := toD_dp rm.fr x xv d rx e1
    obtain ⟨b1, b2⟩ := toD_dp rm.fr y yv e ry e2
    exact .inr ⟨d, e, a1, b1, shaped_of a2 h1, shaped_of b2 h2, k _ _ (LQ.now rm (.bl _) h3)⟩
theorem pop_ne {K : PySem.W.Frag} : POp K (fun x y H Q => rNe x y H Q ∨ rNeD K x y H Q) oNe := by
  intro F M H x y xv yv Q Qv rm rx ry h k
  unfold oNe eqP at h
  split at h
  · rename_i b hb
    obtain ⟨h1, h2⟩ := eqF_scal rx ry hb
    exact .inl ⟨h1, k _ _ (LQ.now rm (by rw [h2]; exact .bl _) h)⟩
  · obtain ⟨d, e1, h⟩ := need_of h
    obtain ⟨e, e2, h⟩ := need_of h
    obtain ⟨h1, h2, h3⟩ := h
    obtain ⟨a1, a2⟩ := toD_dp rm.fr x xv d rx e1
    obtain ⟨b1, b2⟩ := toD_dp rm.fr y yv e ry e2
    exact .inr ⟨d, e, a1, b1, shaped_of a2 h1, shaped_of b2 h2, k _ _ (LQ.now rm (.bl _) h3)⟩
theorem LE.eq (hu : X.A.units + 64 < cLine) (ha : LE X a ta) (hb : LE X b tb) : LE X (.Compare a [.Eq] [b] pos) (pBin oEq ta tb) := LE.cmp (op_eqA hu) pop_eq (nomark _) ha hb
theorem LE.ne (hu : X.A.units + 64 < cLine) (ha : LE X a ta) (hb : LE X b tb) : LE X (.Compare a [.NotEq] [b] pos) (pBin oNe ta tb) := LE.cmp (op_neA hu) pop_ne (nomark _) ha hb
theorem LT.eq (hu : X.A.units + 64 < cLine) (ha : LE X a ta) (hb : LE X b tb) : LT X (.Compare a [.Eq] [b] pos) (pTest (pBin oEq ta tb)) := LT.cmp (op_eqA hu) pop_eq (nomark _) ha hb
theorem LT.ne (hu : X.A.units + 64 < cLine) (ha : LE X a ta) (hb : LE X b tb) : LT X (.Compare a [.NotEq] [b] pos) (pTest (pBin oNe ta tb)) := LT.cmp (op_neA hu) pop_ne (nomark _) ha hb

/-! ### isinstance of a built-in type -/
def tyOf (M : Mem) : PV → Option String
  | .non => some "NoneType"
  | .bl _ => some "bool"
  | .int _ => some "int"
  | .str _ => some "str"
  | .tup _ => some "tuple"
  | .lst _ => some "list"
  | .ptr a => match M a with | some (.lst _) => some "list" | _ => none
  | _ => none
def isi (M : Mem) (T : String) (x : PV) : Option Bool := (tyOf M x).bind fun n => kitB n T
def kIsi (T : String) (x : PV) (M : Mem) (Q : PQ) : Prop := need (isi M T x) fun b => Q (.bl b) M
theorem R.tyx {K : PySem.W.Frag} {F H : Hp} {M : Mem} {x : PV} {v : V} {n : String} (rm : RM K F M H) (r : R K F x v) (h : tyOf M x = some n) : TyX K H v (.type n) := by
  cases r with
  | non => cases h; exact .base .non
  | bl b => cases h; exact .base (.bl b)
  | int b => cases h; exact .base (.int b)
  | str b => cases h; exact .base (.str b)
  | ty n => cases h
  | tup q r =>
    cases h
    rcases sqT_same rm.fr q with q | ⟨o, its, k, hk, hc, _⟩
    · rcases q with q | ⟨o, q⟩
      · exact .base (.tup q)
      · exact .fTuple q
    · exact .kTuple hk hc
  | lst q r => cases h; exact .base (.lst (rm.fr _ _ q))
  | scr q r => cases h
  | obj _ _ => cases h
  | ptr a =>
    cases hm : M a with
    | none =>
      have h' : (match M a with | some (.lst _) => some "list" | _ => none) = some n := h
      rw [hm] at h'
      cases h'
    | some m =>
      have h' : (match M a with | some (.lst _) => some "list" | _ => none) = some n := h
      rw [hm] at h'
      cases m with
      | lst ys =>
        cases h'
        obtain ⟨o, e1, q⟩ := rm.mu _ _ hm
        cases q with
        | lst q => exact .base (.lst e1)
      | obj C fs => cases h'
theorem LE.isi {T : Str} {Ts : String} {py : Pos} (hg : Gl X "isinstance") (hm : X.mg "isinstance" = none) (hgT : Gl X T) (hmT : X.mg T = none) (hvT : bootBuiltins T = some (.type Ts)) (ha : LE X e ta)
    (hnT : T ≠ "__name__" := by decide) (hdT : (T == ("__debug__" : Str)) = false := by decide)
    (he : starEach [e, .Name T py] X.env = (false, eval e X.env) :: starEach [.Name T py] X.env := by rfl) (he2 : starEach [.Name T py] X.env = (false, eval (.Name T py) X.env) :: starEach [] X.env := by rfl)
    (hpl : (backTo pos (starEach [.Name T py] X.env)).any (·.1) = false := by rfl) : LE X (.Call (.Name "isinstance" p) [e, .Name T py] [] pos) (fun E σ M Q => ta E σ M fun x M1 => kIsi Ts x M1 Q) := by
  refine ⟨fun σv H σ F M Q E tk rm rs h => WE.of (pe_callB call_isi hg hm (by decide +kernel) (pa_cons WE.pe (pa_cons (pe_bltn (v := .ty Ts) hgT hmT hvT rfl hnT hdT) pa_nil he2) he) (he := he) (hpl := hpl)) ?_⟩
  refine (ha.run σv H σ F M _ E tk rm rs h).mono ?_
  rintro v H1 ⟨F1, M1, x, b1, rx, hx⟩
  obtain ⟨b, e1, h2⟩ := need_of hx
  unfold PL.isi at e1
  cases ht : tyOf M1 x with
  | none => rw [ht] at e1; cases e1
  | some n =>
    rw [ht] at e1
    exact ⟨v, .ty Ts, _, _, b, rfl, .ty _, rx.tyx b1.rm ht, kit_ty e1, LQ.tr b1 (LQ.now b1.rm (.bl b) h2)⟩

/-! ### fields -/
/-- the classes of the text, each with what HandS asks -/
def fldOf (M : Mem) (C : Addr) (f : Str) : PV → Option PV
  | .obj C' fs => if C' = C then fs.lookup f else none
  | .ptr a => match M a with | some (.obj C' fs) => if C' = C then fs.lookup f else none | _ => none
  | _ => none
def pFld (C : Addr) (ta : PTE) (f : Str) : PTE := fun E σ M Q => ta E σ M fun x M1 => need (fldOf M1 C f x) fun v => Q v M1
theorem fldOf_ptr {M : Mem} {C : Addr} {f : Str} {a : Addr} {fs : List (Str × PV)} (h : M a = some (.obj C fs)) : fldOf M C f (.ptr a) = fs.lookup f := by
  show (match M a with | some (.obj C' fs) => if C' = C then fs.lookup f else none | _ => none) = fs.lookup f
  rw [h]
  exact if_pos rfl
theorem fldOf_obj {M : Mem} {C : Addr} {f : Str} {fs : List (Str × PV)} : fldOf M C f (.obj C fs) = fs.lookup f := if_pos rfl
theorem R.fld {K : PySem.W.Frag} {F H : Hp} {M : Mem} {x z : PV} {v : V} {C : Addr} {f : Str} (rm : RM K F M H) (r : R K F x v) (h : fldOf M C f x = some z) : ∃ a dx vs w, v = .ref a ∧ H a = some (.ins C dx vs) ∧ vs.lookup f = some w ∧ R K F z w := by
  cases r with
  | @obj a C' dx fs vs e q =>
    have h' : (if C' = C then fs.lookup f else none) = some z := h
    split at h'
    · rename_i hC
      subst hC
      obtain ⟨w, h1, h2⟩ := q.get h'
      exact ⟨_, _, _, w, rfl, rm.fr _ _ e, h1, h2⟩
    · cases h'
  | ptr a =>
    cases hm : M a with
    | none =>
      have h' : (match M a with | some (.obj C' fs) => if C' = C then fs.lookup f else none | _ => none) = some z := h
      rw [hm] at h'
      cases h'
    | some m =>
      have h' : (match M a with | some (.obj C' fs) => if C' = C then fs.lookup f else none | _ => none) = some z := h
      rw [hm] at h'
      cases m with
      | lst ys => cases h'
      | obj C' fs =>
        dsimp only at h'
        split at h'
        · rename_i hC
          subst hC
          obtain ⟨o, e1, q⟩ := rm.mu _ _ hm
          cases q with
          | obj q =>
            obtain ⟨w, h1, h2⟩ := q.get h'
            exact ⟨_, _, _, w, rfl, e1, h1, h2⟩
        · cases h'
  | _ => cases h
theorem LE.fld {C : Addr} {f : Str} (cl : Cls X.K C) (na : NoAttr X.K C f) (ha : LE X e ta) (hb : attributeBase e f X.env (eval e X.env) = eval e X.env := by rfl) : LE X (.Attribute e f pos) (pFld C ta f) := by
  refine ⟨fun σv H σ F M Q E tk rm rs h => WE.of (pe_fld WE.pe hb) ?_⟩
  refine (ha.run σv H σ F M _ E tk rm rs h).mono ?_
  rintro v H1 ⟨F1, M1, x, b1, rx, hx⟩
  obtain ⟨z, e1, h2⟩ := need_of hx
  obtain ⟨q, dx, vs, w, rfl, e2, e3, rz⟩ := rx.fld b1.rm e1
  exact ⟨q, C, dx, vs, w, rfl, e2, cl, na, e3, LQ.tr b1 (LQ.now b1.rm rz h2)⟩
end

/-! ### what a def promises -/
abbrev PSp := List PV → Mem → PQ → PXK → Prop
def lift (K : PySem.W.Frag) (n : Nat) (sp : PSp) : Sp := fun vs H Q E => vs.length = n ∧ ∃ F M xs Qp Ep, RM K F M H ∧ RAll K F xs vs ∧ sp xs M Qp Ep ∧ (∀ v H', LQ K F M H Qp v H' → Q v H') ∧ ∀ cls d H', LX K F M H Ep cls d H' → E cls d H'
theorem lift_of {K : PySem.W.Frag} {n : Nat} {sp : PSp} {F H : Hp} {M : Mem} {xs : List PV} {vs : List V} {Q : VK} {E : XK} {Qp : PQ} {Ep : PXK} (hn : vs.length = n) (rm : RM K F M H) (rx : RAll K F xs vs) (h : sp xs M Qp Ep)
    (k : ∀ v H', LQ K F M H Qp v H' → Q v H') (kx : ∀ cls d H', LX K F M H Ep cls d H' → E cls d H') : lift K n sp vs H Q E := ⟨hn, F, M, xs, Qp, Ep, rm, rx, h, k, kx⟩
/-- a def of the text by its name -/
structure GFn (P : Program) (w : World) (K : PySem.W.Frag) (mg : Str → Option Value) (base : Heap) (x : Str) (k : Nat) (ps : List Str) (sp : PSp) : Prop where
  ex : ∃ f fd, FnOk P w K mg base (L2.CX P w) k f fd ps (lift K ps.length sp) ∧ mg x = some (.ref f) ∧ PySem.W.keepIn K (.ref f) = true ∧ Binds K fd ps []
section
variable {X : Cx} {a b c e : Expr} {ta tb tc : PTE} {pos p apos : Pos} {es : List Expr} {t : PTA} {x : Str} {k : Nat} {ps : List Str} {sp : PSp}
def pCall (sp : PSp) (t : PTA) : PTE := fun E σ M Q => t E σ M fun xs M1 => sp xs M1 Q E
theorem LE.call (G : GFn X.prog X.w X.K X.mg X.base x k ps sp) (hr : Room k X.A) (hg : Gl X x) (ha : LA X (e :: es) t) (hl : (e :: es).length = ps.length := by rfl) (hdb : (x == ("__debug__" : Str)) = false := by decide)
    (he : starEach (e :: es) X.env = (false, eval e X.env) :: starEach es X.env := by rfl) (hpl : (backTo pos (starEach es X.env)).any (·.1) = false := by rfl) : LE X (.Call (.Name x p) (e :: es) [] pos) (pCall sp t) := by
  obtain ⟨f, fd, G, hm, hk, hb⟩ := G.ex
  refine ⟨fun σv H σ F M Q E tk rm rs h => WE.of (pe_call (E := LX X.K F M H E) G hr hg hm hk hb .nil (passes_call tk fun _ _ _ _ z => z) WA.pa hdb he hpl) ?_⟩
  refine (ha.run σv H σ F M _ E tk rm rs h).mono ?_
  rintro vs H1 ⟨hl1, F1, M1, xs, b1, rx, hx⟩
  rw [List.append_nil]
  exact lift_of (by rw [hl1, hl]) b1.rm rx hx (fun v H' q => q.tr b1) fun cls d H' q => q.tr b1
/-- a method of a class of the text -/
structure GMt (P : Program) (w : World) (K : PySem.W.Frag) (mg : Str → Option Value) (base : Heap) (C : Addr) (m : Str) (k : Nat) (ps : List Str) (sp : PSp) : Prop where
  ex : ∃ f fd, FnOk P w K mg base (L2.CX P w) k f fd ps (lift K ps.length sp) ∧ Meth K C m f ∧ Binds K fd ps []
def objOf (M : Mem) (C : Addr) : PV → Option (List (Str × PV))
  | .obj C' fs => if C' = C then some fs else none
  | .ptr a => match M a with | some (.obj C' fs) => if C' = C then some fs else none | _ => none
  | _ => none
theorem objOf_ptr {M : Mem} {C : Addr} {a : Addr} {fs : List (Str × PV)} (h : M a = some (.obj C fs)) : objOf M C (.ptr a) = some fs := by
  show (match M a with | some (.obj C' fs) => if C' = C then some fs else none | _ => none) = some fs
  rw [h]
  exact if_pos rfl
theorem objOf_obj {M : Mem} {C : Addr} {fs : List (Str × PV)} : objOf M C (.obj C fs) = some fs := if_pos rfl
theorem R.objI {K : PySem.W.Frag} {F H : Hp} {M : Mem} {x : PV} {v : V} {C : Addr} {fs : List (Str × PV)} (rm : RM K F M H) (r : R K F x v) (h : objOf M C x = some fs) : ∃ a dx vs, v = .ref a ∧ H a = some (.ins C dx vs) ∧ RFs K F fs vs := by
  cases r with
  | @obj a C' dx gs vs e q =>
    have h' : (if C' = C then some gs else none) = some fs := h
    split at h'
    · rename_i hC
      subst hC
      cases h'
      exact ⟨_, _, _, rfl, rm.fr _ _ e, q⟩
    · cases h'
  | ptr a =>
    cases hm : M a with
    | none =>
      have h' : (match M a with | some (.obj C' fs) => if C' = C then some fs else none | _ => none) = some fs := h
      rw [hm] at h'
      cases h'
    | some m =>
      have h' : (match M a with | some (.obj C' fs) => if C' = C then some fs else none | _ => none) = some fs := h
      rw [hm] at h'
      cases m with
      | lst ys => cases h'
      | obj C' fs =>
        dsimp only at h'
        split at h'
        · rename_i hC
          subst hC
          cases h'
          obtain ⟨o, e1, q⟩ := rm.mu _ _ hm
          cases q with
          | obj q => exact ⟨_, _, _, rfl, e1, q⟩
        · cases h'
  | _ => cases h
def pMeth (C : Addr) (m : Str) (sp : PSp) (ta : PTE) (t : PTA) : PTE := fun E σ M Q => ta E σ M fun x M1 => need (objOf M1 C x) fun fs => fs.lookup m = none ∧ t E σ M1 fun xs M2 => sp (x :: xs) M2 Q E
theorem LE.meth {C : Addr} {m : Str} {pl : Sem Bool} {o : Expr} (G : GMt X.prog X.w X.K X.mg X.base C m k ps sp) (cl : Cls X.K C) (hr : Room k X.A) (ho : LE X o ta) (ha : LA X (e :: es) t) (hl : (e :: es).length + 1 = ps.length := by rfl)
    (hst : starEach (e :: es) X.env = (false, eval e X.env) :: starEach es X.env := by rfl) (hpl : (backTo pos (starEach es X.env)).any (·.1) = false := by rfl)
    (ht : eval (.Call (.Attribute o m apos) (e :: es) [] pos) X.env = (do
      let ov ← eval o X.env
      standAt apos.atName
      let (f, first) ← holding [ov] (getMethod ov m pl)
      callWith pos f first (backTo pos (starEach (e :: es) X.env)) (backToKw pos (keywordEach [] X.env))) := by rfl) : LE X (.Call (.Attribute o m apos) (e :: es) [] pos) (pMeth C m sp ta t) := by
  obtain ⟨f, fd, G, hm, hb⟩ := G.ex
  refine ⟨fun σv H σ F M Q E tk rm rs h => WE.of (pe_meth (pl := pl) (E := LX X.K F M H E) WE.pe cl hm G hr hb .nil (passes_call tk fun _ _ _ _ z => z) WA.pa hst hpl ht) ?_⟩
  refine (ho.run σv H σ F M _ E tk rm rs h).mono ?_
  rintro v H1 ⟨F1, M1, x, b1, rx, hx⟩
  obtain ⟨fs, e1, hn, h2⟩ := need_of hx
  obtain ⟨q, dx, vs, rfl, e2, rf⟩ := rx.objI b1.rm e1
  refine ⟨q, dx, vs, rfl, e2, rf.none hn, ?_⟩
  refine (ha.run σv H1 σ F1 M1 _ E (tk.tr b1) b1.rm (rs.same b1.sm) h2).mono ?_
  rintro ws H2 ⟨hl1, F2, M2, xs, b2, rxs, hxs⟩
  rw [List.append_nil]
  exact lift_of (by rw [List.length_cons, hl1, hl]) b2.rm (.cons (rx.same b2.sm) rxs) hxs (fun v H' q => q.tr (b1.trans b2)) fun cls d H' q => q.tr (b1.trans b2)
theorem LE.meth0 {C : Addr} {m : Str} {pl : Sem Bool} {o : Expr} (G : GMt X.prog X.w X.K X.mg X.base C m k ps sp) (cl : Cls X.K C) (hr : Room k X.A) (ho : LE X o ta) (hl : 1 = ps.length := by rfl)
    (ht : eval (.Call (.Attribute o m apos) [] [] pos) X.env = (do
      let ov ← eval o X.env
      standAt apos.atName
      let (f, first) ← holding [ov] (getMethod ov m pl)
      callWith pos f first (backTo pos (starEach [] X.env)) (backToKw pos (keywordEach [] X.env))) := by rfl) : LE X (.Call (.Attribute o m apos) [] [] pos) (pMeth C m sp ta pNil) := by
  obtain ⟨f, fd, G, hm, hb⟩ := G.ex
  refine ⟨fun σv H σ F M Q E tk rm rs h => WE.of (pe_meth0 (pl := pl) (E := LX X.K F M H E) WE.pe cl hm G hr hb .nil (passes_call tk fun _ _ _ _ z => z) ht) ?_⟩
  refine (ho.run σv H σ F M _ E tk rm rs h).mono ?_
  rintro v H1 ⟨F1, M1, x, b1, rx, hx⟩
  obtain ⟨fs, e1, hn, h2⟩ := need_of hx
  obtain ⟨q, dx, vs, rfl, e2, rf⟩ := rx.objI b1.rm e1
  refine ⟨q, dx, vs, rfl, e2, rf.none hn, ?_⟩
  exact lift_of hl b1.rm (.cons rx .nil) h2 (fun v H' q => q.tr b1) fun cls d H' q => q.tr b1
/-- a class of the text that is made by its __init__ -/
structure GMk (P : Program) (w : World) (K : PySem.W.Frag) (mg : Str → Option Value) (base : Heap) (x : Str) (C : Addr) (k : Nat) (ps : List Str) (sp : PSp) : Prop where
  ex : ∃ f fd, FnOk P w K mg base (L2.CX P w) k f fd ps (lift K ps.length sp) ∧ mg x = some (.ref C) ∧ Mk K C f ∧ Binds K fd ps []
/-- made, and from then on never changed -/
def pMake (C : Addr) (sp : PSp) (t : PTA) : PTE := fun E σ M Q => t E σ M fun xs M1 => ∀ p, M1 p = none → sp (.ptr p :: xs) (M1.put p (.obj C [])) (fun r M2 => isNon r = true ∧ match M2 p with | some (.obj C' fs) => C' = C ∧ Q (.obj C fs) (M2.drop p) | _ => False) E
theorem LE.make {C : Addr} (G : GMk X.prog X.w X.K X.mg X.base x C k ps sp) (hr : Room (k + 1) X.A) (hg : Gl X x) (ha : LA X (e :: es) t) (hl : (e :: es).length + 1 = ps.length := by rfl) (hdb : (x == ("__debug__" : Str)) = false := by decide)
    (he : starEach (e :: es) X.env = (false, eval e X.env) :: starEach es X.env := by rfl) (hpl : (backTo pos (starEach es X.env)).any (·.1) = false := by rfl) : LE X (.Call (.Name x p) (e :: es) [] pos) (pMake C sp t) := by
  obtain ⟨f, fd, G, hm, mk, hb⟩ := G.ex
  refine ⟨fun σv H σ F M Q E tk rm rs h => WE.of (pe_make (E := LX X.K F M H E) mk G hr hg hm hb .nil (passes_call tk fun _ _ _ _ z => z) WA.pa hdb he hpl) ?_⟩
  refine (ha.run σv H σ F M _ E tk rm rs h).mono ?_
  rintro vs H1 ⟨hl1, F1, M1, xs, b1, rx, hx⟩
  intro q dx nq ndx ne
  rw [List.append_nil]
  have c1 : Beh X.K F1 M1 H1 (upd F1 dx (.own q)) M1 (upd H1 dx (.own q)) := b1.rm.beh ndx
  have nq' : upd H1 dx (.own q) q = none := by rw [upd_ne (Ne.symm ne)]; exact nq
  have c2 := c1.rm.behNew (m := .obj C []) (o := .ins C dx []) nq' (.obj .nil)
  have c := b1.trans (c1.trans c2)
  refine lift_of (by rw [List.length_cons, hl1, hl]) c2.rm (.cons (.ptr q) (rx.same (c1.trans c2).sm)) (hx q (b1.rm.nones nq).2) (fun v H' z => ?_) fun cls d H' q => q.tr c
  obtain ⟨F2, M2, r, b2, rr, hz, h2⟩ := z
  refine ⟨?_, ?_⟩
  · have := rr.isNon
    rw [hz] at this
    exact of_decide_eq_true this
  · cases hm2 : M2 q with
    | none => rw [hm2] at h2; exact h2.elim
    | some mo =>
      rw [hm2] at h2
      cases mo with
      | lst ys => exact h2.elim
      | obj C' fs =>
        obtain ⟨hC, h3⟩ := h2
        subst hC
        obtain ⟨o, s1, s4⟩ := b2.rm.behFreeze hm2
        cases s4 with
        | obj s4 => exact ⟨_, _, _, c.trans (b2.trans s1), .obj upd_same (s4.same s1.sm), h3⟩
end
end PL
set_option Elab.async false
set_option linter.all false
set_option maxRecDepth 100000
namespace PL
open PySem PySem.Spec PyProof.Rows L2

abbrev PNx := PSt → Mem → Prop
structure PEnds where
  nx : PNx
  rt : PQ
  ex : PXK
  bk : PNx := fun _ _ => False
  ct : PNx := fun _ _ => False
abbrev PTS := PEnds → PSt → Mem → Prop
def LN (K : PySem.W.Frag) (F : Hp) (M : Mem) (H : Hp) (Q : PNx) : L2.St → Hp → Prop := fun σv' H' => ∃ F' M' σ', Beh K F M H F' M' H' ∧ RS K F' σ' σv' ∧ Q σ' M'
theorem LN.tr {K : PySem.W.Frag} {F F1 H H1 : Hp} {M M1 : Mem} {Q : PNx} (b : Beh K F M H F1 M1 H1) {v : L2.St} {H2 : Hp} : LN K F1 M1 H1 Q v H2 → LN K F M H Q v H2
  | ⟨F2, M2, x, b2, r, q⟩ => ⟨F2, M2, x, b.trans b2, r, q⟩
def LD (K : PySem.W.Frag) (F : Hp) (M : Mem) (H : Hp) (D : PEnds) : Ends := { nx := LN K F M H D.nx, rt := LQ K F M H D.rt, bk := LN K F M H D.bk, ct := LN K F M H D.ct }
def WS (X : Cx) (st : Stmt) : TS := fun D σ H => ∀ pins s, Inv X pins σ H s → wpAny (model X.prog X.w) X.A (exec st X.env) (SP X pins D) X.xe s
def WSs (X : Cx) (st : List Stmt) : TS := fun D σ H => ∀ pins s, Inv X pins σ H s → wpAny (model X.prog X.w) X.A (execs st X.env) (SP X pins D) X.xe s
theorem WS.ps {X : Cx} {st : Stmt} : PS X st (WS X st) := ⟨fun pins s σ H D I h => h pins s I⟩
theorem WSs.ps {X : Cx} {st : List Stmt} : PSs X st (WSs X st) := ⟨fun pins s σ H D I h => h pins s I⟩
theorem WS.of {X : Cx} {st : Stmt} {t : TS} (p : PS X st t) {D : Ends} {σ : L2.St} {H : Hp} (h : t D σ H) : WS X st D σ H := fun pins s I => p.run pins s σ H D I h
theorem WSs.of {X : Cx} {st : List Stmt} {t : TS} (p : PSs X st t) {D : Ends} {σ : L2.St} {H : Hp} (h : t D σ H) : WSs X st D σ H := fun pins s I => p.run pins s σ H D I h
structure Ends.Le (D D' : Ends) : Prop where
  nx : ∀ σ H, D.nx σ H → D'.nx σ H
  rt : ∀ v H, D.rt v H → D'.rt v H
  bk : ∀ σ H, D.bk σ H → D'.bk σ H
  ct : ∀ σ H, D.ct σ H → D'.ct σ H
theorem SP.mono {X : Cx} {pins : List (Addr × Obj)} {D D' : Ends} (m : Ends.Le D D') {f : Flow} {s' : Shared} (h : SP X pins D f s') : SP X pins D' f s' := by
  cases f with
  | next => obtain ⟨σ, H, I, q⟩ := h; exact ⟨σ, H, I, m.nx _ _ q⟩
  | brk => obtain ⟨σ, H, I, q⟩ := h; exact ⟨σ, H, I, m.bk _ _ q⟩
  | cont => obtain ⟨σ, H, I, q⟩ := h; exact ⟨σ, H, I, m.ct _ _ q⟩
  | ret u => obtain ⟨v, σ, H, I, r, q⟩ := h; exact ⟨v, σ, H, I, r, m.rt _ _ q⟩
theorem WS.mono {X : Cx} {st : Stmt} {D D' : Ends} {σ : L2.St} {H : Hp} (h : WS X st D σ H) (m : Ends.Le D D') : WS X st D' σ H := fun pins s I => thn (h pins s I) fun _ _ q => SP.mono m q
theorem WSs.mono {X : Cx} {st : List Stmt} {D D' : Ends} {σ : L2.St} {H : Hp} (h : WSs X st D σ H) (m : Ends.Le D D') : WSs X st D' σ H := fun pins s I => thn (h pins s I) fun _ _ q => SP.mono m q
theorem LD.tr {K : PySem.W.Frag} {F F1 H H1 : Hp} {M M1 : Mem} {D : PEnds} (b : Beh K F M H F1 M1 H1) : Ends.Le (LD K F1 M1 H1 D) (LD K F M H D) := ⟨fun _ _ q => q.tr b, fun _ _ q => q.tr b, fun _ _ q => q.tr b, fun _ _ q => q.tr b⟩
structure LS (X : Cx) (st : Stmt) (t : PTS) : Prop where
  run : ∀ (σv : L2.St) (H : Hp) (σ : PSt) (F : Hp) (M : Mem) (D : PEnds), PTk X F M H D.ex → RM X.K F M H → RS X.K F σ σv → t D σ M → WS X st (LD X.K F M H D) σv H
structure LSs (X : Cx) (st : List Stmt) (t : PTS) : Prop where
  run : ∀ (σv : L2.St) (H : Hp) (σ : PSt) (F : Hp) (M : Mem) (D : PEnds), PTk X F M H D.ex → RM X.K F M H → RS X.K F σ σv → t D σ M → WSs X st (LD X.K F M H D) σv H

/-! ### targets -/
abbrev PTG := PV → PSt → Mem → PNx → Prop
def WG (X : Cx) (tg : Expr) : TG := fun v σ H Q => ∀ pins s u, Inv X pins σ H s → RelV v u → wpAny (model X.prog X.w) X.A (assign tg X.env u) (fun _ s' => ∃ σ' H', Inv X pins σ' H' s' ∧ Q σ' H') X.xe s
theorem WG.pg {X : Cx} {tg : Expr} : PG X tg (WG X tg) := ⟨fun pins s σ H v u Q I r h => h pins s u I r⟩
theorem WG.of {X : Cx} {tg : Expr} {g : TG} (p : PG X tg g) {v : V} {σ : L2.St} {H : Hp} {Q : L2.St → Hp → Prop} (h : g v σ H Q) : WG X tg v σ H Q := fun pins s u I r => p.run pins s σ H v u Q I r h
theorem WG.mono {X : Cx} {tg : Expr} {v : V} {σ : L2.St} {H : Hp} {Q Q' : L2.St → Hp → Prop} (h : WG X tg v σ H Q) (m : ∀ σ H, Q σ H → Q' σ H) : WG X tg v σ H Q' := fun pins s u I r => thn (h pins s u I r) fun _ _ ⟨σ', H', I', q⟩ => ⟨σ', H', I', m _ _ q⟩
structure LG (X : Cx) (tg : Expr) (g : PTG) : Prop where
  run : ∀ (σv : L2.St) (H : Hp) (σ : PSt) (F : Hp) (M : Mem) (x : PV) (v : V) (Q : PNx), RM X.K F M H → RS X.K F σ σv → R X.K F x v → g x σ M Q → WG X tg v σv H (LN X.K F M H Q)
abbrev PTGs := List PV → PSt → Mem → PNx → Prop
def WGs (X : Cx) (ts : List Expr) : TGs := fun vs σ H Q => ∀ pins s us, Inv X pins σ H s → Vals vs us → wpAny (model X.prog X.w) X.A (assignInOrder ((assignEach ts X.env).map (·.2)) us) (fun _ s' => ∃ σ' H', Inv X pins σ' H' s' ∧ Q σ' H') X.xe s
theorem WGs.pg {X : Cx} {ts : List Expr} : PGs X ts (WGs X ts) := ⟨fun pins s σ H v u Q I r h => h pins s u I r⟩
theorem WGs.of {X : Cx} {ts : List Expr} {g : TGs} (p : PGs X ts g) {v : List V} {σ : L2.St} {H : Hp} {Q : L2.St → Hp → Prop} (h : g v σ H Q) : WGs X ts v σ H Q := fun pins s u I r => p.run pins s σ H v u Q I r h
theorem WGs.mono {X : Cx} {tg : List Expr} {v : List V} {σ : L2.St} {H : Hp} {Q Q' : L2.St → Hp → Prop} (h : WGs X tg v σ H Q) (m : ∀ σ H, Q σ H → Q' σ H) : WGs X tg v σ H Q' := fun pins s u I r => thn (h pins s u I r) fun _ _ ⟨σ', H', I', q⟩ => ⟨σ', H', I', m _ _ q⟩
structure LGs (X : Cx) (ts : List Expr) (g : PTGs) : Prop where
  run : ∀ (σv : L2.St) (H : Hp) (σ : PSt) (F : Hp) (M : Mem) (xs : List PV) (vs : List V) (Q : PNx), RM X.K F M H → RS X.K F σ σv → RAll X.K F xs vs → g xs σ M Q → WGs X ts vs σv H (LN X.K F M H Q)
section
variable {X : Cx} {a b c e o i : Expr} {ta tb tc to ti te : PTE} {pos pos' p : Pos} {es : List Expr} {x : Str}
def gpName (i : Nat) : PTG := fun x σ M Q => Q (σ.set i (some x)) M
theorem LG.name (i : Nat) (hN : X.N.Nodup) (hi : X.N[i]? = some x := by rfl) (hx : Loc X.env.scope x := by first | exact .inl rfl | exact .inr rfl) (hf : X.fn x = true ∨ X.env.scope.names.lookup x = some .local := by first | exact .inl rfl | exact .inr rfl) : LG X (.Name x pos) (gpName i) :=
  ⟨fun σv H σ F M x v Q rm rs r h => WG.of (pg_name hN hi hx hf) ⟨F, M, _, Beh.refl rm, rs.set i r, h⟩⟩
def gpNil : PTGs := fun xs σ M Q => match xs with | [] => Q σ M | _ => False
def gpCons (t : PTG) (u : PTGs) : PTGs := fun xs σ M Q => match xs with | x :: r => t x σ M fun σ' M' => u r σ' M' Q | [] => False
theorem LGs.nil : LGs X [] gpNil := by
  refine ⟨fun σv H σ F M xs vs Q rm rs r h => WGs.of pgs_nil ?_⟩
  cases r with
  | nil => exact ⟨rfl, F, M, σ, Beh.refl rm, rs, h⟩
  | cons _ _ => exact h.elim
theorem LGs.cons {g : PTG} {gs : PTGs} (h1 : LG X e g) (h2 : LGs X es gs) (hs : (assignEach (e :: es) X.env).map (·.2) = assign e X.env :: (assignEach es X.env).map (·.2) := by rfl) : LGs X (e :: es) (gpCons g gs) := by
  refine ⟨fun σv H σ F M xs vs Q rm rs r h => WGs.of (pgs_cons WG.pg WGs.pg hs) ?_⟩
  cases r with
  | nil => exact h.elim
  | cons r t =>
    refine ⟨_, _, rfl, ?_⟩
    refine (h1.run σv H σ F M _ _ _ rm rs r h).mono ?_
    rintro σv1 H1 ⟨F1, M1, σ1, b1, rs1, h1⟩
    exact (h2.run σv1 H1 σ1 F1 M1 _ _ Q b1.rm rs1 (t.same b1.sm) h1).mono fun _ _ q => q.tr b1
def gpTup (n : Nat) (u : PTGs) : PTG := fun x σ M Q => match x with | .tup xs => xs.length = n ∧ u xs σ M Q | _ => False
theorem LG.tup {k n : Nat} {gs : PTGs} (hc : X.calm = true) (h : LGs X es gs) (hn : (assignEach es X.env).length = n := by rfl) (hst : (assignEach es X.env).findIdx? (·.1) = none := by rfl) : LG X (.Tuple es k pos) (gpTup n gs) := by
  refine ⟨fun σv H σ F M x v Q rm rs r hh => WG.of (pg_tup hc WGs.pg hn hst) ?_⟩
  unfold gpTup at hh
  split at hh
  · cases r with
    | tup q r =>
      refine ⟨_, _, rfl, sqT_same rm.fr q, by rw [← r.length]; exact hh.1, ?_⟩
      exact h.run σv H σ F M _ _ Q rm rs r hh.2
  · exact hh.elim
/-- o[i] = x of a list that may change -/
def kSet (o i x : PV) (M : Mem) (Q : Mem → Prop) : Prop := match o, i with
  | .ptr p, .int k => match M p with
    | some (.lst xs) => need (ixN xs.length k) fun j => Q (M.put p (.lst (xs.set j x)))
    | _ => False
  | _, _ => False
def gpSub (to ti : PTE) : PTG := fun x σ M Q => to noX σ M fun o M1 => ti noX σ M1 fun i M2 => kSet o i x M2 fun M3 => Q σ M3
theorem LG.sub (ho : LE X o to) (hi : LE X i ti) (ha : ∀ v, assign (.Subscript o i pos) X.env v = (do
      let ov ← holding [v] (eval o X.env)
      let iv ← holding [v, ov] (eval i X.env)
      standAt pos
      holding [v, ov, iv] (setItem ov iv v)
      release [v, ov, iv] []) := by intro _; rfl) : LG X (.Subscript o i pos) (gpSub to ti) := by
  refine ⟨fun σv H σ F M x v Q rm rs r h => WG.of (pg_sub WE.pe WE.pe set_list ha) ?_⟩
  refine seq2 (k := fun o i M2 => kSet o i x M2 fun M3 => Q σ M3) ho hi PTk.no rm rs h fun o i ov iv F2 M2 H2 bh ro ri h2 => ?_
  unfold kSet at h2
  split at h2
  · rename_i p k
    cases ro
    cases ri
    cases hm : M2 p with
    | none => rw [hm] at h2; exact h2.elim
    | some mo =>
      rw [hm] at h2
      cases mo with
      | obj C fs => exact h2.elim
      | lst xs =>
        obtain ⟨j, e1, h3⟩ := need_of h2
        obtain ⟨u, e2, ru⟩ := bh.rm.mu _ _ hm
        cases ru with
        | lst ru =>
          refine ⟨p, _, k, j, rfl, rfl, e2, by rw [← ru.length]; exact e1, ?_⟩
          have b3 := bh.rm.behWrite (o := .lst _) hm (.lst (RAll.set (r.same bh.sm) j ru))
          exact ⟨F2, _, σ, bh.trans b3, rs.same bh.sm, h3⟩
  · exact h2.elim
end

/-! ### blocks and small statements -/
section
variable {X : Cx} {st : Stmt} {sts rest body : List Stmt} {t u : PTS} {a b c e o i : Expr} {ta tb tc te tv : PTE} {tt : PTT} {pos pos' p : Pos} {es : List Expr} {x : Str} {g : PTG}
def pNext : PTS := fun D σ M => D.nx σ M
def pSeq (t u : PTS) : PTS := fun D σ M => t { D with nx := u D } σ M
theorem LSs.nil : LSs X [] pNext := ⟨fun σv H σ F M D tk rm rs h => WSs.of pss_nil ⟨F, M, σ, Beh.refl rm, rs, h⟩⟩
theorem LSs.cons (h1 : LS X st t) (h2 : LSs X rest u) : LSs X (st :: rest) (pSeq t u) := by
  refine ⟨fun σv H σ F M D tk rm rs h => WSs.of (pss_cons WS.ps WSs.ps) ?_⟩
  refine (h1.run σv H σ F M { D with nx := u D } tk rm rs h).mono ⟨?_, fun _ _ q => q, fun _ _ q => q, fun _ _ q => q⟩
  rintro σv1 H1 ⟨F1, M1, σ1, b1, rs1, q1⟩
  exact (h2.run σv1 H1 σ1 F1 M1 D (tk.tr b1) b1.rm rs1 q1).mono (LD.tr b1)
theorem LSs.one (h1 : LS X st t) : LSs X [st] t := ⟨fun σv H σ F M D tk rm rs h => WSs.of (pss_one WS.ps) (h1.run σv H σ F M D tk rm rs h)⟩
def pBreak : PTS := fun D σ M => D.bk σ M
def pCont : PTS := fun D σ M => D.ct σ M
theorem LS.pass : LS X (.Pass pos) pNext := ⟨fun σv H σ F M D tk rm rs h => WS.of ps_pass ⟨F, M, σ, Beh.refl rm, rs, h⟩⟩
theorem LS.brk : LS X (.Break pos) pBreak := ⟨fun σv H σ F M D tk rm rs h => WS.of ps_break ⟨F, M, σ, Beh.refl rm, rs, h⟩⟩
theorem LS.cont : LS X (.Continue pos) pCont := ⟨fun σv H σ F M D tk rm rs h => WS.of ps_continue ⟨F, M, σ, Beh.refl rm, rs, h⟩⟩
def pNever : PTS := fun _ _ _ => False
theorem LS.never : LS X st pNever := ⟨fun σv H σ F M D tk rm rs h => h.elim⟩
theorem LSs.never : LSs X sts pNever := ⟨fun σv H σ F M D tk rm rs h => h.elim⟩
def pDrop (te : PTE) : PTS := fun D σ M => te D.ex σ M fun _ M1 => D.nx σ M1
theorem LS.expr (he : LE X e te) (hs : swapsWith e none pos.line X.env = pure false := by rfl) : LS X (.Expr e pos) (pDrop te) := by
  refine ⟨fun σv H σ F M D tk rm rs h => WS.of (ps_expr WE.pe hs) ?_⟩
  refine (he.run σv H σ F M _ D.ex tk rm rs h).mono ?_
  rintro v H1 ⟨F1, M1, x, b1, rx, hx⟩
  exact ⟨F1, M1, σ, b1, rs.same b1.sm, hx⟩
def pRet (te : PTE) : PTS := fun D σ M => te D.ex σ M D.rt
theorem LS.ret (he : LE X e te) : LS X (.Return (some e) pos) (pRet te) := ⟨fun σv H σ F M D tk rm rs h => WS.of (ps_ret WE.pe) (he.run σv H σ F M _ D.ex tk rm rs h)⟩
def pRetN : PTS := fun D _ M => D.rt .non M
theorem LS.retN : LS X (.Return none pos) pRetN := ⟨fun σv H σ F M D tk rm rs h => WS.of ps_retN ⟨F, M, .non, Beh.refl rm, .non, h⟩⟩
/-- what is handed back never changes from now on -/
def kFz (x : PV) (M : Mem) (Q : PQ) : Prop := match x with
  | .ptr p => match M p with | some (.lst xs) => Q (.lst xs) (M.drop p) | some (.obj C fs) => Q (.obj C fs) (M.drop p) | none => False
  | _ => False
theorem R.fz {K : PySem.W.Frag} {F H : Hp} {M : Mem} {x : PV} {v : V} {Q : PQ} (rm : RM K F M H) (r : R K F x v) (h : kFz x M Q) : LQ K F M H Q v H := by
  unfold kFz at h
  split at h
  · rename_i p
    cases r
    split at h
    · rename_i xs hm
      obtain ⟨o, b, q⟩ := rm.behFreeze hm
      cases q with
      | lst q => exact ⟨_, _, _, b, .lst upd_same (q.same b.sm), h⟩
    · rename_i C fs hm
      obtain ⟨o, b, q⟩ := rm.behFreeze hm
      cases q with
      | obj q => exact ⟨_, _, _, b, .obj upd_same (q.same b.sm), h⟩
    · exact h.elim
  · exact h.elim
def pRetF (te : PTE) : PTS := fun D σ M => te D.ex σ M fun x M1 => kFz x M1 D.rt
theorem LS.retF (he : LE X e te) : LS X (.Return (some e) pos) (pRetF te) := by
  refine ⟨fun σv H σ F M D tk rm rs h => WS.of (ps_ret WE.pe) ?_⟩
  refine (he.run σv H σ F M _ D.ex tk rm rs h).mono ?_
  rintro v H1 ⟨F1, M1, x, b1, rx, hx⟩
  exact (rx.fz b1.rm hx).tr b1
/-- the list in a slot never changes from now on -/
def pFz (i : Nat) (t : PTS) : PTS := fun D σ M => match σ[i]? with
  | some (some x) => kFz x M fun y M1 => t D (σ.set i (some y)) M1
  | _ => False
theorem LSs.fz (i : Nat) (h : LSs X sts t) : LSs X sts (pFz i t) := by
  refine ⟨fun σv H σ F M D tk rm rs hh => ?_⟩
  unfold pFz at hh
  split at hh
  · rename_i x hx
    obtain ⟨v, e1, r⟩ := rs.at_ i x hx
    obtain ⟨F1, M1, y, b1, ry, h1⟩ := r.fz rm hh
    have rs1 : RS X.K F1 (σ.set i (some y)) σv := by
      have q := (rs.same b1.sm).set i ry
      have hl : i < σv.length := (List.getElem?_eq_some_iff.mp e1).1
      have e2 : σv.set i (some v) = σv := by
        have e3 : σv[i] = some v := Option.some.inj ((List.getElem?_eq_getElem hl).symm.trans e1)
        rw [← e3, List.set_getElem_self]
      rw [e2] at q
      exact q
    exact (h.run σv H _ F1 M1 D (tk.tr b1) b1.rm rs1 h1).mono (LD.tr b1)
  · exact hh.elim
/-- what is in the store at a slot's place is forgotten -/
def pDropAt (i : Nat) (t : PTS) : PTS := fun D σ M => match σ[i]? with
  | some (some (.ptr p)) => t D σ (M.drop p)
  | _ => False
theorem LSs.dropAt (i : Nat) (h : LSs X sts t) : LSs X sts (pDropAt i t) := by
  refine ⟨fun σv H σ F M D tk rm rs hh => ?_⟩
  unfold pDropAt at hh
  split at hh
  · rename_i p hx
    have b1 := rm.behDrop (p := p)
    exact (h.run σv H _ F _ D (tk.tr b1) b1.rm (rs.same b1.sm) hh).mono (LD.tr b1)
  · exact hh.elim
def pIfS (c : PTT) (t u : PTS) : PTS := fun D σ M => c D.ex σ M fun b M1 => if b = true then t D σ M1 else u D σ M1
theorem LS.ite {as bs : List Stmt} (hc : LT X c tt) (ha : LSs X as t) (hb : LSs X bs u) : LS X (.If c as bs pos) (pIfS tt t u) := by
  refine ⟨fun σv H σ F M D tk rm rs h => WS.of (ps_if WT.pt WSs.ps WSs.ps) ?_⟩
  refine (hc.run σv H σ F M _ D.ex tk rm rs h).mono ?_
  rintro b H1 ⟨F1, M1, b1, hx⟩
  split
  · rename_i e
    rw [if_pos e] at hx
    exact (ha.run σv H1 σ F1 M1 D (tk.tr b1) b1.rm (rs.same b1.sm) hx).mono (LD.tr b1)
  · rename_i e
    rw [if_neg e] at hx
    exact (hb.run σv H1 σ F1 M1 D (tk.tr b1) b1.rm (rs.same b1.sm) hx).mono (LD.tr b1)
def pAsg (te : PTE) (g : PTG) : PTS := fun D σ M => te D.ex σ M fun x M1 => g x σ M1 D.nx
theorem LS.asg {tg : Expr} (he : LE X e te) (hg : LG X tg g) (hs : swapsWithSole [tg] e pos.line X.env = pure false := by rfl) (hw : swappedStores [tg] e X.env = pure none := by rfl)
    (h1 : (assignEach [tg] X.env).map (·.2) = [assign tg X.env] := by rfl) : LS X (.Assign [tg] e pos) (pAsg te g) := by
  refine ⟨fun σv H σ F M D tk rm rs h => WS.of (ps_asg WE.pe WG.pg hs hw h1) ?_⟩
  refine (he.run σv H σ F M _ D.ex tk rm rs h).mono ?_
  rintro v H1 ⟨F1, M1, x, b1, rx, hx⟩
  exact (hg.run σv H1 σ F1 M1 x v _ b1.rm (rs.same b1.sm) rx hx).mono fun _ _ q => q.tr b1
def pSet (i : Nat) (te : PTE) : PTS := fun D σ M => te D.ex σ M fun x M1 => D.nx (σ.set i (some x)) M1
theorem LS.set (i : Nat) {pos' : Pos} (hN : X.N.Nodup) (he : LE X e te) (hi : X.N[i]? = some x := by rfl) (hx : Loc X.env.scope x := by first | exact .inl rfl | exact .inr rfl) (hs : swapsWith e (some (.Name x pos')) pos.line X.env = pure false := by rfl)
    (hf : X.fn x = true ∨ X.env.scope.names.lookup x = some .local := by first | exact .inl rfl | exact .inr rfl) : LS X (.Assign [.Name x pos'] e pos) (pSet i te) := by
  refine ⟨fun σv H σ F M D tk rm rs h => WS.of (ps_set hN hi hx WE.pe hs hf) ?_⟩
  refine (he.run σv H σ F M _ D.ex tk rm rs h).mono ?_
  rintro v H1 ⟨F1, M1, x, b1, rx, hx⟩
  exact ⟨F1, M1, _, b1, (rs.same b1.sm).set i rx, hx⟩
/-- self.f = e of an object that may change -/
def kPutF (C : Addr) (f : Str) (x : PV) (o : PV) (M : Mem) (Q : Mem → Prop) : Prop := match o with
  | .ptr p => match M p with | some (.obj C' fs) => C' = C ∧ fs.length < 1000 ∧ Q (M.put p (.obj C (putP f x fs))) | _ => False
  | _ => False
def pFldS (C : Addr) (f : Str) (to tv : PTE) : PTS := fun D σ M => tv D.ex σ M fun x M1 => to D.ex σ M1 fun o M2 => kPutF C f x o M2 fun M3 => D.nx σ M3
theorem LS.fld {C : Addr} {f : Str} {to : PTE} (cl : Cls X.K C) (na : NoAttr X.K C f) (ho : LE X o to) (hv : LE X e tv) (hs : swapsWith e (some (.Attribute o f pos')) pos.line X.env = pure false := by rfl) : LS X (.Assign [.Attribute o f pos'] e pos) (pFldS C f to tv) := by
  refine ⟨fun σv H σ F M D tk rm rs h => WS.of (ps_fld WE.pe WE.pe hs) ?_⟩
  refine seq2 (k := fun x o M2 => kPutF C f x o M2 fun M3 => D.nx σ M3) hv ho tk rm rs h fun x o xv ov F2 M2 H2 bh rx ro h2 => ?_
  unfold kPutF at h2
  split at h2
  · rename_i p
    cases ro
    split at h2
    · rename_i C' fs hm
      obtain ⟨hC, hl, h3⟩ := h2
      subst hC
      obtain ⟨u, e2, ru⟩ := bh.rm.mu _ _ hm
      cases ru with
      | @obj _ dx _ vs ru =>
        refine ⟨p, _, _, _, rfl, e2, cl, na, by rw [← ru.length]; exact hl, ?_⟩
        have b3 := bh.rm.behWrite (m' := .obj C' (putP f x fs)) (o := .ins C' dx (putF f xv vs)) hm (.obj (RFs.put rx ru))
        exact ⟨F2, _, σ, bh.trans b3, rs.same bh.sm, h3⟩
    · exact h2.elim
  · exact h2.elim
/-- name op= e -/
def oIp : Operator → PO2
  | .Add => oAdd
  | .Sub => oSub
  | _ => fun _ _ _ _ => False
def pAug (i : Nat) (o : PO2) (te : PTE) : PTS := fun D σ M => match σ[i]? with
  | some (some x) => te D.ex σ M fun y M1 => o x y M1 fun z M2 => D.nx (σ.set i (some z)) M2
  | _ => False
theorem LS.aug {op : Operator} {r : R2} {po : PO2} (i : Nat) {pos' : Pos} (ho : OpR X (inplaceOp op) r) (hp : POp X.K r po) (hN : X.N.Nodup) (he : LE X e te) (hi : X.N[i]? = some x := by rfl) (hx : Loc X.env.scope x := by first | exact .inl rfl | exact .inr rfl)
    (hf : X.fn x = true ∨ X.env.scope.names.lookup x = some .local := by first | exact .inl rfl | exact .inr rfl) : LS X (.AugAssign (.Name x pos') op e pos) (pAug i po te) := by
  refine ⟨fun σv H σ F M D tk rm rs h => WS.of (ps_aug (ti := r) hN hi hx WE.pe (fun pins s σ H x y v u Q I rx ry q => ho pins s σ H x y v u Q I rx ry q) hf) ?_⟩
  unfold pAug at h
  split at h
  · rename_i y hy
    obtain ⟨v, e1, rv⟩ := rs.at_ i y hy
    refine ⟨v, e1, ?_⟩
    refine (he.run σv H σ F M _ D.ex tk rm rs h).mono ?_
    rintro w H1 ⟨F1, M1, z, b1, rz, hz⟩
    refine hp F1 M1 H1 y z v w _ _ b1.rm (rv.same b1.sm) rz hz ?_
    rintro w2 H2 ⟨F2, M2, z2, b2, rz2, hz2⟩
    exact ⟨F2, M2, _, b1.trans b2, (rs.same (b1.trans b2).sm).set i rz2, hz2⟩
  · exact h.elim
theorem LS.augAdd (i : Nat) {pos' : Pos} (hN : X.N.Nodup) (he : LE X e te) (hi : X.N[i]? = some x := by rfl) (hx : Loc X.env.scope x := by first | exact .inl rfl | exact .inr rfl)
    (hf : X.fn x = true ∨ X.env.scope.names.lookup x = some .local := by first | exact .inl rfl | exact .inr rfl) : LS X (.AugAssign (.Name x pos') .Add e pos) (pAug i (oI0 fun i j => .int (i + j)) te) := LS.aug i iop_add (pop_I0 fun _ _ _ => .int _) hN he hi hx hf
theorem LS.augSub (i : Nat) {pos' : Pos} (hN : X.N.Nodup) (he : LE X e te) (hi : X.N[i]? = some x := by rfl) (hx : Loc X.env.scope x := by first | exact .inl rfl | exact .inr rfl)
    (hf : X.fn x = true ∨ X.env.scope.names.lookup x = some .local := by first | exact .inl rfl | exact .inr rfl) : LS X (.AugAssign (.Name x pos') .Sub e pos) (pAug i oSub te) := LS.aug i iop_sub (pop_I0 fun _ _ _ => .int _) hN he hi hx hf
/-- xs.append(e) of a list that may change -/
def kApp (o x : PV) (M : Mem) (Q : PQ) : Prop := match o with
  | .ptr p => match M p with | some (.lst xs) => xs.length < sizeLine ∧ Q .non (M.put p (.lst (xs ++ [x]))) | _ => False
  | _ => False
def pApp (to te : PTE) : PTE := fun E σ M Q => to E σ M fun o M1 => lstOf M1 o ≠ none ∧ te E σ M1 fun x M2 => kApp o x M2 Q
theorem LE.app {to : PTE} {apos : Pos} (ho : LE X o to) (he : LE X e te) (hbase : attributeBase o "append" X.env (eval o X.env) = eval o X.env := by rfl)
    (hfew : ((backTo pos (starEach [e] X.env)).all (fun x => !x.1) && (backToKw pos (keywordEach [] X.env)).all (fun x => x.1.isSome) && decide ([e].length + ([] : List Keyword).length + (if ([] : List Keyword).isEmpty then 0 else 1) < 30)) = true := by rfl)
    (hline : (apos.endLine == pos.line) = true := by rfl) (hs : starEach [e] X.env = (false, eval e X.env) :: starEach [] X.env := by rfl) (hplain : (backTo pos (starEach [] X.env)).any (·.1) = false := by rfl) :
    LE X (.Call (.Attribute o "append" apos) [e] [] pos) (pApp to te) := by
  refine ⟨fun σv H σ F M Q E tk rm rs h => WE.of (pe_bm PySem.F.plainAttrs_list PySem.F.slot_list_append PySem.F.type_list_append mt_append WE.pe (pa_cons WE.pe pa_nil hs) hbase hfew hline hs hplain) ?_⟩
  refine (ho.run σv H σ F M _ E tk rm rs h).mono ?_
  rintro v H1 ⟨F1, M1, x, b1, rx, hl, hx⟩
  refine ⟨?_, ?_⟩
  · cases hq : lstOf M1 x with
    | none => exact absurd hq hl
    | some xs =>
      obtain ⟨q, ws, ev, hs, _⟩ := rx.lstI b1.rm hq
      subst ev
      exact .inl ⟨rfl, _, hs⟩
  · refine (he.run σv H1 σ F1 M1 _ E (tk.tr b1) b1.rm (rs.same b1.sm) hx).mono ?_
    rintro w H2 ⟨F2, M2, y, b2, ry, hy⟩
    unfold kApp at hy
    split at hy
    · rename_i p
      cases rx
      split at hy
      · rename_i xs hm
        obtain ⟨u, e2, ru⟩ := b2.rm.mu _ _ hm
        cases ru with
        | lst ru =>
          refine ⟨p, _, w, rfl, rfl, e2, by rw [← ru.length]; exact hy.1, ?_⟩
          have b3 := b2.rm.behWrite (o := .lst _) hm (.lst (ru.append (.cons ry .nil)))
          exact ⟨F2, _, _, (b1.trans b2).trans b3, .non, hy.2⟩
      · exact hy.elim
    · exact hy.elim
end
end PL
set_option Elab.async false
set_option linter.all false
set_option maxRecDepth 100000
namespace PL
open PySem PySem.Spec PyProof.Rows L2

/-! ### what a loop goes over -/
abbrev PTI := PXK → PSt → Mem → (List PV → Mem → Prop) → Prop
def WI (X : Cx) (tg iter : Expr) : TI := fun σ H R => ∀ pins s, Inv X pins σ H s → wpAny (model X.prog X.w) X.A (eval iter X.env) (fun v s1 => wpAny (model X.prog X.w) X.A (pyIter v) (PIE X pins σ tg R) X.xe s1) X.xe s
theorem WI.pi {X : Cx} {tg iter : Expr} : PI X tg iter (WI X tg iter) := ⟨fun pins s σ H R I h => h pins s I⟩
theorem WI.of {X : Cx} {tg iter : Expr} {wi : TI} (p : PI X tg iter wi) {σ : L2.St} {H : Hp} {R : It → Hp → Prop} (h : wi σ H R) : WI X tg iter σ H R := fun pins s I => p.run pins s σ H R I h
theorem WI.mono {X : Cx} {tg iter : Expr} {σ : L2.St} {H : Hp} {R R' : It → Hp → Prop} (h : WI X tg iter σ H R) (m : ∀ J H, R J H → R' J H) : WI X tg iter σ H R' := fun pins s I =>
  thn (h pins s I) fun _ _ h1 => thn h1 fun _ _ ⟨it, fp, tn, J, H', a, b, c, d, e, r⟩ => ⟨it, fp, tn, J, H', a, b, c, d, e, m _ _ r⟩
/-- the iterator hands out these, whatever comes -/
def Stab (K : PySem.W.Frag) (J : It) (F : Hp) (xs : List PV) : Prop := ∀ (i : Nat) (F' : Hp) (M : Mem) (H : Hp), Same F F' → RM K F' M H →
  (∀ h : i < xs.length, J.go i H ∧ ∀ v H', J.yld i H v H' → ∃ F2, Beh K F' M H F2 M H' ∧ R K F2 xs[i] v) ∧ (xs.length ≤ i → J.stop i H)
structure LI (X : Cx) (tg iter : Expr) (wi : PTI) : Prop where
  run : ∀ (σv : L2.St) (H : Hp) (σ : PSt) (F : Hp) (M : Mem) (Q : List PV → Mem → Prop) (E : PXK), PTk X F M H E → RM X.K F M H → RS X.K F σ σv → wi E σ M Q →
    WI X tg iter σv H (fun J H' => ∃ F' M' xs, Beh X.K F M H F' M' H' ∧ Stab X.K J F' xs ∧ Q xs M')
theorem stab_list {K : PySem.W.Frag} {F : Hp} {a : Addr} {xs : List PV} {vs : List V} (h : SqL K F a vs) (r : RAll K F xs vs) : Stab K (Itl K a) F xs := by
  intro i F' M H sm rm
  have hH : SqL K H a vs := rm.fr.seq (sm.seq h)
  refine ⟨fun hi => ?_, fun hi => ⟨vs, hH, by rw [← r.length]; exact hi⟩⟩
  obtain ⟨v, e, rv⟩ := r.get (List.getElem?_eq_getElem hi)
  refine ⟨⟨vs, v, hH, e⟩, fun w H' y => ?_⟩
  obtain ⟨rfl, y⟩ := y
  have e2 := y vs hH
  rw [e] at e2
  cases e2
  exact ⟨F', Beh.refl rm, rv.same sm⟩
theorem stab_tup {K : PySem.W.Frag} {F : Hp} {a : Addr} {xs : List PV} {vs : List V} (h : SqT K F a vs) (r : RAll K F xs vs) : Stab K (Itt K a) F xs := by
  intro i F' M H sm rm
  have hH : SqT K H a vs := sqT_same rm.fr (sqT_same sm h)
  refine ⟨fun hi => ?_, fun hi => ⟨vs, hH, by rw [← r.length]; exact hi⟩⟩
  obtain ⟨v, e, rv⟩ := r.get (List.getElem?_eq_getElem hi)
  refine ⟨⟨vs, v, hH, e⟩, fun w H' y => ?_⟩
  obtain ⟨rfl, y⟩ := y
  have e2 := y vs hH
  rw [e] at e2
  cases e2
  exact ⟨F', Beh.refl rm, rv.same sm⟩
/-- the ints lo, lo + 1, .. -/
def rngP (lo : Int) (n : Nat) : List PV := (List.range n).map fun (i : Nat) => PV.int (lo + i)
theorem rngP_length {lo : Int} {n : Nat} : (rngP lo n).length = n := by unfold rngP; rw [List.length_map, List.length_range]
theorem stab_rng {K : PySem.W.Frag} {F : Hp} {lo : Int} {n : Nat} : Stab K (Itr lo n) F (rngP lo n) := by
  intro i F' M H sm rm
  refine ⟨fun hi => ?_, fun hi => by rw [rngP_length] at hi; exact hi⟩
  have hn : i < n := by rw [rngP_length] at hi; exact hi
  refine ⟨hn, fun w H' y => ?_⟩
  obtain ⟨rfl, rfl⟩ := y
  refine ⟨F', Beh.refl rm, ?_⟩
  have e : (rngP lo n)[i] = PV.int (lo + i) := by simp [rngP]
  rw [e]
  exact .int _
/-- a frozen list or a tuple: which it is, is told -/
def lstF : PV → Option (List PV)
  | .lst xs => some xs
  | .scr xs => some xs
  | _ => none
def tupF : PV → Option (List PV)
  | .tup xs => some xs
  | _ => none
def piL (te : PTE) : PTI := fun E σ M Q => te E σ M fun x M1 => need (lstF x) fun xs => Q xs M1
def piT (te : PTE) : PTI := fun E σ M Q => te E σ M fun x M1 => need (tupF x) fun xs => Q xs M1
def piR1 (te : PTE) : PTI := fun E σ M Q => te E σ M fun x M1 => match x with | .int j => (-(2 ^ 62) ≤ j ∧ j < 2 ^ 62) ∧ Q (rngP 0 j.toNat) M1 | _ => False
def piR2 (ta tb : PTE) : PTI := fun E σ M Q => ta E σ M fun x M1 => tb E σ M1 fun y M2 => match x, y with | .int i, .int j => (-(2 ^ 62) ≤ i ∧ i < 2 ^ 62 ∧ -(2 ^ 62) ≤ j ∧ j < 2 ^ 62) ∧ Q (rngP i (j - i).toNat) M2 | _, _ => False
section
variable {X : Cx} {tg iter e a b : Expr} {te ta tb : PTE} {pos p : Pos}
theorem LI.list (he : LE X e te) : LI X tg e (piL te) := by
  refine ⟨fun σv H σ F M Q E tk rm rs h => WI.of (pi_list WE.pe) ?_⟩
  refine (he.run σv H σ F M _ E tk rm rs h).mono ?_
  rintro v H1 ⟨F1, M1, x, b1, rx, hx⟩
  obtain ⟨xs, e1, h2⟩ := need_of hx
  cases rx with
  | lst q r => cases e1; exact ⟨_, rfl, ⟨_, SqL.of (b1.rm.fr _ _ q)⟩, F1, M1, _, b1, stab_list (SqL.of q) r, h2⟩
  | scr q r => cases e1; exact ⟨_, rfl, ⟨_, b1.rm.fr.seq q⟩, F1, M1, _, b1, stab_list q r, h2⟩
  | _ => cases e1
theorem LI.tup (he : LE X e te) : LI X tg e (piT te) := by
  refine ⟨fun σv H σ F M Q E tk rm rs h => WI.of (pi_tup WE.pe) ?_⟩
  refine (he.run σv H σ F M _ E tk rm rs h).mono ?_
  rintro v H1 ⟨F1, M1, x, b1, rx, hx⟩
  obtain ⟨xs, e1, h2⟩ := need_of hx
  cases rx with
  | tup q r => cases e1; exact ⟨_, rfl, ⟨_, sqT_same b1.rm.fr q⟩, F1, M1, _, b1, stab_tup q r, h2⟩
  | _ => cases e1
theorem LI.rng1 (hg : Gl X "range") (hm : X.mg "range" = none) (ha : LE X a ta) (hs : starEach [a] X.env = [(false, eval a X.env)] := by rfl) : LI X tg (.Call (.Name "range" p) [a] [] pos) (piR1 ta) := by
  refine ⟨fun σv H σ F M Q E tk rm rs h => WI.of (pi_range1 hg hm (pa_cons WE.pe pa_nil hs) hs) ?_⟩
  refine (ha.run σv H σ F M _ E tk rm rs h).mono ?_
  rintro v H1 ⟨F1, M1, x, b1, rx, hx⟩
  cases rx <;> first
    | exact hx.elim
    | exact ⟨_, rfl, hx.1.1, hx.1.2, F1, M1, _, b1, stab_rng, hx.2⟩
theorem LI.rng2 (hg : Gl X "range") (hm : X.mg "range" = none) (ha : LE X a ta) (hb : LE X b tb) (hs : starEach [a, b] X.env = [(false, eval a X.env), (false, eval b X.env)] := by rfl) (hs2 : starEach [b] X.env = [(false, eval b X.env)] := by rfl) : LI X tg (.Call (.Name "range" p) [a, b] [] pos) (piR2 ta tb) := by
  refine ⟨fun σv H σ F M Q E tk rm rs h => WI.of (pi_range2 hg hm (pa_cons WE.pe (pa_cons WE.pe pa_nil hs2) (by rw [hs2]; exact hs)) hs hs2) ?_⟩
  refine seq2 (k := fun x y M2 => match x, y with | .int i, .int j => (-(2 ^ 62) ≤ i ∧ i < 2 ^ 62 ∧ -(2 ^ 62) ≤ j ∧ j < 2 ^ 62) ∧ Q (rngP i (j - i).toNat) M2 | _, _ => False) ha hb tk rm rs h fun x y xv yv F2 M2 H2 bh rx ry h2 => ?_
  cases rx <;> cases ry <;> first
    | exact h2.elim
    | exact ⟨_, _, rfl, h2.1, F2, M2, _, bh, stab_rng, h2.2⟩
end

/-! ### for, while -/
def pForL (g : PTG) (tb : PTS) : List PV → PTS
  | [] => fun D σ M => D.nx σ M
  | x :: xs => fun D σ M => g x σ M fun σ1 M1 => tb { D with nx := pForL g tb xs D, bk := D.nx, ct := pForL g tb xs D } σ1 M1
def pFor (wi : PTI) (g : PTG) (tb : PTS) : PTS := fun D σ M => wi D.ex σ M fun xs M1 => pForL g tb xs D σ M1
def pWhileN (c : PTT) (tb : PTS) : Nat → PTS
  | 0 => fun _ _ _ => False
  | n + 1 => fun D σ M => c D.ex σ M fun b M1 => if b = true then tb { D with nx := pWhileN c tb n D, bk := D.nx, ct := pWhileN c tb n D } σ M1 else D.nx σ M1
def pWhile (c : PTT) (tb : PTS) : PTS := fun D σ M => ∃ n, pWhileN c tb n D σ M
section
variable {X : Cx} {tg iter c : Expr} {body : List Stmt} {wi : PTI} {g : PTG} {tb : PTS} {tt : PTT} {pos : Pos}
theorem LS.for (hp : PassesOwn (model X.prog X.w) X.A X.env X.xe) (hc : X.calm = true) (hi : LI X tg iter wi) (hg : LG X tg g) (hb : LSs X body tb) (hs : ∀ x, foldedSetIterable iter X.env x = pure x := by intro _; rfl) : LS X (.For tg iter body [] pos) (pFor wi g tb) := by
  refine ⟨fun σv H σ F M D tk rm rs h => WS.of (ps_for hp hc WI.pi WG.pg WSs.ps hs) ?_⟩
  refine (hi.run σv H σ F M _ D.ex tk rm rs h).mono ?_
  rintro J H1 ⟨F1, M1, xs, b1, st, h1⟩
  refine ⟨fun i m σv' H' => m = xs.length - i ∧ i ≤ xs.length ∧ ∃ F' M' σ', Beh X.K F M H F' M' H' ∧ Same F1 F' ∧ RS X.K F' σ' σv' ∧ pForL g tb (xs.drop i) D σ' M', ⟨xs.length, rfl, Nat.zero_le _, F1, M1, σ, b1, Same.refl _, rs.same b1.sm, h1⟩, ?_⟩
  rintro i m σv2 H2 ⟨rfl, hi2, F2, M2, σ2, b2, sm2, rs2, h2⟩
  obtain ⟨s1, s2⟩ := st i F2 M2 H2 sm2 b2.rm
  by_cases hlt : i < xs.length
  · obtain ⟨go, yl⟩ := s1 hlt
    rw [List.drop_eq_getElem_cons hlt] at h2
    refine .inr ⟨go, _, fun σv' H' n => ⟨_, (show xs.length - (i + 1) < xs.length - i by omega), n⟩, fun v H3 y => ?_⟩
    obtain ⟨F3, b3, r3⟩ := yl v H3 y
    refine (hg.run σv2 H3 σ2 F3 M2 _ v _ b3.rm (rs2.same b3.sm) r3 h2).mono ?_
    rintro σv4 H4 ⟨F4, M4, σ4, b4, rs4, h4⟩
    have b24 := b3.trans b4
    have b04 := b2.trans b24
    refine (hb.run σv4 H4 σ4 F4 M4 { D with nx := pForL g tb (xs.drop (i + 1)) D, bk := D.nx, ct := pForL g tb (xs.drop (i + 1)) D } (tk.tr b04) b04.rm rs4 h4).mono ⟨?_, fun _ _ q => q.tr b04, fun _ _ q => q.tr b04, ?_⟩
    · rintro σv5 H5 ⟨F5, M5, σ5, b5, rs5, h5⟩
      exact ⟨rfl, hlt, F5, M5, σ5, b04.trans b5, (sm2.trans b24.sm).trans b5.sm, rs5, h5⟩
    · rintro σv5 H5 ⟨F5, M5, σ5, b5, rs5, h5⟩
      exact ⟨rfl, hlt, F5, M5, σ5, b04.trans b5, (sm2.trans b24.sm).trans b5.sm, rs5, h5⟩
  · have e : i = xs.length := by omega
    subst e
    rw [List.drop_length] at h2
    exact .inl ⟨s2 (Nat.le_refl _), F2, M2, σ2, b2, rs2, h2⟩
theorem LS.while (hp : PassesOwn (model X.prog X.w) X.A X.env X.xe) (hc : LT X c tt) (hb : LSs X body tb) : LS X (.While c body [] pos) (pWhile tt tb) := by
  refine ⟨fun σv H σ F M D tk rm rs h => WS.of (ps_while hp WT.pt WSs.ps) ?_⟩
  obtain ⟨n, h⟩ := h
  refine ⟨fun m σv' H' => ∃ F' M' σ', Beh X.K F M H F' M' H' ∧ RS X.K F' σ' σv' ∧ pWhileN tt tb m D σ' M', ⟨n, F, M, σ, Beh.refl rm, rs, h⟩, ?_⟩
  rintro m σv2 H2 ⟨F2, M2, σ2, b2, rs2, h2⟩
  cases m with
  | zero => exact h2.elim
  | succ m =>
    refine (hc.run σv2 H2 σ2 F2 M2 _ D.ex (tk.tr b2) b2.rm rs2 h2).mono ?_
    rintro b H3 ⟨F3, M3, b3, h3⟩
    split
    · rename_i e
      rw [if_pos e] at h3
      have b03 := b2.trans b3
      refine ⟨_, fun σv' H' n => ⟨m, Nat.lt_succ_self m, n⟩, ?_⟩
      refine (hb.run σv2 H3 σ2 F3 M3 { D with nx := pWhileN tt tb m D, bk := D.nx, ct := pWhileN tt tb m D } (tk.tr b03) b03.rm (rs2.same b3.sm) h3).mono ⟨?_, fun _ _ q => q.tr b03, fun _ _ q => q.tr b03, ?_⟩
      · rintro σv5 H5 ⟨F5, M5, σ5, b5, rs5, h5⟩
        exact ⟨F5, M5, σ5, b03.trans b5, rs5, h5⟩
      · rintro σv5 H5 ⟨F5, M5, σ5, b5, rs5, h5⟩
        exact ⟨F5, M5, σ5, b03.trans b5, rs5, h5⟩
    · rename_i e
      rw [if_neg e] at h3
      exact ⟨F3, M3, σ2, b2.trans b3, rs2.same b3.sm, h3⟩
end

/-! ### list comprehensions over one name -/
abbrev PTTs := PTT
def pYes : PTT := fun _ _ M Q => Q true M
def pLcL (i : Nat) (tt : PTT) (te : PTE) : List PV → List PV → PSt → Mem → PQ → Prop
  | [], acc => fun _ M Q => Q (.lst acc) M
  | x :: xs, acc => fun σ M Q => tt noX (σ.set i (some x)) M fun b M1 => if b = true then te noX (σ.set i (some x)) M1 fun y M2 => pLcL i tt te xs (acc ++ [y]) σ M2 Q else pLcL i tt te xs acc σ M1 Q
def pLc (wi : PTI) (i : Nat) (tt : PTT) (te : PTE) : PTE := fun E σ M Q => wi E σ M fun xs M1 => xs.length ≤ sizeLine ∧ pLcL i tt te xs [] σ M1 Q
/-- a clause's tests -/
structure LTs (X : Cx) (ifs : List Expr) (t : PTT) : Prop where
  run : ∀ (σv : L2.St) (H : Hp) (σ : PSt) (F : Hp) (M : Mem) (Q : Bool → Mem → Prop), RM X.K F M H → RS X.K F σ σv → t noX σ M Q →
    ∀ pins s, Inv X pins σv H s → wpAny (model X.prog X.w) X.A (forIn ifs true fun c r => if r = true then do let ok ← isTrue c X.env (eval c X.env); pure (ForInStep.yield ok) else pure (ForInStep.yield r)) (TP X pins σv (LB X.K F M H Q)) X.xe s
theorem LTs.nil {X : Cx} : LTs X [] pYes := ⟨fun σv H σ F M Q rm rs h pins s I => pts_nil.run pins s σv H _ I ⟨F, M, Beh.refl rm, h⟩⟩
theorem LTs.one {X : Cx} {c : Expr} {t : PTT} (hc : LT X c t) : LTs X [c] t := ⟨fun σv H σ F M Q rm rs h pins s I => (pts_one WT.pt).run pins s σv H _ I (hc.run σv H σ F M Q noX PTk.no rm rs h)⟩
section
variable {X : Cx} {elt tg iter : Expr} {ifs : List Expr} {scope : Scope} {x : Str} {i : Nat} {pos pt : Pos} {wi : PTI} {tt : PTT} {te : PTE}
abbrev Blk (X : Cx) (scope : Scope) (s : Shared) (H : Hp) (C : Addr) (cl : List (Str × Addr)) (fp : List Addr) : Cx := X.blk s H scope (compEnvC scope cl C X.env) fp
theorem hid_app {K : PySem.W.Frag} {F H : Hp} {M : Mem} {p : Addr} {o : HO} (r : RM K F M H) (nF : F p = none) (nM : M p = none) : RM K F M (upd H p o) := (r.behHid nF nM).1
/-- the turns of the block, D the new list -/
theorem lc_turns {te' : TE} {tt' : TT} (hi : i < X.N.length)
    (ht : ∀ (σv : L2.St) (H : Hp) (σ : PSt) (F : Hp) (M : Mem) (Q : Bool → Mem → Prop), RM X.K F M H → RS X.K F σ σv → tt noX σ M Q → tt' σv H (LB X.K F M H Q))
    (he : ∀ (σv : L2.St) (H : Hp) (σ : PSt) (F : Hp) (M : Mem) (Q : PQ), RM X.K F M H → RS X.K F σ σv → te noX σ M Q → te' σv H (LQ X.K F M H Q))
    (mt : ∀ σv H Q Q', tt' σv H Q → (∀ b H', Q b H' → Q' b H') → tt' σv H Q') (me : ∀ σv H Q Q', te' σv H Q → (∀ b H', Q b H' → Q' b H') → te' σv H Q')
    {σv : L2.St} {σ : PSt} {F M H F1 M1 H1} {Q : PQ} {J : It} {xs : List PV} (b1 : Beh X.K F M H F1 M1 H1) (rs : RS X.K F σ σv) (st : Stab X.K J F1 xs) (hz : xs.length ≤ sizeLine) (h1 : pLcL i tt te xs [] σ M1 Q) {D : Addr} (nD : H1 D = none) :
    ∃ W : Nat → Nat → Hp → Prop, (∃ m, W 0 m (upd H1 D (.lst []))) ∧ ∀ j m H', W j m H' →
      (J.stop j H' ∧ LQ X.K F M H Q (.ref D) H') ∨ (J.go j H' ∧ ∃ Nx : Hp → Prop, (∀ H2, Nx H2 → ∃ m', m' < m ∧ W (j + 1) m' H2) ∧ ∀ v H2, J.yld j H' v H2 → gName i v (wipe σv [i]) H2 fun σ2 H3 => wipe σ2 [i] = wipe σv [i] ∧ tt' σ2 H3 fun b H4 =>
        if b = true then te' σ2 H4 fun y H5 => ∃ acc, H5 D = some (.lst acc) ∧ acc.length < sizeLine ∧ Nx (upd H5 D (.lst (acc ++ [y]))) else Nx H4) := by
  obtain ⟨nF, nM⟩ := b1.rm.nones nD
  have b1' := b1.trans ((b1.rm.behHid (o := .lst []) nF nM).2 nD)
  refine ⟨fun j m H' => m = xs.length - j ∧ j ≤ xs.length ∧ ∃ F' M' acc vacc, Beh X.K F M H F' M' H' ∧ Same F1 F' ∧ F' D = none ∧ M' D = none ∧ H' D = some (.lst vacc) ∧ RAll X.K F' acc vacc ∧ acc.length ≤ j ∧ pLcL i tt te (xs.drop j) acc σ M' Q,
    ⟨xs.length, rfl, Nat.zero_le _, F1, M1, [], [], b1', Same.refl _, nF, nM, upd_same, .nil, Nat.le_refl _, h1⟩, ?_⟩
  rintro j m H2 ⟨rfl, hj, F2, M2, acc, vacc, b2, sm2, nF2, nM2, hD, ra, hl, h2⟩
  obtain ⟨s1, s2⟩ := st j F2 M2 H2 sm2 b2.rm
  by_cases hlt : j < xs.length
  · obtain ⟨go, yl⟩ := s1 hlt
    rw [List.drop_eq_getElem_cons hlt] at h2
    refine .inr ⟨go, _, fun H' n => ⟨_, (show xs.length - (j + 1) < xs.length - j by omega), n⟩, fun v H3 y => ?_⟩
    obtain ⟨F3, b3, r3⟩ := yl v H3 y
    have keepD : ∀ {Fa : Hp} {Ma : Mem} {Ha : Hp}, Beh X.K F2 M2 H2 Fa Ma Ha → Fa D = none ∧ Ma D = none ∧ Ha D = some (.lst vacc) := fun {Fa Ma Ha} b => by
      refine ⟨?_, ?_, b.fr.keep D _ hD nM2⟩
      · cases q : Fa D with
        | none => rfl
        | some u =>
          rcases b.fg D (by rw [q]; exact Option.some_ne_none _) with z | z | z
          · exact absurd nF2 z
          · exact absurd nM2 z
          · rw [hD] at z; cases z
      · cases q : Ma D with
        | none => rfl
        | some u =>
          rcases b.fr.grow D (by rw [q]; exact Option.some_ne_none _) with z | z
          · exact absurd nM2 z
          · rw [hD] at z; cases z
    have hw : wipe σv [i] = σv.set i none := rfl
    have e1 : (wipe σv [i]).set i (some v) = σv.set i (some v) := by rw [hw, List.set_set]
    show wipe ((wipe σv [i]).set i (some v)) [i] = wipe σv [i] ∧ _
    rw [e1]
    refine ⟨by show (σv.set i (some v)).set i none = σv.set i none; rw [List.set_set], ?_⟩
    have rs3 : RS X.K F3 (σ.set i (some xs[j])) (σv.set i (some v)) := (rs.same (b2.trans b3).sm).set i r3
    refine mt _ _ _ _ (ht _ H3 _ F3 M2 _ b3.rm rs3 h2) ?_
    rintro b H4 ⟨F4, M4, b4, h4⟩
    have b24 := b3.trans b4
    split
    · rename_i e
      rw [if_pos e] at h4
      refine me _ _ _ _ (he _ H4 _ F4 M4 _ b4.rm (rs3.same b4.sm) h4) ?_
      rintro yv H5 ⟨F5, M5, y5, b5, r5, h5⟩
      have b25 := b24.trans b5
      obtain ⟨k1, k2, k3⟩ := keepD b25
      refine ⟨vacc, k3, by rw [← ra.length]; omega, rfl, hlt, F5, M5, acc ++ [y5], vacc ++ [yv], ?_, sm2.trans b25.sm, k1, k2, upd_same, (ra.same b25.sm).append (.cons r5 .nil), by rw [List.length_append]; show acc.length + 1 ≤ j + 1; omega, h5⟩
      have b05 := b2.trans b25
      have x : RM X.K F5 M5 (upd H5 D (.lst (vacc ++ [yv]))) := hid_app b05.rm k1 k2
      refine ⟨b05.sm, x, ⟨fun c u hc nc => ?_, b05.fr.grow, fun c hc => ?_⟩, b05.fg⟩
      · have hcD : c ≠ D := fun z => by
          subst z
          rcases b1.fr.there c (by rw [hc]; exact Option.some_ne_none _) with _
          exact absurd nD (b1.fr.there c (by rw [hc]; exact Option.some_ne_none _))
        rw [upd_ne hcD]
        exact b05.fr.keep c u hc nc
      · by_cases hcD : c = D
        · subst hcD; rw [upd_same]; exact Option.some_ne_none _
        · rw [upd_ne hcD]; exact b05.fr.there c hc
    · rename_i e
      rw [if_neg e] at h4
      obtain ⟨k1, k2, k3⟩ := keepD b24
      exact ⟨rfl, hlt, F4, M4, acc, vacc, b2.trans b24, sm2.trans b24.sm, k1, k2, k3, ra.same b24.sm, by omega, h4⟩
  · have e : j = xs.length := by omega
    subst e
    rw [List.drop_length] at h2
    refine .inl ⟨s2 (Nat.le_refl _), ?_⟩
    have sm : Same F2 (upd F2 D (.lst vacc)) := same_upd nF2
    refine ⟨upd F2 D (.lst vacc), M2, _, ⟨b2.sm.trans sm, ⟨fun c u hc => ?_, fun c hc => ?_, fun c mo hc => ?_⟩, b2.fr, fun c hc => ?_⟩, .lst upd_same (ra.same sm), h2⟩
    · by_cases hcD : c = D
      · subst hcD; rw [upd_same] at hc; cases hc; exact hD
      · rw [upd_ne hcD] at hc; exact b2.rm.fr c u hc
    · have hcD : c ≠ D := fun z => hc (by rw [z]; exact nM2)
      rw [upd_ne hcD]; exact b2.rm.dj c hc
    · obtain ⟨u, e1, e2⟩ := b2.rm.mu c mo hc
      exact ⟨u, e1, e2.same sm⟩
    · by_cases hcD : c = D
      · subst hcD
        right; right
        cases q : H c with
        | none => rfl
        | some u => exact absurd nD (b1.fr.there c (by rw [q]; exact Option.some_ne_none _))
      · rw [upd_ne hcD] at hc; exact b2.fg c hc
def TBlk (X : Cx) (scope : Scope) (ifs : List Expr) : TT := fun σ H Q => ∀ s0 H0 C cl fp pins s, Inv (Blk X scope s0 H0 C cl fp) pins σ H s →
  wpAny (model X.prog X.w) X.A (forIn ifs true fun c r => if r = true then do let ok ← isTrue c (Blk X scope s0 H0 C cl fp).env (eval c (Blk X scope s0 H0 C cl fp).env); pure (ForInStep.yield ok) else pure (ForInStep.yield r)) (TP (Blk X scope s0 H0 C cl fp) pins σ Q) (fun _ _ => False) s
def EBlk (X : Cx) (scope : Scope) (elt : Expr) : TE := fun σ H Q => ∀ s0 H0 C cl fp, WE (Blk X scope s0 H0 C cl fp) elt σ H Q
theorem TBlk.mono {σv H Q Q'} (h : TBlk X scope ifs σv H Q) (m : ∀ b H', Q b H' → Q' b H') : TBlk X scope ifs σv H Q' := fun s0 H0 C cl fp pins s I => thn (h s0 H0 C cl fp pins s I) fun b s' ⟨H', I', q⟩ => ⟨H', I', m b H' q⟩
theorem EBlk.mono {σv H Q Q'} (h : EBlk X scope elt σv H Q) (m : ∀ b H', Q b H' → Q' b H') : EBlk X scope elt σv H Q' := fun s0 H0 C cl fp => (h s0 H0 C cl fp).mono m
theorem lc_core' (hi : LI X tg iter wi) (hl : i < X.N.length)
    (ht : ∀ (s : Shared) (H : Hp) (C : Addr) (cl : List (Str × Addr)) (fp : List Addr), LTs (Blk X scope s H C cl fp) ifs tt)
    (he : ∀ (s : Shared) (H : Hp) (C : Addr) (cl : List (Str × Addr)) (fp : List Addr), LE (Blk X scope s H C cl fp) elt te)
    {σv : L2.St} {H : Hp} {σ : PSt} {F : Hp} {M : Mem} {Q : PQ} {E : PXK} (tk : PTk X F M H E) (rm : RM X.K F M H) (rs : RS X.K F σ σv) (h : pLc wi i tt te E σ M Q) : tLc (WI X tg iter) (gName i) (TBlk X scope ifs) (EBlk X scope elt) [i] σv H (LQ X.K F M H Q) := by
  refine (hi.run σv H σ F M _ E tk rm rs h).mono ?_
  rintro J H1 ⟨F1, M1, xs, b1, st, hz, h1⟩
  intro D nD
  exact lc_turns (te := te) (tt := tt) (te' := EBlk X scope elt) (tt' := TBlk X scope ifs) hl (fun σv H σ F M Q rm rs h s0 H0 C cl fp pins s I => (ht s0 H0 C cl fp).run σv H σ F M Q rm rs h pins s I)
    (fun σv H σ F M Q rm rs h s0 H0 C cl fp => (he s0 H0 C cl fp).run σv H σ F M Q noX PTk.no rm rs h)
    (fun σv H Q Q' h m => TBlk.mono h m) (fun σv H Q Q' h m => EBlk.mono h m) b1 rs st hz h1 nD
/-- [elt for x in iter if ..] -/
theorem LE.lc (hc : X.calm = true) (hN : X.N.Nodup) (hi : LI X (.Name x pt) iter wi) (ok : BlkOk X.N X.env.scope scope [(x, i)])
    (hg : ∀ (s : Shared) (H : Hp) (C : Addr) (cl : List (Str × Addr)) (fp : List Addr), PG (Blk X scope s H C cl fp) (.Name x pt) (gName i))
    (ht : ∀ (s : Shared) (H : Hp) (C : Addr) (cl : List (Str × Addr)) (fp : List Addr), LTs (Blk X scope s H C cl fp) ifs tt)
    (he : ∀ (s : Shared) (H : Hp) (C : Addr) (cl : List (Str × Addr)) (fp : List Addr), LE (Blk X scope s H C cl fp) elt te)
    (hs : ∀ v, foldedSetIterable iter X.env v = pure v := by intro _; rfl) : LE X (.ListComp elt [⟨.Name x pt, iter, ifs, 0⟩] scope pos) (pLc wi i tt te) := by
  refine ⟨fun σv H σ F M Q E tk rm rs h => ?_⟩
  refine WE.of (pe_lc (own := [(x, i)]) (g := gName i) (tt := TBlk X scope ifs) (te := EBlk X scope elt) hc hN WI.pi ok hg (fun s0 H0 C cl fp => ⟨fun pins s σ H Q I hh => hh s0 H0 C cl fp pins s I⟩) (fun s0 H0 C cl fp => ⟨fun pins s σ H Q I hh => hh s0 H0 C cl fp pins s I⟩) hs) ?_
  exact lc_core' hi (List.getElem?_eq_some_iff.mp (ok.ix (x, i) (by simp))).1 ht he tk rm rs h
/-- y = [elt for x in iter if ..] on one row -/
theorem LS.setLc (k : Nat) {y : Str} {py spos : Pos} (hc : X.calm = true) (hN : X.N.Nodup) (hy : X.N[k]? = some y) (hyl : X.env.scope.names.lookup y = some .local)
    (hsw : swapsWith (.ListComp elt [⟨.Name x pt, iter, ifs, 0⟩] scope pos) (some (.Name y py)) spos.line X.env = pure true) (hi : LI X (.Name x pt) iter wi) (ok : BlkOk X.N X.env.scope scope [(x, i)])
    (hg : ∀ (s : Shared) (H : Hp) (C : Addr) (cl : List (Str × Addr)) (fp : List Addr), PG (Blk X scope s H C cl fp) (.Name x pt) (gName i))
    (ht : ∀ (s : Shared) (H : Hp) (C : Addr) (cl : List (Str × Addr)) (fp : List Addr), LTs (Blk X scope s H C cl fp) ifs tt)
    (he : ∀ (s : Shared) (H : Hp) (C : Addr) (cl : List (Str × Addr)) (fp : List Addr), LE (Blk X scope s H C cl fp) elt te)
    (hs : ∀ v, foldedSetIterable iter X.env v = pure v := by intro _; rfl) : LS X (.Assign [.Name y py] (.ListComp elt [⟨.Name x pt, iter, ifs, 0⟩] scope pos) spos) (pSet k (pLc wi i tt te)) := by
  refine ⟨fun σv H σ F M D tk rm rs h => ?_⟩
  refine WS.of (ps_setLc (own := [(x, i)]) (g := gName i) (tt := TBlk X scope ifs) (te := EBlk X scope elt) hc hN hy hyl hsw WI.pi ok hg (fun s0 H0 C cl fp => ⟨fun pins s σ H Q I hh => hh s0 H0 C cl fp pins s I⟩) (fun s0 H0 C cl fp => ⟨fun pins s σ H Q I hh => hh s0 H0 C cl fp pins s I⟩) hs) ?_
  have q := lc_core' (elt := elt) (ifs := ifs) (scope := scope) hi (List.getElem?_eq_some_iff.mp (ok.ix (x, i) (by simp))).1 ht he tk rm rs h
  have m : ∀ v H', LQ X.K F M H (fun x M1 => D.nx (σ.set k (some x)) M1) v H' → gName k v σv H' (LD X.K F M H D).nx := fun v H' ⟨F1, M1, y, b1, ry, hy⟩ => ⟨F1, M1, _, b1, (rs.same b1.sm).set k ry, hy⟩
  refine WI.mono q fun J H1 h1 => ?_
  intro D' nD
  obtain ⟨W, w0, w1⟩ := h1 D' nD
  refine ⟨W, w0, fun j m' H' w => ?_⟩
  rcases w1 j m' H' w with ⟨s1, s2⟩ | s
  · exact .inl ⟨s1, m _ _ s2⟩
  · exact .inr s
end

/-! ### a def keeps its promise -/
section
variable {P : Program} {w : World} {K : PySem.W.Frag} {mg : Str → Option Value} {base : Heap}
theorem Fn.ok {x qual : Str} {st : Stmt} {f : Addr} {fd : FuncData} {N ps : List Str} {k n : Nat} {sp : PSp} (F : Fun K x qual st f fd) (S : FnScope N ps (defScope st)) (hn : N.length = n)
    (body : ∀ (cdv : Value) (A : Around) (outer : List Env) (s : Shared) (H : Hp) (E : XK), Room k (A.deeper (envOfC qual (defScope st) s.heap.objs.size f cdv)) →
      ∃ t, LSs (cxOf (L2.CX P w) P w K mg base N qual (defScope st) f cdv A outer s H E) (defBody st) t ∧ ∀ xs M Q Ep, xs.length = ps.length → sp xs M Q Ep → t { nx := fun _ M' => Q .non M', rt := Q, ex := Ep } (pstart n xs) M) :
    FnOk P w K mg base (L2.CX P w) (k + 1) f fd ps (lift K ps.length sp) := by
  refine F.okX S (fun vs H Q E h => h.1) (fun cdv A outer s H vs Q E hr h => ?_)
  obtain ⟨t, ht, hb⟩ := body cdv A outer s H E hr
  obtain ⟨hl, F0, M, xs, Qp, Ep, rm, rx, h1, k1, k2⟩ := h
  refine ⟨_, WSs.ps, ?_⟩
  have rs : RS K F0 (pstart n xs) (L2.start N vs) := hn ▸ RS.start rx
  have tk : PTk (cxOf (L2.CX P w) P w K mg base N qual (defScope st) f cdv A outer s H E) F0 M H Ep :=
    (takes_of (X := cxOf (L2.CX P w) P w K mg base N qual (defScope st) f cdv A outer s H E) rfl rfl rfl rfl).imp fun c d _ H' q => k2 c d H' q
  refine (ht.run (L2.start N vs) H (pstart n xs) F0 M { nx := fun _ M' => Qp .non M', rt := Qp, ex := Ep } tk rm rs (hb xs M Qp Ep (by rw [rx.length, hl]) h1)).mono ⟨?_, fun v H' q => k1 v H' q, fun _ _ ⟨_, _, _, _, _, z⟩ => z.elim, fun _ _ ⟨_, _, _, _, _, z⟩ => z.elim⟩
  rintro σ' H' ⟨F1, M1, σ1, b1, rs1, q1⟩
  exact k1 .non H' ⟨F1, M1, .non, b1, .non, q1⟩
end
end PL
set_option Elab.async false
set_option linter.all false
set_option maxRecDepth 100000
namespace PL
open PySem PySem.Spec PyProof.Rows L2

/-! ### all(..), any(..) of a list of bools -/
def blsOf : List PV → Option (List Bool)
  | [] => some []
  | .bl b :: r => (blsOf r).map (b :: ·)
  | _ => none
def intsOf : List PV → Option (List Int)
  | [] => some []
  | .int i :: r => (intsOf r).map (i :: ·)
  | _ => none
theorem blsOf_map : ∀ bs : List Bool, blsOf (bs.map PV.bl) = some bs
  | [] => rfl
  | b :: r => by
    show (blsOf (r.map PV.bl)).map (b :: ·) = _
    rw [blsOf_map r]
    rfl
theorem intsOf_map : ∀ bs : List Int, intsOf (bs.map PV.int) = some bs
  | [] => rfl
  | b :: r => by
    show (intsOf (r.map PV.int)).map (b :: ·) = _
    rw [intsOf_map r]
    rfl
theorem blsOf_eq : ∀ {xs : List PV} {bs : List Bool}, blsOf xs = some bs → xs = bs.map PV.bl
  | [], bs, h => by cases h; rfl
  | .bl b :: r, bs, h => by
    cases hr : blsOf r with
    | none =>
      have h' : (blsOf r).map (b :: ·) = some bs := h
      rw [hr] at h'; cases h'
    | some cs =>
      have h' : (blsOf r).map (b :: ·) = some bs := h
      rw [hr] at h'; cases h'
      rw [blsOf_eq hr]; rfl
theorem intsOf_eq : ∀ {xs : List PV} {bs : List Int}, intsOf xs = some bs → xs = bs.map PV.int
  | [], bs, h => by cases h; rfl
  | .int b :: r, bs, h => by
    cases hr : intsOf r with
    | none =>
      have h' : (intsOf r).map (b :: ·) = some bs := h
      rw [hr] at h'; cases h'
    | some cs =>
      have h' : (intsOf r).map (b :: ·) = some bs := h
      rw [hr] at h'; cases h'
      rw [intsOf_eq hr]; rfl
theorem RAll.bls {K : PySem.W.Frag} {F : Hp} : ∀ {bs : List Bool} {vs : List V}, RAll K F (bs.map PV.bl) vs → vs = bs.map V.bl
  | [], _, .nil => rfl
  | b :: r, _, .cons (.bl _) t => by rw [RAll.bls t]; rfl
theorem RAll.intsI {K : PySem.W.Frag} {F : Hp} : ∀ {bs : List Int} {vs : List V}, RAll K F (bs.map PV.int) vs → vs = bs.map V.int
  | [], _, .nil => rfl
  | b :: r, _, .cons (.int _) t => by rw [RAll.intsI t]; rfl
def kAll (x : PV) (M : Mem) (Q : PQ) : Prop := need (lstOf M x) fun xs => need (blsOf xs) fun bs => Q (.bl (bs.all id)) M
def kAny (x : PV) (M : Mem) (Q : PQ) : Prop := need (lstOf M x) fun xs => need (blsOf xs) fun bs => Q (.bl (bs.any id)) M
section
variable {X : Cx} {a b c e : Expr} {ta tb tc te : PTE} {pos p p2 pos2 : Pos} {es : List Expr} {t : PTA} {x : Str}
theorem LE.all (hc : X.calm = true) (hg : Gl X "all") (hm : X.mg "all" = none) (ha : LA X [e] t) (he : starEach [e] X.env = (false, eval e X.env) :: starEach [] X.env := by rfl) : LE X (.Call (.Name "all" p) [e] [] pos) (pCallB (on1 kAll) t) := by
  refine LE.callB (cr_all hc) (fun F M H xs vs Q Qv rm rx h k => ?_) hg hm (by decide +kernel) ha (he := he)
  obtain ⟨x, ex, h1⟩ := on1_of h
  subst ex
  obtain ⟨v, ev, rx1⟩ := rx.one
  subst ev
  obtain ⟨ys, e1, h2⟩ := need_of h1
  obtain ⟨bs, e2, h3⟩ := need_of h2
  obtain ⟨q, ws, ev, hs, ra⟩ := rx1.lstI rm e1
  subst ev
  rw [blsOf_eq e2] at ra
  rw [ra.bls] at hs
  exact ⟨q, bs, rfl, hs, k _ _ (LQ.now rm (.bl _) h3)⟩
theorem LE.any (hc : X.calm = true) (hg : Gl X "any") (hm : X.mg "any" = none) (ha : LA X [e] t) (he : starEach [e] X.env = (false, eval e X.env) :: starEach [] X.env := by rfl) : LE X (.Call (.Name "any" p) [e] [] pos) (pCallB (on1 kAny) t) := by
  refine LE.callB (cr_any hc) (fun F M H xs vs Q Qv rm rx h k => ?_) hg hm (by decide +kernel) ha (he := he)
  obtain ⟨x, ex, h1⟩ := on1_of h
  subst ex
  obtain ⟨v, ev, rx1⟩ := rx.one
  subst ev
  obtain ⟨ys, e1, h2⟩ := need_of h1
  obtain ⟨bs, e2, h3⟩ := need_of h2
  obtain ⟨q, ws, ev, hs, ra⟩ := rx1.lstI rm e1
  subst ev
  rw [blsOf_eq e2] at ra
  rw [ra.bls] at hs
  exact ⟨q, bs, rfl, hs, k _ _ (LQ.now rm (.bl _) h3)⟩
end

/-! ### max(t) of a tuple of ints -/
section
variable {prog : Program} {w : World} {A : Around} {E : Value → Shared → Prop} {s : Shared} {l : Addr}
theorem max_tupRaw {its : List Value} {ns : List Int} {Q : Value → Shared → Prop} (hh : A.handled = none) (hl : s.heap.IsTuple l its.toArray) (hi : IntsAre its ns) (hne : 0 < ns.length)
    (h : ∀ h' tk m t', (∀ b o, s.heap.get? b = some o → h'.get? b = some o) → m ∈ ns → (∀ a, a ∈ ns → a ≤ m) → Q (.int m t') { s with heap := h', toks := tk }) : wpAny (model prog w) A (call (.builtin "max") [.ref l]) Q E s := by
  obtain ⟨xs, e⟩ := hi.allInts.items
  have hn : numsOf (intItems xs).toList = ns := by rw [← e]; exact hi.numsOf
  rw [nums_intItems] at hn
  subst hn
  rw [e] at hl
  have hsz : 0 < xs.size := by simpa using hne
  have hlt : l < s.heap.objs.size := by
    obtain ⟨_, q, _⟩ := hl
    exact Heap.lt_size q
  have push1 : ∀ b o, s.heap.get? b = some o → (s.heap.push { cls := .type "tuple_iterator", data := .fields #[.ref l, .int 0 0] }).get? b = some o := fun b o q => Heap.get?_push_of_some _ q
  refine call_max_walk (wpAny_pyIter_tuple hl ?_)
  refine ⟨_, _, _, _, _, _, _, rfl, Walks.tuple (A := A.in1) hh _ l (Nat.ne_of_lt hlt) (intItems xs), ⟨⟨_, Heap.get?_push_size _ rfl, rfl, rfl⟩, hl.push _⟩, fun b hb => ?_, by simpa [intItems] using hsz, CmpOf.ints_gt (numAt xs) (fun _ _ => intItems_at), fun v h' tk hP hk => ?_⟩
  · show b < (s.heap.push _).objs.size
    rw [Heap.size_push]
    have hb2 : b = s.heap.objs.size ∨ b = l := by simpa using hb
    rcases hb2 with e1 | e1
    · rw [e1]; exact Nat.lt_succ_self _
    · rw [e1]; exact Nat.lt_succ_of_lt hlt
  · obtain ⟨t, rfl⟩ := intItems_at (by simpa [intItems] using hP)
    obtain ⟨h1, h2⟩ := argBest_gt (numAt xs) (xs.size - 1)
    refine h h' tk _ t (fun b o q => hk b o (fun hm => ?_) (push1 b o q)) ?_ fun a ha => ?_
    · have : b = s.heap.objs.size := by simpa using hm
      exact absurd (this ▸ Heap.lt_size q) (Nat.lt_irrefl _)
    · rw [numAt_eq]; exact PySem.getD_mem (by rw [List.length_map, Array.length_toList]; exact Nat.lt_of_le_of_lt h1 (by omega))
    · obtain ⟨j, hj, rfl⟩ := mem_getD ha
      have hj' : j < xs.size := by simpa using hj
      rw [← numAt_eq]; exact h2 j (by omega)
end
def kMaxT (x : PV) (M : Mem) (Q : PQ) : Prop := need (tupF x) fun xs => need (intsOf xs) fun ns => 0 < ns.length ∧ ∀ m, m ∈ ns → (∀ y, y ∈ ns → y ≤ m) → Q (.int m) M
section
variable {X : Cx} {a b c e : Expr} {ta tb tc te : PTE} {pos p p2 pos2 : Pos} {es : List Expr} {t : PTA} {x : Str}
theorem cr_maxT (hc : X.calm = true) : CallR X (.builtin "max") (fun vs H Q => ∃ (a : Addr) (ns : List Int), vs = [V.ref a] ∧ SqT X.K H a (ns.map V.int) ∧ 0 < ns.length ∧ ∀ m, m ∈ ns → (∀ y, y ∈ ns → y ≤ m) → Q (.int m) H) := by
  rintro pins s σ H vs us Q I r ⟨a, ns, ev, hs, hne, q⟩
  subst ev
  obtain ⟨its, rv, hl, _⟩ := I.tuple hs
  rw [Vals.ref1 r]
  exact max_tupRaw (I.ok.hd hc) hl (intsAre_of rv) hne fun h' tk m t' hk h1 h2 => ⟨.int _, H, I.kept hk, ⟨_, rfl⟩, q m h1 h2⟩
theorem LE.maxT (hc : X.calm = true) (hg : Gl X "max") (hm : X.mg "max" = none) (ha : LA X [e] t) (he : starEach [e] X.env = (false, eval e X.env) :: starEach [] X.env := by rfl) : LE X (.Call (.Name "max" p) [e] [] pos) (pCallB (on1 kMaxT) t) := by
  refine LE.callB (cr_maxT hc) (fun F M H xs vs Q Qv rm rx h k => ?_) hg hm (by decide +kernel) ha (he := he)
  obtain ⟨x, ex, h1⟩ := on1_of h
  subst ex
  obtain ⟨v, ev, rx1⟩ := rx.one
  subst ev
  obtain ⟨ys, e1, h2⟩ := need_of h1
  obtain ⟨ns, e2, h3, h4⟩ := need_of h2
  cases rx1 with
  | tup q ra =>
    cases e1
    rw [intsOf_eq e2] at ra
    have hs := sqT_same rm.fr q
    rw [ra.intsI] at hs
    exact ⟨_, ns, rfl, hs, h3, fun m h5 h6 => k _ _ (LQ.now rm (.int _) (h4 m h5 h6))⟩
  | _ => cases e1
end
/-! ### tuple(reversed(x)) -/
theorem nolen_rt : typeLookup (.type "reversed") "__len__" = pure none := by
  rw [typeLookup_type, builtinLookup_eq_fast]
  kernel_rfl
theorem hint_rt : typeLookup (.type "reversed") "__length_hint__" = pure (some (.builtin "reversed.__length_hint__")) := by
  rw [typeLookup_type, builtinLookup_eq_fast]
  kernel_rfl
section
open RT
variable {prog : Program} {w : World} {A : Around} {E : Value → Shared → Prop} {s : Shared}
/-- reversed(t) of a tuple as a walk -/
theorem walks_rt (hh : A.handled = none) (it l : Addr) (hne : l ≠ it) (items : Array Value) (hsz : items.size ≤ sizeLine) :
    Walks prog w A it [it, l] [it] items.size (fun i v => items[items.size - 1 - i]? = some v) (fun i h => i ≤ items.size ∧ IsRt h it l ((items.size : Int) - 1 - (i : Nat)) ∧ IsTup h l items) where
  sub := fun b hb => by simp at hb; simp [hb]
  frame := fun i h h' st hk => ⟨st.1, st.2.1.at fun o e => hk it (by simp) o e, (show Heap.IsTuple h l items from st.2.2).at fun o e => hk l (by simp) o e⟩
  item := fun i s Q E hi st hQ => by
    have e : ((items.size : Int) - 1 - (i : Nat)) = ((items.size - 1 - i : Nat) : Int) := by omega
    have hit := st.2.1
    rw [e] at hit
    have hj : items.size - 1 - i < items.size := by omega
    refine next_rt_item hit st.2.2 (Array.getElem?_eq_getElem hj) hsz fun h' hit' sb => ?_
    refine hQ _ h' (s.toks + 1) (Array.getElem?_eq_getElem hj) ⟨hi, ?_, (show Heap.IsTuple s.heap l items from st.2.2).at fun o e => (sb.2 l hne).trans e⟩ fun b o hb e => (sb.2 b (fun z => hb (by simp [z]))).trans e
    have e2 : ((items.size - 1 - i : Nat) : Int) - 1 = (items.size : Int) - 1 - ((i + 1 : Nat) : Int) := by omega
    rw [← e2]
    exact hit'
  done := fun s Q E st hQ => by
    have e : ((items.size : Int) - 1 - (items.size : Nat)) = -1 := by omega
    have hit := st.2.1
    rw [e] at hit
    exact next_rt_end hh hit fun h' eb => hQ h' s.toks fun b o hb e => eb b o (fun z => hb (by simp [z])) e
  self := fun i s Q E st hQ => iter_rt st.2.1 hQ
end
end PL
set_option Elab.async false
set_option linter.all false
set_option maxRecDepth 100000
set_option maxHeartbeats 1000000
namespace PL
open PySem PySem.Spec PyProof.Rows L2 RT
theorem slot_rt_hint : Slot "reversed" "__length_hint__" "reversed.__length_hint__" := by
  refine .of (owner := "reversed") (n := "__length_hint__") ?_ ?_ ?_ ?_ ?_ ?_
  · rw [typeLookup_type, builtinLookup_eq_fast]
    kernel_rfl
  · decide +kernel
  · decide +kernel
  · decide +kernel
  · first
      | exact .inl (by decide +kernel)
      | exact .inr (by decide +kernel)
  · rw [isSubtype_type]
    kernel_rfl
theorem entry_rt_hint : entryFor table "reversed.__length_hint__" = some Builtin.«reversed.__length_hint__» := entryFor_of_tree (by kernel_rfl)
theorem args_rt_hint (a : Value) : argsOk "reversed.__length_hint__" ⟨[a], []⟩ := by
  unfold argsOk
  rw [signature?_of (id := "reversed.__length_hint__") (n := "__length_hint__".toList.reverse) (o := "reversed".toList.reverse) (by kernel_rfl) owner_rt]
  kernel_rfl
theorem bind_rt_hint (self : Value) : bindSpecial (.builtin "reversed.__length_hint__") self = pure (.builtin "reversed.__length_hint__", [self]) := by
  kernel_rfl
section
variable {prog : Program} {w : World} {A : Around} {E : Value → Shared → Prop} {s : Shared}
theorem call_rt_hint {it t : Addr} {items : Array Value} {Q : Value → Shared → Prop} (hit : IsRt s.heap it t ((items.size : Int) - 1)) (ht : IsTup s.heap t items) (hsz : items.size ≤ sizeLine)
    (hQ : ∀ k, Q (.int items.size k) { s with toks := k + 1 }) : wpAny (model prog w) A (call (.builtin "reversed.__length_hint__") [.ref it]) Q E s := by
  obtain ⟨o, ho, hc, hd⟩ := id hit
  refine wpAny_call_entry slot_rt_hint hit.typeIs entry_rt_hint ?_ (args_rt_hint _)
  unfold Builtin.«reversed.__length_hint__»
  refine wpAny_bind (wpAny_of_eq (a := Value.ref it) rfl ?_)
  refine wpAny_bind (wpAny_field ho hd (x := .ref t) rfl ?_)
  rw [if_neg (by exact Bool.false_ne_true)]
  refine wpAny_bind (len_tuple ht (by have := line63; omega) ?_)
  refine wpAny_bind (wpAny_of_eq (a := some (items.size : Int)) rfl ?_)
  refine wpAny_bind (wpAny_field (s := { s with toks := s.toks + 1 + 1 }) ho hd (x := rawInt ((items.size : Int) - 1)) rfl ?_)
  show wpAny _ _ (if (items.size : Int) < (items.size : Int) - 1 + 1 then _ else _) _ _ _
  rw [if_neg (by omega)]
  refine wpAny_bind (wpAny_mkInt (wpAny_pure ⟨_, rfl, ?_⟩))
  have e : (items.size : Int) - 1 + 1 = items.size := by omega
  rw [e]
  exact hQ (s.toks + 1 + 1)
theorem nolen_rt' : typeLookup (.type "reversed") "__len__" = pure none := by
  rw [typeLookup_type, builtinLookup_eq_fast]
  kernel_rfl
/-- all that reversed(t) hands out, in a list -/
theorem collect_rt {it l : Addr} {items : Array Value} {Q : List Value → Shared → Prop} (hh : A.handled = none) (hit : IsRt s.heap it l ((items.size : Int) - 1)) (hl : IsTup s.heap l items) (hne : l ≠ it) (hn : items.size ≤ sizeLine)
    (hQ : ∀ (h' : Heap) (tk : Nat) (acc : Array Value), (∀ b o, b ≠ it → s.heap.get? b = some o → h'.get? b = some o) → ItemsOf (fun i v => items[items.size - 1 - i]? = some v) acc items.size → Q acc.toList { s with heap := h', toks := tk }) :
    wpAny (model prog w) A (collect (.ref it)) Q E s := by
  have W := (walks_rt (prog := prog) (w := w) (A := A.in1) hh it l hne items hn).toS
  obtain ⟨oi, hoi, _⟩ := id hit
  obtain ⟨ol, hol, _⟩ := id hl
  have n1 : s.heap.objs.size ≠ it := fun z => absurd (z ▸ Heap.lt_size hoi) (Nat.lt_irrefl _)
  have n2 : s.heap.objs.size ≠ l := fun z => absurd (z ▸ Heap.lt_size hol) (Nat.lt_irrefl _)
  have n3 : s.heap.objs.size ∉ [it, l] := fun z => by
    rcases List.mem_cons.mp z with z | z
    · exact n1 z
    · exact n2 (List.mem_singleton.mp z)
  let h1 : Heap := s.heap.push { cls := .type "list", data := .seq ([] : List Value).toArray }
  have old : ∀ b o, s.heap.get? b = some o → h1.get? b = some o := fun b o e => Heap.get?_push_of_some _ e
  have hit1 : IsRt h1 it l ((items.size : Int) - 1) := hit.at fun o e => old _ _ e
  have hl1 : IsTup h1 l items := (show Heap.IsTuple s.heap l items from hl).at fun o e => old _ _ e
  have hS1 : h1.get? s.heap.objs.size = some { cls := .type "list", data := .seq ([] : List Value).toArray } := Heap.get?_push_size _ rfl
  have hT : ({ s with heap := h1 } : Shared).TypeIs (.ref it) "reversed" := IsRt.typeIs (s := { s with heap := h1 }) hit1
  unfold collect
  refine wpAny_bind (wpAny_runValue (codeAny_builtin F.entry_proto_collect ?_))
  rw [Around.under_plainId F.plain_proto_collect _]
  show wpAny _ A.in1 (newList [] >>= fun z => again (.builtin "list.__iadd__" ⟨[z, .ref it], []⟩)) _ _ s
  refine wpAny_bind (wpAny_newObj_type ?_)
  refine wpAny_pure ⟨plainId_quiet F.plain_list_iadd _, codeAny_builtin F.entry_list_iadd ?_⟩
  rw [Around.under_plainId F.plain_list_iadd _]
  have same : Builtin.List.listSameRef (.ref s.heap.objs.size) (.ref it) = false := by simp [Builtin.List.listSameRef, n1]
  show wpAny _ A.in1 (Builtin.List.listExtendWith (.ref s.heap.objs.size) (.ref it) (.ref s.heap.objs.size)) _ _ { s with heap := h1 }
  unfold Builtin.List.listExtendWith
  refine wpAny_bind (wpAny_typeOf hT ?_)
  rw [if_neg (by rw [same]; decide)]
  refine wpAny_bind (iter_rt (s := { s with heap := h1 }) hit1 ?_)
  refine wpAny_bind (wpAny_holding ?_)
  unfold Builtin.List.listLengthHint
  refine wpAny_bind (wpAny_specialOf hT nolen_rt' ?_)
  show wpAny _ A.in1 (specialOf (Value.ref it) (Str.ofString "__length_hint__") >>= _) _ _ _
  refine wpAny_bind (wpAny_specialOf hT hint_rt ?_)
  generalize hid : ("reversed.__length_hint__" : String) = id0
  wp_delta
  rw [show splitId id0 = some ("reversed", "__length_hint__") from by subst hid; decide +kernel]
  refine wpAny_bind (wpAny_isInstance (b := true) hT (by rw [isSubtype_type]; kernel_rfl) ?_)
  subst hid
  rw [if_neg (by decide)]
  dsimp only
  rw [if_neg (by decide +kernel)]
  refine wpAny_bind (wpAny_rule ?_)
  refine wpAny_bind (wpAny_of_eq (bind_rt_hint _) ?_)
  dsimp only
  refine wpAny_bind (wpAny_attempt ?_)
  refine call_rt_hint (s := { s with heap := h1 }) hit1 hl1 hn fun k => ?_
  have ea : ∀ (n : Int) (t : Tok), asInt? (Value.int n t) = pure (some n) := fun _ _ => rfl
  simp only [ea, pure_bind]
  have hz := hn
  rw [sizeLine_eq] at hz
  have f1 : Builtin.List.listFitsIndex (items.size : Int) = true := by
    unfold Builtin.List.listFitsIndex
    rw [Bool.and_eq_true]
    exact ⟨decide_eq_true (by omega), decide_eq_true (by omega)⟩
  have f2 : Builtin.List.listTooLong (items.size : Int).toNat = false := by
    unfold Builtin.List.listTooLong
    exact decide_eq_false (by rw [sizeLine_eq]; omega)
  rw [if_neg (by rw [f1]; decide), if_neg (by omega), if_neg (by rw [f2]; decide)]
  refine wpAny_pure ?_
  have e0 : ((items.size : Nat) : Int) - 1 - ((0 : Nat) : Int) = (items.size : Int) - 1 := by omega
  have fin : ∀ (R : Result → Shared → Prop) (h2 : Heap) (tk : Nat) (c : Nat), (∀ b o, b ≠ s.heap.objs.size → h1.get? b = some o → h2.get? b = some o) → h2.get? s.heap.objs.size = some { cls := .type "list", dict := none, data := .seq #[] c, slots := #[] } →
      (∀ (h' : Heap) (tk : Nat) (acc : Array Value) (c' : Nat), h'.get? s.heap.objs.size = some { cls := .type "list", dict := none, data := .seq acc c', slots := #[] } → (∀ b o, b ≠ it → s.heap.get? b = some o → h'.get? b = some o) → ItemsOf (fun i v => items[items.size - 1 - i]? = some v) acc items.size →
        R (.ok (.ret (.ref s.heap.objs.size))) { s with heap := h', toks := tk }) →
      codeAny (model prog w) A (.builtin "list.extend.loop" ⟨[.ref s.heap.objs.size, .ref it, .ref s.heap.objs.size], []⟩) R { s with heap := h2, toks := tk } := fun R h2 tk c k1 k2 hR => by
    refine codeAny_extend_loopS W hn s.heap.objs.size n3 _ items.size 0 _ _ _ rfl (Nat.zero_le _) ⟨Nat.zero_le _, ?_, ?_⟩ k2 (ItemsOf.nil _) fun s' acc' c' hm hS' hacc => ?_
    · rw [e0]
      exact hit1.at fun o e => k1 it o (Ne.symm n1) e
    · exact (show Heap.IsTuple h1 l items from hl1).at fun o e => k1 l o (Ne.symm n2) e
    · rw [Moved.eq_with hm]
      refine hR s'.heap s'.toks acc' c' hS' (fun b o hb e => hm.heap b o (fun hmem => ?_) (k1 b o (fun z => absurd (z ▸ Heap.lt_size e) (Nat.lt_irrefl _)) (old b o e))) hacc
      rcases List.mem_cons.mp hmem with z | z
      · exact absurd (z ▸ Heap.lt_size e) (Nat.lt_irrefl _)
      · exact hb (List.mem_singleton.mp z)
  have ret : ∀ (h' : Heap) (tk : Nat) (acc : Array Value) (c' : Nat), h'.get? s.heap.objs.size = some { cls := .type "list", dict := none, data := .seq acc c', slots := #[] } → (∀ b o, b ≠ it → s.heap.get? b = some o → h'.get? b = some o) → ItemsOf (fun i v => items[items.size - 1 - i]? = some v) acc items.size →
      wpAny (model prog w) A (do let o ← load s.heap.objs.size; match o.data with | .seq xs _ => pure xs.toList | _ => unsupported "internal:collect") Q E { s with heap := h', toks := tk } := fun h' tk acc c' hS' kk hacc => by
    refine wpAny_bind (wpAny_load hS' ?_)
    exact wpAny_pure (hQ h' tk acc kk hacc)
  by_cases hroom : items.size = 0
  · have r0 : ((items.size : Int) != 0) = false := by rw [hroom]; rfl
    rw [if_neg (by rw [r0]; decide +kernel)]
    exact wpAny_pure ⟨plainId_quiet F.plain_extend_loop _, fin _ h1 _ _ (fun _ _ _ e => e) hS1 fun h' tk acc c' a b d => ret h' tk acc c' a b d⟩
  · have r0 : ((items.size : Int) != 0) = true := by
      rw [bne_iff_ne]
      omega
    rw [if_pos (by rw [r0, Bool.true_or])]
    refine wpAny_bind (wpAny_rule ?_)
    refine wpAny_bind ?_
    show wpAny _ A.in1 (updateSeq s.heap.objs.size (·.push .none) >>= fun _ => updateSeq s.heap.objs.size (·.pop)) _ _ _
    refine wpAny_bind (wpAny_updateSeq hS1 rfl ?_ (by show 0 ≤ sizeLine; exact Nat.zero_le _) (by show 1 ≤ sizeLine + 1; rw [sizeLine_eq]; decide))
    have hS2 := Heap.get?_update_self (Obj.mapSeq (·.push Value.none)) hS1 rfl
    refine wpAny_updateSeq hS2 rfl ?_ (by show 1 ≤ sizeLine; rw [sizeLine_eq]; decide) (by show 0 ≤ sizeLine + 1; exact Nat.zero_le _)
    have hS3 := Heap.get?_update_self (Obj.mapSeq (·.pop)) hS2 rfl
    refine wpAny_pure ⟨plainId_quiet F.plain_extend_loop _, fin _ _ _ _ (fun b o hb e => ?_) hS3 fun h' tk acc c' a b d => ret h' tk acc c' a b d⟩
    exact (Heap.get?_update_other _ _ (Ne.symm hb)).trans ((Heap.get?_update_other _ _ (Ne.symm hb)).trans e)
theorem call_tuple_rt {it l : Addr} {items : Array Value} {Q : Value → Shared → Prop} (hh : A.handled = none) (hit : IsRt s.heap it l ((items.size : Int) - 1)) (hl : IsTup s.heap l items) (hne : l ≠ it) (hn : items.size ≤ sizeLine)
    (hQ : ∀ (h' : Heap) (tk : Nat) (acc : Array Value), (∀ b o, b ≠ it → s.heap.get? b = some o → h'.get? b = some o) → ItemsOf (fun i v => items[items.size - 1 - i]? = some v) acc items.size →
      Q (.ref h'.objs.size) { s with heap := h'.push { cls := .type "tuple", data := .seq acc }, toks := tk }) : wpAny (model prog w) A (call (.type "tuple") [.ref it]) Q E s := by
  have made : codeAny (model prog w) A.in1 (.call (.builtin "tuple.__new__") ⟨[.type "tuple", .ref it], []⟩) (wants (fun obj s₁ => s₁.TypeIs obj "tuple" ∧ Q obj s₁) E) s := by
    refine codeAny_of_tree ?_
    show wpAny _ A.in1.in1 (checkBuiltinCall "tuple.__new__" ⟨[.type "tuple", .ref it], []⟩ >>= fun _ => again (.builtin "tuple.__new__" ⟨[.type "tuple", .ref it], []⟩)) _ _ s
    refine wpAny_bind (wpAny_of_eq (F.newCall_tuple_1 _) (wpAny_pure ⟨plainId_quiet F.plain_tuple_new _, codeAny_builtin F.entry_tuple_new ?_⟩))
    rw [Around.under_plainId F.plain_tuple_new _]
    have hsub := sub_tuple_self
    have hinit := init_tuple_lookup
    have hmh := madeHere_tuple
    have hTI : s.TypeIs (.ref it) "reversed" := hit.typeIs
    have hh1 : A.in1.in1.handled = none := hh
    wp_walk using wpAny_typeOf hTI, collect_rt (A := A.in1.in1) hh1 hit hl hne hn
    intro h' tk acc hk hacc
    show wpAny _ _ (Builtin.Tuple.tupleExact acc.toList.toArray >>= fun v => ret v) _ _ _
    unfold Builtin.Tuple.tupleExact
    refine wpAny_bind (wpAny_newObj_type ?_ (by show acc.toList.toArray.size ≤ sizeLine; simp only [Array.toArray_toList]; rw [hacc.1]; exact hn))
    refine wpAny_pure ?_
    have e : acc.toList.toArray = acc := by simp
    rw [e]
    exact ⟨⟨_, Heap.get?_push_size _ rfl, rfl⟩, hQ h' tk acc hk hacc⟩
  refine callType_codes F.called_tuple (F.typeCall_tuple_1 _) F.entry_object_init made fun obj s₁ h₁ => ?_
  exact ⟨h₁.1, F.args_object_init_2 obj _, object_init_meets F.called_tuple.init.lookup F.called_tuple.made (by decide) prog w A.in1 _ s₁ ⟨h₁.1, rfl, h₁.2⟩⟩
end

section
variable {X : Cx} {a b c e : Expr} {ta tb tc te : PTE} {pos p p2 pos2 : Pos} {es : List Expr} {t : PTA} {x : Str}
/-- tuple(reversed(x)) of a tuple or a list -/
theorem pe_tupRevA {te : TE} (hc : X.calm = true) (hg : Gl X "tuple") (hm : X.mg "tuple" = none) (hg2 : Gl X "reversed") (hm2 : X.mg "reversed" = none) (he : PE X e te) (hs : starEach [e] X.env = (false, eval e X.env) :: starEach [] X.env := by rfl)
    (hs2 : starEach [.Call (.Name "reversed" p2) [e] [] pos2] X.env = (false, eval (.Call (.Name "reversed" p2) [e] [] pos2) X.env) :: starEach [] X.env := by rfl) :
    PE X (.Call (.Name "tuple" p) [.Call (.Name "reversed" p2) [e] [] pos2] [] pos) (fun σ H Q => te σ H fun v H1 => ∃ (a : Addr) (xs : List V), v = .ref a ∧ SqT X.K H1 a xs ∧ ∀ q, H1 q = none → Q (.ref q) (upd H1 q (.tup xs.reverse))) := by
  refine ⟨fun pins s σ H Q I h => ?_⟩
  refine Call_ (ld_blt I hg hm boot_tuple (callWith_type1 (args_cons (Call_ (ld_blt I hg2 hm2 PyProof.Rows.boot_reversed (callWith_type1 (args_cons (thn (he.run pins s σ H _ I h) fun u s1 ⟨v, H1, I1, r1, q1⟩ => args_nil ?_) hs) hs rfl))) hs2) hs2 rfl))
  obtain ⟨a, xs, ev, hq, q⟩ := q1
  subst ev
  obtain rfl : u = Value.ref a := r1
  obtain ⟨its, rv, p', hz⟩ := I1.tuple hq
  have hsz : its.toArray.size ≤ sizeLine := by rw [List.size_toArray, ← rv.length]; exact hz
  refine call_reversed_tup p' (fun A E Q k => len_tuple p' (by have := line63; omega) k) (args_nil ?_)
  have na : a ≠ s1.heap.objs.size := by
    obtain ⟨ol, hol, _⟩ := id p'
    exact Nat.ne_of_lt (Heap.lt_size hol)
  obtain ⟨f0, f1, f2, f3, f4, f5⟩ := I1.fpOk (H' := H1) (b := s1.heap.objs.size) (Nat.le_refl _) (I1.hok.fresh (Nat.le_refl _))
  have I2 := I1.kept (h' := s1.heap.push (rtObj a ((its.toArray.size : Int) - 1))) (t' := s1.toks + 1 + 1) fun b o e => Heap.get?_push_of_some _ e
  refine call_tuple_rt (s := { s1 with heap := s1.heap.push (rtObj a ((its.toArray.size : Int) - 1)), toks := s1.toks + 1 + 1 }) (I1.ok.hd hc) ⟨_, Heap.get?_push_size _ rfl, rfl, rfl⟩ ((show Heap.IsTuple s1.heap a its.toArray from p').push _) na hsz fun h' tk acc hk hi => ?_
  have I3 : Inv X pins σ H1 { s1 with heap := h', toks := tk } := I2.turned (t' := tk) (fun b o hb e => hk b o hb e) f0 f1 f3 f4 f5
  have ok : ObjOk X.prog X.w (upd H1 h'.objs.size (.tup xs.reverse)) (h'.push { cls := .type "tuple", data := .seq acc }) h'.objs.size (.tup xs.reverse) := by
    refine ⟨by rw [List.length_reverse]; exact hz, acc.toList, vals_rev rv hi, ?_⟩
    rw [Array.toArray_toList]
    exact IsTup.new _ _
  exact ⟨.ref h'.objs.size, _, I3.laid (t' := tk) (fun c o e => Heap.get?_push_of_some _ e) (Nat.le_refl _) ok, rfl, q _ (I3.hok.fresh (Nat.le_refl _))⟩
def pTupRev (te : PTE) : PTE := fun E σ M Q => te E σ M fun x M1 => need (tupF x) fun xs => Q (.tup xs.reverse) M1
theorem LE.tupRev (hc : X.calm = true) (hg : Gl X "tuple") (hm : X.mg "tuple" = none) (hg2 : Gl X "reversed") (hm2 : X.mg "reversed" = none) (he : LE X e te) (hs : starEach [e] X.env = (false, eval e X.env) :: starEach [] X.env := by rfl)
    (hs2 : starEach [.Call (.Name "reversed" p2) [e] [] pos2] X.env = (false, eval (.Call (.Name "reversed" p2) [e] [] pos2) X.env) :: starEach [] X.env := by rfl) :
    LE X (.Call (.Name "tuple" p) [.Call (.Name "reversed" p2) [e] [] pos2] [] pos) (pTupRev te) := by
  refine ⟨fun σv H σ F M Q E tk rm rs h => WE.of (pe_tupRevA hc hg hm hg2 hm2 WE.pe hs hs2) ?_⟩
  refine (he.run σv H σ F M _ E tk rm rs h).mono ?_
  rintro v H1 ⟨F1, M1, x, b1, rx, hx⟩
  obtain ⟨xs, e1, h2⟩ := need_of hx
  cases rx with
  | tup q r =>
    cases e1
    refine ⟨_, _, rfl, sqT_same b1.rm.fr q, fun z nz => ?_⟩
    exact ⟨_, M1, _, b1.trans (b1.rm.beh nz), .tup (SqT.of upd_same) (r.reverse.same (b1.rm.beh (o := .tup _) nz).sm), h2⟩
  | _ => cases e1
end
end PL
set_option Elab.async false
set_option linter.all false
set_option maxRecDepth 100000
namespace PL
open PySem PySem.Spec PyProof.Rows L2
/-- the store without what stands at these slots -/
def dropSlots (σ : PSt) : List Nat → Mem → Mem
  | [], M => M
  | j :: js, M => dropSlots σ js (match σ[j]? with | some (some (.ptr p)) => M.drop p | _ => M)
theorem behDrops {K : PySem.W.Frag} {F H : Hp} {σ : PSt} : ∀ (js : List Nat) {M : Mem}, RM K F M H → Beh K F M H F (dropSlots σ js M) H
  | [], M, r => Beh.refl r
  | j :: js, M, r => by
    unfold dropSlots
    split
    · exact (r.behDrop).trans (behDrops js r.behDrop.rm)
    · exact behDrops js r
section
variable {X : Cx} {e : Expr} {te : PTE} {pos : Pos}
def pRetD (js : List Nat) (te : PTE) : PTS := fun D σ M => te D.ex σ M fun x M1 => D.rt x (dropSlots σ js M1)
theorem LS.retD (js : List Nat) (he : LE X e te) : LS X (.Return (some e) pos) (pRetD js te) := by
  refine ⟨fun σv H σ F M D tk rm rs h => WS.of (ps_ret WE.pe) ?_⟩
  refine (he.run σv H σ F M _ D.ex tk rm rs h).mono ?_
  rintro v H1 ⟨F1, M1, x, b1, rx, hx⟩
  exact ⟨F1, _, x, b1.trans (behDrops js b1.rm), rx, hx⟩
def pRetFD (js : List Nat) (te : PTE) : PTS := fun D σ M => te D.ex σ M fun x M1 => kFz x M1 fun y M2 => D.rt y (dropSlots σ js M2)
theorem LS.retFD (js : List Nat) (he : LE X e te) : LS X (.Return (some e) pos) (pRetFD js te) := by
  refine ⟨fun σv H σ F M D tk rm rs h => WS.of (ps_ret WE.pe) ?_⟩
  refine (he.run σv H σ F M _ D.ex tk rm rs h).mono ?_
  rintro v H1 ⟨F1, M1, x, b1, rx, hx⟩
  obtain ⟨F2, M2, y, b2, ry, hy⟩ := rx.fz b1.rm hx
  exact ⟨F2, _, y, (b1.trans b2).trans (behDrops js b2.rm), ry, hy⟩
end
/-- a reading keeps a promise -/
def Keeps (t : PTS) (np n : Nat) (sp : PSp) : Prop := ∀ (xs : List PV) (M : Mem) (Q : PQ) (E : PXK), xs.length = np → sp xs M Q E → t { nx := fun _ M' => Q .non M', rt := Q, ex := E } (pstart n xs) M
end PL
set_option Elab.async false
set_option linter.all false
set_option maxRecDepth 100000
namespace PL
open PySem PySem.Spec PyProof.Rows L2
/-! ### a tuple times an int, of any sign -/
theorem tuple_mul0 (l : Addr) (items : Array Value) (n : Nat) (sl : Array (Option Value)) (dd : Option Addr) (x : Int) (u : Tok) (c0 : (decide (x < -(2 ^ 63)) || decide (x ≥ 2 ^ 63)) = false) (c1 : (items.isEmpty || x == 1) = false) (c2 : (decide (x ≤ 0) || items.isEmpty) = true) :
    Meets (Builtin.«tuple.__mul__» ⟨[.ref l, .int x u], []⟩) (fun _ R s => s.heap.get? l = some { cls := .type "tuple", dict := dd, data := .seq items n, slots := sl } ∧
      R (.ok (.ret (Value.ref s.heap.objs.size))) { s with heap := s.heap.push { cls := Value.type "tuple", data := Data.seq #[] }, toks := s.toks }) :=
  .of_wp fun prog w A R s h => by
    obtain ⟨hp, g, d, tk, os⟩ := s
    obtain ⟨hl, h⟩ := h
    have f1 := AutoSeq1.idx_int
    wp_walk using AutoSeq1.wpAny_loadPart' hl
    repeat (first
      | (refine wpAny_ite_false (decide_eq_false (by rw [c0]; exact Bool.false_ne_true)) ?_; wp_walk using AutoSeq1.wpAny_loadPart' hl)
      | (refine wpAny_ite_false (decide_eq_false (by rw [c1]; exact Bool.false_ne_true)) ?_; wp_walk using AutoSeq1.wpAny_loadPart' hl)
      | (refine wpAny_ite_true (decide_eq_true c2) ?_; wp_walk using AutoSeq1.wpAny_loadPart' hl))
    exact ⟨_, rfl, h⟩
theorem tuple_mul1 (l : Addr) (items : Array Value) (n : Nat) (sl : Array (Option Value)) (dd : Option Addr) (x : Int) (u : Tok) (c0 : (decide (x < -(2 ^ 63)) || decide (x ≥ 2 ^ 63)) = false) (c1 : (items.isEmpty || x == 1) = true) :
    Meets (Builtin.«tuple.__mul__» ⟨[.ref l, .int x u], []⟩) (fun _ R s => s.heap.get? l = some { cls := .type "tuple", dict := dd, data := .seq items n, slots := sl } ∧
      R (.ok (.ret (Value.ref l))) s) :=
  .of_wp fun prog w A R s h => by
    obtain ⟨hp, g, d, tk, os⟩ := s
    obtain ⟨hl, h⟩ := h
    have f1 := AutoSeq1.idx_int
    wp_walk using AutoSeq1.wpAny_loadPart' hl
    repeat (first
      | (refine wpAny_ite_false (decide_eq_false (by rw [c0]; exact Bool.false_ne_true)) ?_; wp_walk using AutoSeq1.wpAny_loadPart' hl)
      | (refine wpAny_ite_true (decide_eq_true c1) ?_; wp_walk using AutoSeq1.wpAny_loadPart' hl))
    exact ⟨_, rfl, h⟩
def rRepA (K : PySem.W.Frag) : R2 := fun x y H Q => ∃ l k xs, x = .ref l ∧ y = .int k ∧ SqT K H l xs ∧ -(2 ^ 62) ≤ k ∧ k ≤ 1000 ∧ xs.length ≤ 1000 ∧
  ((xs = [] ∨ k = 1) → Q (.ref l) H) ∧ (¬ (xs = [] ∨ k = 1) → ∀ p, H p = none → Q (.ref p) (upd H p (.tup (List.replicate k.toNat xs).flatten)))
section
variable {X : Cx} {a b : Expr} {ta tb : PTE} {pos : Pos}
theorem op_repA : OpR X (binaryOp .Mult) (rRepA X.K) := by
  rintro pins s σ H x y v u Q I rx ry ⟨l, k, xs, ex, ey, hT, hk1, hk2, hz, q1, q2⟩
  by_cases big : xs ≠ [] ∧ 2 ≤ k
  · exact op_repT pins s σ H x y v u Q I rx ry ⟨l, k, xs, ex, ey, hT, big.1, big.2, hk2, hz, q2 (fun z => z.elim big.1 (fun z => by omega))⟩
  · subst ex; subst ey
    cases rx
    obtain ⟨t, rfl⟩ := ry
    obtain ⟨its, r, ⟨⟨cls, dd, data, sl⟩, ho, hc, n, hd⟩, hs⟩ := I.tuple hT
    simp only at hc hd
    subst hc hd
    have hl := r.length
    have emp : its.toArray.isEmpty = decide (xs = []) := by
      cases xs with
      | nil =>
        cases its with
        | nil => rfl
        | cons a b => cases hl
      | cons x r =>
        cases its with
        | nil => cases hl
        | cons a b => rfl
    have c0 : (decide (k < -(2 ^ 63)) || decide (k ≥ 2 ^ 63)) = false := by
      rw [decide_eq_false (by omega), decide_eq_false (by omega)]
      rfl
    have hrm := int_rmul_tuple k t l its.toArray n dd sl
    have tT : s.TypeIs (.ref l) "tuple" := ⟨_, ho, rfl⟩
    by_cases same : xs = [] ∨ k = 1
    · have c1 : (its.toArray.isEmpty || k == 1) = true := by
        rw [emp, Bool.or_eq_true]
        rcases same with z | z
        · exact .inl (decide_eq_true z)
        · exact .inr (by rw [z]; rfl)
      refine wpAny_binaryOp_repeat_ref (T := "tuple") (U := "int") (by decide) tT (fun s' => typeIs_int s' k t) noFill_tuple_mul PySem.F.fills_int_mul PySem.F.slot_int_rmul repeat_tuple PySem.F.slot_int_index.lookup ?_
      refine call_meets PySem.F.slot_int_rmul (typeIs_int s k t) PySem.F.entry_int_rmul (PySem.F.args_int_rmul_2 _ _) hrm ⟨ho, rfl, tT, ?_⟩
      refine call_meets PySem.F.slot_tuple_mul tT PySem.F.entry_tuple_mul (PySem.F.args_tuple_mul_2 _ _) (tuple_mul1 l its.toArray n sl dd k t c0 c1) ⟨ho, ?_⟩
      exact ⟨.ref l, H, I, rfl, q1 same⟩
    · have nx : xs ≠ [] := fun z => same (.inl z)
      have nk : k ≠ 1 := fun z => same (.inr z)
      have kle : k ≤ 0 := by
        by_cases h2 : 2 ≤ k
        · exact absurd ⟨nx, h2⟩ big
        · omega
      have c1 : (its.toArray.isEmpty || k == 1) = false := by
        rw [emp, decide_eq_false nx, Bool.false_or]
        exact beq_eq_false_iff_ne.mpr nk
      have c2 : (decide (k ≤ 0) || its.toArray.isEmpty) = true := by rw [decide_eq_true kle, Bool.true_or]
      refine wpAny_binaryOp_repeat_ref (T := "tuple") (U := "int") (by decide) tT (fun s' => typeIs_int s' k t) noFill_tuple_mul PySem.F.fills_int_mul PySem.F.slot_int_rmul repeat_tuple PySem.F.slot_int_index.lookup ?_
      refine call_meets PySem.F.slot_int_rmul (typeIs_int s k t) PySem.F.entry_int_rmul (PySem.F.args_int_rmul_2 _ _) hrm ⟨ho, rfl, tT, ?_⟩
      refine call_meets PySem.F.slot_tuple_mul tT PySem.F.entry_tuple_mul (PySem.F.args_tuple_mul_2 _ _) (tuple_mul0 l its.toArray n sl dd k t c0 c1 c2) ⟨ho, ?_⟩
      have e0 : (List.replicate k.toNat xs).flatten = [] := by
        have : k.toNat = 0 := by omega
        rw [this]
        rfl
      have q := q2 same
      rw [e0] at q
      refine ⟨.ref s.heap.objs.size, _, I.laid (t' := s.toks) (o := .tup []) (fun b ob q => Heap.get?_push_of_some _ q) (Nat.le_refl _) ?_, rfl, q _ (I.hok.fresh (Nat.le_refl _))⟩
      exact ⟨Nat.zero_le _, [], .nil, IsTup.new _ _⟩
def oMulA : PO2 := fun x y M Q => match x, y with
  | .int i, .int j => CMul i j ∧ Q (.int (i * j)) M
  | .tup xs, .int k => (-(2 ^ 62) ≤ k ∧ k ≤ 1000 ∧ xs.length ≤ 1000) ∧ Q (.tup (List.replicate k.toNat xs).flatten) M
  | _, _ => False
theorem RAll.rep {K : PySem.W.Frag} {F : Hp} {xs : List PV} {vs : List V} (r : RAll K F xs vs) : ∀ n : Nat, RAll K F (List.replicate n xs).flatten (List.replicate n vs).flatten
  | 0 => .nil
  | n + 1 => by
    rw [List.replicate_succ, List.replicate_succ, List.flatten_cons, List.flatten_cons]
    exact r.append (RAll.rep r n)
theorem LE.mulA (ha : LE X a ta) (hb : LE X b tb) : LE X (.BinOp a .Mult b pos) (pBin oMulA ta tb) := by
  refine LE.bin (OpR.or op_mul op_repA) (fun F M H x y xv yv Q Qv rm rx ry h k => ?_) ha hb
  cases rx <;> cases ry <;> first
    | exact h.elim
    | exact .inl ⟨_, _, rfl, rfl, h.1, k _ _ (LQ.now rm (.int _) h.2)⟩
    | skip
  rename_i a' xs vs e q j
  refine .inr ⟨_, j, vs, rfl, rfl, sqT_same rm.fr e, h.1.1, h.1.2.1, by rw [← q.length]; exact h.1.2.2, fun z => ?_, fun z p np => ?_⟩
  · have e2 : (List.replicate j.toNat xs).flatten = xs := by
      rcases z with z | z
      · subst z
        have : xs = [] := List.eq_nil_of_length_eq_zero q.length
        rw [this]
        simp
      · subst z
        show (List.replicate 1 xs).flatten = xs
        simp
    have h2 := h.2
    rw [e2] at h2
    exact k _ _ (LQ.now rm (.tup e q) h2)
  · exact k _ _ ⟨_, M, _, rm.beh np, .tup (SqT.of upd_same) ((q.rep _).same (rm.beh (o := .tup _) np).sm), h.2⟩
end
end PL
set_option Elab.async false
set_option linter.all false
set_option maxRecDepth 100000
namespace PL
open PySem PySem.Spec PyProof.Rows L2
/-! ### for over a list that may change, but doesn't meanwhile -/
def pForG (G : Mem → Prop) (g : PTG) (tb : PTS) : List PV → PTS
  | [] => fun D σ M => D.nx σ M
  | x :: xs => fun D σ M => g x σ M fun σ1 M1 => tb { D with nx := fun σ M => G M ∧ pForG G g tb xs D σ M, bk := D.nx, ct := fun σ M => G M ∧ pForG G g tb xs D σ M } σ1 M1
def pForM (te : PTE) (g : PTG) (tb : PTS) : PTS := fun D σ M => te D.ex σ M fun x M1 => need (lstOf M1 x) fun xs => pForG (fun M => lstOf M x = some xs) g tb xs D σ M1
section
variable {X : Cx} {tg iter : Expr} {body : List Stmt} {te : PTE} {g : PTG} {tb : PTS} {pos : Pos}
theorem LS.forM (hp : PassesOwn (model X.prog X.w) X.A X.env X.xe) (hc : X.calm = true) (hi : LE X iter te) (hg : LG X tg g) (hb : LSs X body tb) (hs : ∀ x, foldedSetIterable iter X.env x = pure x := by intro _; rfl) : LS X (.For tg iter body [] pos) (pForM te g tb) := by
  refine ⟨fun σv H σ F M D tk rm rs h => WS.of (ps_for hp hc (pi_list WE.pe) WG.pg WSs.ps hs) ?_⟩
  refine (hi.run σv H σ F M _ D.ex tk rm rs h).mono ?_
  rintro v H1 ⟨F1, M1, x, b1, rx, h1⟩
  obtain ⟨xs, e1, h1⟩ := need_of h1
  obtain ⟨a, vs0, ev, hs0, ra0⟩ := rx.lstI b1.rm e1
  subst ev
  have len0 := ra0.length
  refine ⟨a, rfl, ⟨vs0, hs0⟩, fun i m σv' H' => m = xs.length - i ∧ i ≤ xs.length ∧ ∃ F' M' σ', Beh X.K F M H F' M' H' ∧ Same F1 F' ∧ RS X.K F' σ' σv' ∧ lstOf M' x = some xs ∧ pForG (fun M => lstOf M x = some xs) g tb (xs.drop i) D σ' M', ⟨xs.length, rfl, Nat.zero_le _, F1, M1, σ, b1, Same.refl _, rs.same b1.sm, e1, h1⟩, ?_⟩
  rintro i m σv2 H2 ⟨rfl, hi2, F2, M2, σ2, b2, sm2, rs2, e2, h2⟩
  obtain ⟨a2, vs, ev, hs2, ra⟩ := (rx.same sm2).lstI b2.rm e2
  cases ev
  by_cases hlt : i < xs.length
  · rw [List.drop_eq_getElem_cons hlt] at h2
    obtain ⟨w, ew, rw'⟩ := ra.get (List.getElem?_eq_getElem hlt)
    refine .inr ⟨⟨vs, w, hs2, ew⟩, _, fun σv' H' n => ⟨_, (show xs.length - (i + 1) < xs.length - i by omega), n⟩, fun v H3 y => ?_⟩
    obtain ⟨rfl, y⟩ := y
    have e3 := y vs hs2
    rw [ew] at e3
    cases e3
    refine (hg.run σv2 H3 σ2 F2 M2 _ w _ b2.rm rs2 rw' h2).mono ?_
    rintro σv4 H4 ⟨F4, M4, σ4, b4, rs4, h4⟩
    have b04 := b2.trans b4
    refine (hb.run σv4 H4 σ4 F4 M4 { D with nx := fun σ M => lstOf M x = some xs ∧ pForG (fun M => lstOf M x = some xs) g tb (xs.drop (i + 1)) D σ M, bk := D.nx, ct := fun σ M => lstOf M x = some xs ∧ pForG (fun M => lstOf M x = some xs) g tb (xs.drop (i + 1)) D σ M } (tk.tr b04) b04.rm rs4 h4).mono ⟨?_, fun _ _ q => q.tr b04, fun _ _ q => q.tr b04, ?_⟩
    · rintro σv5 H5 ⟨F5, M5, σ5, b5, rs5, g5, h5⟩
      exact ⟨rfl, hlt, F5, M5, σ5, b04.trans b5, (sm2.trans b4.sm).trans b5.sm, rs5, g5, h5⟩
    · rintro σv5 H5 ⟨F5, M5, σ5, b5, rs5, g5, h5⟩
      exact ⟨rfl, hlt, F5, M5, σ5, b04.trans b5, (sm2.trans b4.sm).trans b5.sm, rs5, g5, h5⟩
  · have e : i = xs.length := by omega
    subst e
    rw [List.drop_length] at h2
    exact .inl ⟨⟨vs, hs2, by rw [← ra.length]; exact Nat.le_refl _⟩, F2, M2, σ2, b2, rs2, h2⟩
end
end PL
set_option Elab.async false
set_option linter.all false
set_option maxRecDepth 100000
namespace PL
open PySem PySem.Spec PyProof.Rows L2
/-! ### how readings compute -/
theorem kit_ib : kitB "int" "bool" = some false := by decide +kernel
theorem kit_ii : kitB "int" "int" = some true := by decide +kernel
theorem kit_it : kitB "int" "tuple" = some false := by decide +kernel
theorem kit_il : kitB "int" "list" = some false := by decide +kernel
theorem kit_is : kitB "int" "str" = some false := by decide +kernel
theorem kit_bb : kitB "bool" "bool" = some true := by decide +kernel
theorem kit_bi : kitB "bool" "int" = some true := by decide +kernel
theorem kit_bt : kitB "bool" "tuple" = some false := by decide +kernel
theorem kit_bl : kitB "bool" "list" = some false := by decide +kernel
theorem kit_bs : kitB "bool" "str" = some false := by decide +kernel
theorem kit_tb : kitB "tuple" "bool" = some false := by decide +kernel
theorem kit_ti : kitB "tuple" "int" = some false := by decide +kernel
theorem kit_tt : kitB "tuple" "tuple" = some true := by decide +kernel
theorem kit_tl : kitB "tuple" "list" = some false := by decide +kernel
theorem kit_ts : kitB "tuple" "str" = some false := by decide +kernel
theorem kit_lb : kitB "list" "bool" = some false := by decide +kernel
theorem kit_li : kitB "list" "int" = some false := by decide +kernel
theorem kit_lt : kitB "list" "tuple" = some false := by decide +kernel
theorem kit_ll : kitB "list" "list" = some true := by decide +kernel
theorem kit_ls : kitB "list" "str" = some false := by decide +kernel
theorem kit_sb : kitB "str" "bool" = some false := by decide +kernel
theorem kit_si : kitB "str" "int" = some false := by decide +kernel
theorem kit_st : kitB "str" "tuple" = some false := by decide +kernel
theorem kit_sl : kitB "str" "list" = some false := by decide +kernel
theorem kit_ss : kitB "str" "str" = some true := by decide +kernel
theorem kit_nb : kitB "NoneType" "bool" = some false := by decide +kernel
theorem kit_ni : kitB "NoneType" "int" = some false := by decide +kernel
theorem kit_nt : kitB "NoneType" "tuple" = some false := by decide +kernel
theorem kit_nl : kitB "NoneType" "list" = some false := by decide +kernel
theorem kit_ns : kitB "NoneType" "str" = some false := by decide +kernel
section
variable {M : Mem} {T : String} {Q : PQ} {n : String}
theorem isi_of {v : PV} (h : tyOf M v = some n) : kIsi T v M Q = need (kitB n T) fun b => Q (.bl b) M := by
  unfold kIsi isi
  rw [h]
  rfl
theorem isi_int {i : Int} : kIsi T (.int i) M Q = need (kitB "int" T) fun b => Q (.bl b) M := rfl
theorem isi_bl {i : Bool} : kIsi T (.bl i) M Q = need (kitB "bool" T) fun b => Q (.bl b) M := rfl
theorem isi_str {i : Str} : kIsi T (.str i) M Q = need (kitB "str" T) fun b => Q (.bl b) M := rfl
theorem isi_non : kIsi T .non M Q = need (kitB "NoneType" T) fun b => Q (.bl b) M := rfl
theorem isi_tup {xs : List PV} : kIsi T (.tup xs) M Q = need (kitB "tuple" T) fun b => Q (.bl b) M := rfl
theorem isi_lst {xs : List PV} : kIsi T (.lst xs) M Q = need (kitB "list" T) fun b => Q (.bl b) M := rfl
theorem tyOf_ptr {a : Addr} {xs : List PV} (h : M a = some (.lst xs)) : tyOf M (.ptr a) = some "list" := by
  show (match M a with | some (.lst _) => some "list" | _ => none) = some "list"
  rw [h]
/-! subscripts -/
theorem ix_tup {xs : List PV} {i : Int} : oIx (.tup xs) (.int i) M Q = need (L2.atI xs i) fun z => Q z M := rfl
theorem ix_lst {xs : List PV} {i : Int} : oIx (.lst xs) (.int i) M Q = need (L2.atI xs i) fun z => Q z M := rfl
theorem ix_scr {xs : List PV} {i : Int} : oIx (.scr xs) (.int i) M Q = need (L2.atI xs i) fun z => Q z M := rfl
theorem ix_ptr {a : Addr} {xs : List PV} {i : Int} (h : M a = some (.lst xs)) : oIx (.ptr a) (.int i) M Q = need (L2.atI xs i) fun z => Q z M := by
  show need (seqOf M (.ptr a)) _ = _
  rw [seqOf_ptr h]
  rfl
theorem at_nat {α : Type} (xs : List α) (n : Nat) : L2.atI xs (n : Int) = xs[n]? := by
  unfold L2.atI ixN
  rw [if_pos (Int.natCast_nonneg n)]
  by_cases h : (n : Int) < xs.length
  · rw [if_pos h]
    rfl
  · rw [if_neg h]
    have : xs.length ≤ n := by omega
    rw [List.getElem?_eq_none this]
    rfl
theorem at_pos {α : Type} (xs : List α) {i : Int} (h : 0 ≤ i) : L2.atI xs i = xs[i.toNat]? := by
  have e : i = ((i.toNat : Nat) : Int) := (Int.toNat_of_nonneg h).symm
  rw [e, at_nat]
  rfl
theorem at_0 {α : Type} (xs : List α) : L2.atI xs 0 = xs[0]? := at_nat xs 0
theorem at_1 {α : Type} (xs : List α) : L2.atI xs 1 = xs[1]? := at_nat xs 1
theorem at_2 {α : Type} (xs : List α) : L2.atI xs 2 = xs[2]? := at_nat xs 2
theorem at_3 {α : Type} (xs : List α) : L2.atI xs 3 = xs[3]? := at_nat xs 3
theorem at_4 {α : Type} (xs : List α) : L2.atI xs 4 = xs[4]? := at_nat xs 4
theorem at_5 {α : Type} (xs : List α) : L2.atI xs 5 = xs[5]? := at_nat xs 5
theorem at_last {α : Type} (xs : List α) (h : xs ≠ []) : L2.atI xs (-1) = xs.getLast? := by
  rcases List.eq_nil_or_concat xs with e | ⟨r, y, e⟩
  · exact absurd e h
  · rw [e, List.concat_eq_append, atI_last]
    simp
/-! lengths -/
theorem len_tup {xs : List PV} : kLen (.tup xs) M Q = Q (.int xs.length) M := rfl
theorem len_lst {xs : List PV} : kLen (.lst xs) M Q = Q (.int xs.length) M := rfl
theorem len_scr {xs : List PV} : kLen (.scr xs) M Q = Q (.int xs.length) M := rfl
theorem len_ptr {a : Addr} {xs : List PV} (h : M a = some (.lst xs)) : kLen (.ptr a) M Q = Q (.int xs.length) M := by
  show need (seqOf M (.ptr a)) _ = _
  rw [seqOf_ptr h]
  rfl
/-! == of ints, of tuples of ints -/
theorem eq_int' {i j : Int} : oEq (.int i) (.int j) M Q = Q (.bl (decide (i = j))) M := rfl
theorem ne_int' {i j : Int} : oNe (.int i) (.int j) M Q = Q (.bl (!decide (i = j))) M := rfl
theorem eq_bl' {i j : Bool} : oEq (.bl i) (.bl j) M Q = Q (.bl (decide (i = j))) M := rfl
theorem ne_bl' {i j : Bool} : oNe (.bl i) (.bl j) M Q = Q (.bl (!decide (i = j))) M := rfl
theorem eq_str' {i j : Str} : oEq (.str i) (.str j) M Q = Q (.bl (decide (i = j))) M := rfl
theorem ne_str' {i j : Str} : oNe (.str i) (.str j) M Q = Q (.bl (!decide (i = j))) M := rfl
theorem eqvAll_ints : ∀ xs ys : List Int, PyData.eqvAll (xs.map .int) (ys.map .int) = decide (xs = ys)
  | [], [] => rfl
  | [], _ :: _ => rfl
  | _ :: _, [] => rfl
  | x :: xs, y :: ys => by
    show (PyData.eqv (.int x) (.int y) && PyData.eqvAll (xs.map .int) (ys.map .int)) = _
    rw [eqvAll_ints xs ys]
    show ((x == y) && decide (xs = ys)) = decide (x :: xs = y :: ys)
    by_cases h : x = y
    · subst h
      simp
    · simp [h]
theorem toD_tI (xs : List Int) : toD (.tup (xs.map .int)) = some (.tuple (xs.map .int)) := by
  unfold toD
  rw [toDs_ints]
  rfl
theorem eqP_tI {xs ys : List Int} {k : Bool → Prop} : eqP (.tup (xs.map .int)) (.tup (ys.map .int)) k = k (decide (xs = ys)) := by
  unfold eqP
  show need (toD _) _ = _
  rw [toD_tI]
  show need (toD _) _ = _
  rw [toD_tI]
  show (_ ∧ _ ∧ k (PyData.eqvAll (xs.map .int) (ys.map .int))) = _
  rw [eqvAll_ints]
  have d : ∀ zs : List Int, PyData.depth (.tuple (zs.map .int)) ≤ 64 := fun zs => by
    show PyData.depthAll (zs.map .int) + 1 ≤ 64
    rw [depth_ints]
    decide
  exact propext ⟨fun h => h.2.2, fun h => ⟨d xs, d ys, h⟩⟩
end
/-! slices -/
def cutA {α : Type} (xs : List α) (lo hi : Option Int) : List α := (xs.drop (HT.sIx xs.length 0 lo)).take (HT.sIx xs.length xs.length hi - HT.sIx xs.length 0 lo)
theorem cutP_eq (xs : List PV) (lo hi : Option Int) : cutP xs lo hi = cutA xs lo hi := rfl
theorem cutA_map {α β : Type} (f : α → β) (xs : List α) (lo hi : Option Int) : cutA (xs.map f) lo hi = (cutA xs lo hi).map f := by
  unfold cutA
  rw [List.length_map, List.map_take, List.map_drop]
theorem sIx_none' (n d : Nat) : HT.sIx n d none = d := rfl
theorem sIx_nn {n d : Nat} {k : Int} (h : 0 ≤ k) : HT.sIx n d (some k) = min k.toNat n := by
  show (if k < 0 then _ else _) = _
  rw [if_neg (by omega)]
theorem cutA_from {α : Type} (xs : List α) {k : Int} (h : 0 ≤ k) : cutA xs (some k) none = xs.drop k.toNat := by
  unfold cutA
  rw [sIx_nn h, sIx_none']
  by_cases hk : k.toNat ≤ xs.length
  · rw [Nat.min_eq_left hk]
    exact List.take_of_length_le (by rw [List.length_drop]; exact Nat.le_refl _)
  · rw [Nat.min_eq_right (by omega)]
    simp
    omega
theorem cutA_from1 {α : Type} (xs : List α) : cutA xs (some 1) none = xs.tail := by
  rw [cutA_from xs (by decide)]
  show xs.drop 1 = xs.tail
  simp
theorem cutA_to {α : Type} (xs : List α) {k : Int} (h : 0 ≤ k) : cutA xs none (some k) = xs.take k.toNat := by
  unfold cutA
  rw [sIx_nn h, sIx_none', Nat.sub_zero, List.drop_zero]
  by_cases hk : k.toNat ≤ xs.length
  · rw [Nat.min_eq_left hk]
  · rw [Nat.min_eq_right (by omega), List.take_of_length_le (Nat.le_refl _), List.take_of_length_le (by omega)]
section
variable {M : Mem} {Q : PQ} {lo hi : Option Int}
theorem sl_tup {xs : List PV} : oSl (.tup xs) lo hi M Q = Q (.tup (cutA xs lo hi)) M := rfl
theorem sl_lst {xs : List PV} : oSl (.lst xs) lo hi M Q = Q (.lst (cutA xs lo hi)) M := rfl
theorem sl_scr {xs : List PV} : oSl (.scr xs) lo hi M Q = Q (.lst (cutA xs lo hi)) M := rfl
theorem sl_ptr {a : Addr} {xs : List PV} (h : M a = some (.lst xs)) : oSl (.ptr a) lo hi M Q = Q (.lst (cutA xs lo hi)) M := by
  show need (lstOf M (.ptr a)) _ = _
  rw [lstOf_ptr h]
  rfl
end
theorem line_lt {n : Nat} (h : n < 10000000) : n ≤ sizeLine := by
  rw [sizeLine_eq]
  omega
theorem line_lt' {n : Nat} (h : n < 10000000) : n < sizeLine := by
  rw [sizeLine_eq]
  omega
/-! lists that may change, fields -/
section
variable {M : Mem} {Q : PQ}
theorem len_of {x : PV} {xs : List PV} (h : lstOf M x = some xs) : kLen x M Q = Q (.int xs.length) M := by
  have e := lstOf_seq h
  cases x <;> first
    | (show need (seqOf M (.ptr _)) _ = _; rw [e]; rfl)
    | (cases h; rfl)
    | cases h
theorem list_of {x : PV} {xs : List PV} (h : lstOf M x = some xs) : kList x M Q = Q (.lst xs) M := by
  unfold kList
  rw [lstOf_seq h]
  rfl
theorem tupOf_of {x : PV} {xs : List PV} (h : seqOf M x = some xs) : PL.kTup x M Q = Q (.tup xs) M := by
  unfold PL.kTup
  rw [h]
  rfl
theorem putF_ptr {C : Addr} {f : Str} {x : PV} {p : Addr} {fs : List (Str × PV)} {k : Mem → Prop} (h : M p = some (.obj C fs)) : kPutF C f x (.ptr p) M k = (fs.length < 1000 ∧ k (M.put p (.obj C (putP f x fs)))) := by
  show (match M p with | some (.obj C' fs) => C' = C ∧ fs.length < 1000 ∧ k (M.put p (.obj C (putP f x fs))) | _ => False) = _
  rw [h]
  exact propext ⟨fun z => z.2, fun z => ⟨rfl, z⟩⟩
theorem app_ptr {p : Addr} {xs : List PV} {x : PV} (h : M p = some (.lst xs)) (hz : xs.length < sizeLine) : kApp (.ptr p) x M Q = Q .non (M.put p (.lst (xs ++ [x]))) := by
  show (match M p with | some (.lst xs) => xs.length < sizeLine ∧ Q .non (M.put p (.lst (xs ++ [x]))) | _ => False) = _
  rw [h]
  exact propext ⟨fun z => z.2, fun z => ⟨hz, z⟩⟩
theorem set_ptr {p : Addr} {xs : List PV} {x : PV} {i : Int} {k : Mem → Prop} (h : M p = some (.lst xs)) (h0 : 0 ≤ i) (h1 : i < xs.length) : kSet (.ptr p) (.int i) x M k = k (M.put p (.lst (xs.set i.toNat x))) := by
  show (match M p with | some (.lst xs) => need (ixN xs.length i) fun j => k (M.put p (.lst (xs.set j x))) | _ => False) = _
  rw [h]
  show need (ixN xs.length i) _ = _
  unfold ixN
  rw [if_pos h0, if_pos h1]
  rfl
theorem fz_ptr {p : Addr} {xs : List PV} (h : M p = some (.lst xs)) : kFz (.ptr p) M Q = Q (.lst xs) (M.drop p) := by
  show (match M p with | some (.lst xs) => Q (.lst xs) (M.drop p) | some (.obj C fs) => Q (.obj C fs) (M.drop p) | none => False) = _
  rw [h]
end
theorem lstOf_put {M : Mem} {x : PV} {xs : List PV} {p : Addr} {o : MO} (h : lstOf M x = some xs) (hp : ∀ ys, M p ≠ some (.lst ys)) : lstOf (M.put p o) x = some xs := by
  cases x with
  | ptr a =>
    have hm : M a = some (.lst xs) := by
      have h' : (match M a with | some (.lst xs) => some xs | _ => none) = some xs := h
      cases e : M a with
      | none => rw [e] at h'; cases h'
      | some m =>
        rw [e] at h'
        cases m with
        | lst ys => cases h'; rfl
        | obj C fs => cases h'
    have ne : a ≠ p := fun z => hp xs (by rw [← z]; exact hm)
    refine lstOf_ptr ?_
    rw [put_ne ne]
    exact hm
  | lst ys => exact h
  | scr ys => exact h
  | _ => cases h
/-! readings at values that are known -/
section
variable {M : Mem} {Q : PQ} {D : PEnds} {σ : PSt} {E : PXK}
theorem r_add_int {i j : Int} : oAdd (.int i) (.int j) M Q = Q (.int (i + j)) M := rfl
theorem r_add_str {i j : Str} : oAdd (.str i) (.str j) M Q = (i.length + j.length ≤ sizeLine ∧ Q (.str (i ++ j)) M) := rfl
theorem r_add_tup {i j : List PV} : oAdd (.tup i) (.tup j) M Q = (i.length + j.length ≤ sizeLine ∧ Q (.tup (i ++ j)) M) := rfl
theorem r_add_lst {i j : List PV} : oAdd (.lst i) (.lst j) M Q = (i.length + j.length ≤ sizeLine ∧ Q (.lst (i ++ j)) M) := rfl
theorem r_mulA_int {i j : Int} : oMulA (.int i) (.int j) M Q = (CMul i j ∧ Q (.int (i * j)) M) := rfl
theorem r_mulA_tup {i : List PV} {k : Int} : oMulA (.tup i) (.int k) M Q = ((-(2 ^ 62) ≤ k ∧ k ≤ 1000 ∧ i.length ≤ 1000) ∧ Q (.tup (List.replicate k.toNat i).flatten) M) := rfl
theorem r_I0 {g : Int → Int → PV} {i j : Int} : oI0 g (.int i) (.int j) M Q = Q (g i j) M := rfl
theorem r_I {C : Int → Int → Prop} {g : Int → Int → PV} {i j : Int} : oI C g (.int i) (.int j) M Q = (C i j ∧ Q (g i j) M) := rfl
def kNeg (x : PV) (M : Mem) (Q : PQ) : Prop := match x with | .int i => Q (.int (-i)) M | _ => False
theorem r_neg {ta : PTE} : pNeg ta E σ M Q = ta E σ M fun x M1 => kNeg x M1 Q := rfl
theorem r_neg_int {i : Int} : kNeg (.int i) M Q = Q (.int (-i)) M := rfl
def kCh1 (p q : Int → Int → Bool) (tc : PTE) (E : PXK) (σ : PSt) (x y : PV) (M2 : Mem) (Q : PQ) : Prop := match x, y with
  | .int i, .int j => if p i j = true then tc E σ M2 fun z M3 => match z with | .int l => Q (.bl (q j l)) M3 | _ => False else Q (.bl false) M2
  | _, _ => False
def kCh2 (q : Int → Int → Bool) (j : Int) (z : PV) (M3 : Mem) (Q : PQ) : Prop := match z with | .int l => Q (.bl (q j l)) M3 | _ => False
theorem r_chain {p q : Int → Int → Bool} {ta tb tc : PTE} : pChain p q ta tb tc E σ M Q = ta E σ M fun x M1 => tb E σ M1 fun y M2 => kCh1 p q tc E σ x y M2 Q := rfl
theorem r_ch1 {p q : Int → Int → Bool} {tc : PTE} {i j : Int} : kCh1 p q tc E σ (.int i) (.int j) M Q = if p i j = true then tc E σ M fun z M3 => kCh2 q j z M3 Q else Q (.bl false) M := rfl
theorem r_ch2 {q : Int → Int → Bool} {j l : Int} : kCh2 q j (.int l) M Q = Q (.bl (q j l)) M := rfl
theorem r_abs {i : Int} : kAbs (.int i) M Q = Q (.int (if i < 0 then -i else i)) M := rfl
theorem r_int {i : Int} : kInt (.int i) M Q = Q (.int i) M := rfl
theorem r_min2 {i j : Int} : kMin2 (.int i) (.int j) M Q = Q (.int (if j < i then j else i)) M := rfl
theorem r_max2 {i j : Int} : kMax2 (.int i) (.int j) M Q = Q (.int (if j > i then j else i)) M := rfl
theorem r_list_lst {xs : List PV} : kList (.lst xs) M Q = Q (.lst xs) M := rfl
theorem r_list_tup {xs : List PV} : kList (.tup xs) M Q = Q (.lst xs) M := rfl
theorem r_list_scr {xs : List PV} : kList (.scr xs) M Q = Q (.lst xs) M := rfl
theorem r_tup_lst {xs : List PV} : PL.kTup (.lst xs) M Q = Q (.tup xs) M := rfl
theorem r_tup_tup {xs : List PV} : PL.kTup (.tup xs) M Q = Q (.tup xs) M := rfl
theorem r_listM_lst {xs : List PV} : kListM (.lst xs) M Q = ∀ p, M p = none → Q (.ptr p) (M.put p (.lst xs)) := rfl
theorem r_listM_tup {xs : List PV} : kListM (.tup xs) M Q = ∀ p, M p = none → Q (.ptr p) (M.put p (.lst xs)) := rfl
theorem r_on1 {k : PV → Mem → PQ → Prop} {x : PV} : on1 k [x] M Q = k x M Q := rfl
theorem r_on2 {k : PV → PV → Mem → PQ → Prop} {x y : PV} : on2 k [x, y] M Q = k x y M Q := rfl
theorem r_gtup {n : Nat} {u : PTGs} {xs : List PV} {R : PNx} : gpTup n u (.tup xs) σ M R = (xs.length = n ∧ u xs σ M R) := rfl
theorem r_gcons {t : PTG} {u : PTGs} {x : PV} {r : List PV} {R : PNx} : gpCons t u (x :: r) σ M R = t x σ M fun σ' M' => u r σ' M' R := rfl
theorem r_gnil {R : PNx} : gpNil [] σ M R = R σ M := rfl
theorem r_non_non : isNon .non = true := rfl
theorem r_non_int {i : Int} : isNon (.int i) = false := rfl
theorem r_non_tup {i : List PV} : isNon (.tup i) = false := rfl
theorem r_non_lst {i : List PV} : isNon (.lst i) = false := rfl
theorem r_non_str {i : Str} : isNon (.str i) = false := rfl
theorem r_non_bl {i : Bool} : isNon (.bl i) = false := rfl
theorem r_non_ptr {i : Addr} : isNon (.ptr i) = false := rfl
theorem r_non_obj {C : Addr} {fs : List (Str × PV)} : isNon (.obj C fs) = false := rfl
def kPartI (x : PV) (k : Option Int → Prop) : Prop := match x with | .int i => k (some i) | _ => False
theorem r_part {t : PTE} {R : Option Int → Mem → Prop} : pPart t E σ M R = t E σ M fun x M1 => kPartI x fun o => R o M1 := rfl
theorem r_part_int {i : Int} {k : Option Int → Prop} : kPartI (.int i) k = k (some i) := rfl
def kR1 (x : PV) (M1 : Mem) (R : List PV → Mem → Prop) : Prop := match x with | .int j => (-(2 ^ 62) ≤ j ∧ j < 2 ^ 62) ∧ R (rngP 0 j.toNat) M1 | _ => False
theorem r_R1 {te : PTE} {R : List PV → Mem → Prop} : piR1 te E σ M R = te E σ M fun x M1 => kR1 x M1 R := rfl
theorem r_R1_int {j : Int} {R : List PV → Mem → Prop} : kR1 (.int j) M R = ((-(2 ^ 62) ≤ j ∧ j < 2 ^ 62) ∧ R (rngP 0 j.toNat) M) := rfl
def kR2 (x y : PV) (M2 : Mem) (R : List PV → Mem → Prop) : Prop := match x, y with | .int i, .int j => (-(2 ^ 62) ≤ i ∧ i < 2 ^ 62 ∧ -(2 ^ 62) ≤ j ∧ j < 2 ^ 62) ∧ R (rngP i (j - i).toNat) M2 | _, _ => False
theorem r_R2 {ta tb : PTE} {R : List PV → Mem → Prop} : piR2 ta tb E σ M R = ta E σ M fun x M1 => tb E σ M1 fun y M2 => kR2 x y M2 R := rfl
theorem r_R2_int {i j : Int} {R : List PV → Mem → Prop} : kR2 (.int i) (.int j) M R = ((-(2 ^ 62) ≤ i ∧ i < 2 ^ 62 ∧ -(2 ^ 62) ≤ j ∧ j < 2 ^ 62) ∧ R (rngP i (j - i).toNat) M) := rfl
theorem r_lstF {xs : List PV} : lstF (.lst xs) = some xs := rfl
theorem r_lstF_scr {xs : List PV} : lstF (.scr xs) = some xs := rfl
theorem r_tupF {xs : List PV} : tupF (.tup xs) = some xs := rfl
end
end PL
set_option Elab.async false
set_option linter.all false
set_option maxRecDepth 100000
namespace PL
open PySem
/-! ### loops by what holds between their turns -/
theorem forL {g : PTG} {tb : PTS} {D : PEnds} (I : Nat → PNx) : ∀ (xs : List PV) (j : Nat) (hs : ∀ i x σ M K, xs[i]? = some x → I (j + i) σ M → (∀ σ' M', I (j + i + 1) σ' M' → K σ' M') → g x σ M fun σ1 M1 => tb { D with nx := K, bk := D.nx, ct := K } σ1 M1)
    (hd : ∀ σ M, I (j + xs.length) σ M → D.nx σ M) (σ : PSt) (M : Mem), I j σ M → pForL g tb xs D σ M
  | [], j, hs, hd, σ, M, h => hd σ M h
  | x :: xs, j, hs, hd, σ, M, h => by
    refine hs 0 x σ M (pForL g tb xs D) rfl h fun σ' M' h' => ?_
    refine forL I xs (j + 1) (fun i y σ M K e hi hk => ?_) (fun σ M hl => hd σ M ?_) σ' M' h'
    · have e1 : j + 1 + i = j + (i + 1) := by omega
      rw [e1] at hi hk
      exact hs (i + 1) y σ M K e hi hk
    · have e1 : j + 1 + xs.length = j + (x :: xs).length := by rw [List.length_cons]; omega
      rw [e1] at hl
      exact hl
theorem for_in {g : PTG} {tb : PTS} {D : PEnds} (I : Nat → PNx) {xs : List PV} {σ : PSt} {M : Mem} (h0 : I 0 σ M)
    (hs : ∀ i x σ M K, xs[i]? = some x → I i σ M → (∀ σ' M', I (i + 1) σ' M' → K σ' M') → g x σ M fun σ1 M1 => tb { D with nx := K, bk := D.nx, ct := K } σ1 M1)
    (hd : ∀ σ M, I xs.length σ M → D.nx σ M) : pForL g tb xs D σ M :=
  forL I xs 0 (fun i x σ M K e hi hk => by rw [Nat.zero_add] at hi hk; exact hs i x σ M K e hi hk) (fun σ M h => hd σ M (by rw [Nat.zero_add] at h; exact h)) σ M h0
theorem for_rng {g : PTG} {tb : PTS} {D : PEnds} (I : Nat → PNx) {lo : Int} {n : Nat} {σ : PSt} {M : Mem} (h0 : I 0 σ M)
    (hs : ∀ (i : Nat) σ M K, i < n → I i σ M → (∀ σ' M', I (i + 1) σ' M' → K σ' M') → g (.int (lo + i)) σ M fun σ1 M1 => tb { D with nx := K, bk := D.nx, ct := K } σ1 M1)
    (hd : ∀ σ M, I n σ M → D.nx σ M) : pForL g tb (rngP lo n) D σ M := by
  refine for_in I h0 (fun i x σ M K e hi hk => ?_) (fun σ M h => hd σ M (by rw [rngP_length] at h; exact h))
  have hlt : i < n := by
    have := (List.getElem?_eq_some_iff.mp e).1
    rw [rngP_length] at this
    exact this
  have ex : x = .int (lo + i) := by
    have e2 : (rngP lo n)[i]? = some (PV.int (lo + i)) := by
      unfold rngP
      rw [List.getElem?_map, List.getElem?_range hlt]
      rfl
    exact Option.some.inj (e.symm.trans e2)
  rw [ex]
  exact hs i σ M K hlt hi hk
theorem forG {G : Mem → Prop} {g : PTG} {tb : PTS} {D : PEnds} (I : Nat → PNx) : ∀ (xs : List PV) (j : Nat) (hs : ∀ i x σ M K, xs[i]? = some x → I (j + i) σ M → (∀ σ' M', G M' → I (j + i + 1) σ' M' → K σ' M') → g x σ M fun σ1 M1 => tb { D with nx := K, bk := D.nx, ct := K } σ1 M1)
    (hd : ∀ σ M, I (j + xs.length) σ M → D.nx σ M) (σ : PSt) (M : Mem), I j σ M → pForG G g tb xs D σ M
  | [], j, hs, hd, σ, M, h => hd σ M h
  | x :: xs, j, hs, hd, σ, M, h => by
    refine hs 0 x σ M (fun σ M => G M ∧ pForG G g tb xs D σ M) rfl h fun σ' M' hg h' => ⟨hg, ?_⟩
    refine forG I xs (j + 1) (fun i y σ M K e hi hk => ?_) (fun σ M hl => hd σ M ?_) σ' M' h'
    · have e1 : j + 1 + i = j + (i + 1) := by omega
      rw [e1] at hi hk
      exact hs (i + 1) y σ M K e hi hk
    · have e1 : j + 1 + xs.length = j + (x :: xs).length := by rw [List.length_cons]; omega
      rw [e1] at hl
      exact hl
theorem for_inG {G : Mem → Prop} {g : PTG} {tb : PTS} {D : PEnds} (I : Nat → PNx) {xs : List PV} {σ : PSt} {M : Mem} (h0 : I 0 σ M)
    (hs : ∀ i x σ M K, xs[i]? = some x → I i σ M → (∀ σ' M', G M' → I (i + 1) σ' M' → K σ' M') → g x σ M fun σ1 M1 => tb { D with nx := K, bk := D.nx, ct := K } σ1 M1)
    (hd : ∀ σ M, I xs.length σ M → D.nx σ M) : pForG G g tb xs D σ M :=
  forG I xs 0 (fun i x σ M K e hi hk => by rw [Nat.zero_add] at hi hk; exact hs i x σ M K e hi hk) (fun σ M h => hd σ M (by rw [Nat.zero_add] at h; exact h)) σ M h0
theorem whileN {c : PTT} {tb : PTS} {D : PEnds} (I : Nat → PNx)
    (hs : ∀ m σ M K, I m σ M → (∀ m' σ' M', m' < m → I m' σ' M' → K σ' M') → c D.ex σ M fun b M1 => if b = true then tb { D with nx := K, bk := D.nx, ct := K } σ M1 else D.nx σ M1) :
    ∀ (n m : Nat) (σ : PSt) (M : Mem), m < n → I m σ M → pWhileN c tb n D σ M
  | 0, m, σ, M, h, _ => absurd h (Nat.not_lt_zero _)
  | n + 1, m, σ, M, h, hI => hs m σ M (pWhileN c tb n D) hI fun m' σ' M' hm hI' => whileN I hs n m' σ' M' (by omega) hI'
theorem while_in {c : PTT} {tb : PTS} {D : PEnds} (I : Nat → PNx) {m : Nat} {σ : PSt} {M : Mem} (h0 : I m σ M)
    (hs : ∀ m σ M K, I m σ M → (∀ m' σ' M', m' < m → I m' σ' M' → K σ' M') → c D.ex σ M fun b M1 => if b = true then tb { D with nx := K, bk := D.nx, ct := K } σ M1 else D.nx σ M1) : pWhile c tb D σ M :=
  ⟨m + 1, whileN I hs (m + 1) m σ M (Nat.lt_succ_self m) h0⟩
/-! ### comprehensions of plain elements -/
theorem lc_pure {i : Nat} {tt : PTT} {te : PTE} {σ : PSt} {M : Mem} {Q : PQ} (p : PV → Bool) (f : PV → PV) : ∀ (xs : List PV) (acc : List PV)
    (ht : ∀ x ∈ xs, ∀ R : Bool → Mem → Prop, R (p x) M → tt noX (σ.set i (some x)) M R) (he : ∀ x ∈ xs, p x = true → ∀ R : PQ, R (f x) M → te noX (σ.set i (some x)) M R),
    Q (.lst (acc ++ (xs.filter p).map f)) M → pLcL i tt te xs acc σ M Q
  | [], acc, ht, he, q => by
    rw [List.filter_nil, List.map_nil, List.append_nil] at q
    exact q
  | x :: xs, acc, ht, he, q => by
    refine ht x List.mem_cons_self _ ?_
    have ht' : ∀ y ∈ xs, ∀ R : Bool → Mem → Prop, R (p y) M → tt noX (σ.set i (some y)) M R := fun y hy => ht y (List.mem_cons_of_mem _ hy)
    have he' : ∀ y ∈ xs, p y = true → ∀ R : PQ, R (f y) M → te noX (σ.set i (some y)) M R := fun y hy => he y (List.mem_cons_of_mem _ hy)
    cases hp : p x with
    | true =>
      rw [if_pos rfl]
      refine he x List.mem_cons_self hp _ (lc_pure p f xs (acc ++ [f x]) ht' he' ?_)
      rw [List.filter_cons, if_pos hp, List.map_cons] at q
      rw [List.append_assoc]
      exact q
    | false =>
      rw [if_neg Bool.false_ne_true]
      refine lc_pure p f xs acc ht' he' ?_
      rw [List.filter_cons, if_neg (by rw [hp]; exact Bool.false_ne_true)] at q
      exact q
theorem lc_map {i : Nat} {te : PTE} {σ : PSt} {M : Mem} {Q : PQ} (f : PV → PV) {xs : List PV} (he : ∀ x ∈ xs, ∀ R : PQ, R (f x) M → te noX (σ.set i (some x)) M R) (q : Q (.lst (xs.map f)) M) : pLcL i pYes te xs [] σ M Q := by
  refine lc_pure (fun _ => true) f xs [] (fun x _ R h => h) (fun x hx _ => he x hx) ?_
  rw [List.nil_append, List.filter_eq_self.mpr (fun _ _ => rfl)]
  exact q
theorem cdiv_eq (i j : Int) : L2.CDiv i j = (0 < j ∧ j < 1073741824) := rfl
theorem put_mid {M : Mem} {a b : Addr} {o o' u : MO} (h : a ≠ b) : ((M.put a o).put b u).put a o' = (M.put a o').put b u := by
  rw [put_swap (Ne.symm h), put_put]
theorem put_over {M : Mem} {a b : Addr} {o u u' : MO} : ((M.put a o).put b u).put b u' = (M.put a o).put b u' := put_put
end PL
set_option Elab.async false
set_option linter.all false
set_option maxRecDepth 100000
/-! TM: ordinary tape machines, as plain Lean -/
namespace TM
open PySem PySem.Spec PyProof.Rows L2 PL

abbrev TRow := Option (Int × Int × Int)
def rowP : TRow → PV
  | none => .non
  | some (w, mv, t) => .tup [.int w, .int mv, .int t]
def RowOk (m s : Int) : TRow → Prop
  | none => True
  | some (w, mv, t) => (0 ≤ w ∧ w < m) ∧ (mv = 1 ∨ mv = -1) ∧ (0 ≤ t ∧ t < s)
structure Mach (m s : Int) (rows : List TRow) : Prop where
  m2 : 2 ≤ m
  m8 : m ≤ 8
  s1 : 1 ≤ s
  s40 : s ≤ 40
  len : (rows.length : Int) = m * s
  ok : ∀ r ∈ rows, RowOk m s r
def tI (xs : List Int) : PV := .tup (xs.map PV.int)
def trimL (ms : List Int) : List Int := (ms.reverse.dropWhile (fun x => decide (x = 0))).reverse
structure Cf where
  q : Int
  l : List Int
  a : Int
  r : List Int
def cfP (c : Cf) : PV := .tup [.int c.q, tI c.l, .int c.a, tI c.r]
structure SideOk (m : Int) (xs : List Int) : Prop where
  mm : ∀ x ∈ xs, 0 ≤ x ∧ x < m
  tr : trimL xs = xs
structure CfOk (m s : Int) (c : Cf) : Prop where
  q0 : 0 ≤ c.q
  qs : c.q < s
  a0 : 0 ≤ c.a
  am : c.a < m
  l : SideOk m c.l
  r : SideOk m c.r
def push (w : Int) (l : List Int) : List Int := if w = 0 ∧ l = [] then [] else w :: l
def hd (l : List Int) : Int := l.headD 0
def rowAt (rows : List TRow) (m q a : Int) : TRow := (rows[(q * m + a).toNat]?).getD none
def stepM (rows : List TRow) (m : Int) (c : Cf) : Option Cf := match rowAt rows m c.q c.a with
  | none => none
  | some (w, mv, t) => if mv = 1 then some ⟨t, push w c.l, hd c.r, c.r.tail⟩ else some ⟨t, c.l.tail, hd c.l, push w c.r⟩
def runM (rows : List TRow) (m : Int) : Nat → Cf → Cf × Nat
  | 0, c => (c, 0)
  | n + 1, c => match stepM rows m c with
    | none => (c, 0)
    | some d => let (e, k) := runM rows m n d; (e, k + 1)
def optP : Option Cf → PV
  | none => .non
  | some c => cfP c
def tapeF (m s : Int) (rows : List TRow) : List (Str × PV) := [(Str.ofString "marks", .int m), (Str.ofString "states", .int s), (Str.ofString "_rows", .lst (rows.map rowP))]

/-! ### trimming -/
theorem trimL_nil : trimL [] = [] := rfl
theorem trimL_snoc0 (xs : List Int) : trimL (xs ++ [0]) = trimL xs := by
  unfold trimL
  rw [List.reverse_append]
  simp
theorem trimL_snoc (xs : List Int) {x : Int} (h : x ≠ 0) : trimL (xs ++ [x]) = xs ++ [x] := by
  unfold trimL
  rw [List.reverse_append]
  simp [h]
theorem trimL_idem (xs : List Int) : trimL (trimL xs) = trimL xs := by
  unfold trimL
  rw [List.reverse_reverse]
  congr 1
  generalize xs.reverse = ys
  induction ys with
  | nil => rfl
  | cons y r ih =>
    rw [List.dropWhile_cons]
    split
    · exact ih
    · rename_i h
      rw [List.dropWhile_cons, if_neg h]
theorem mem_trimL {xs : List Int} {x : Int} (h : x ∈ trimL xs) : x ∈ xs := by
  unfold trimL at h
  rw [List.mem_reverse] at h
  exact List.mem_reverse.mp ((List.dropWhile_suffix _).subset h)
theorem trimL_len (xs : List Int) : (trimL xs).length ≤ xs.length := by
  unfold trimL
  rw [List.length_reverse]
  exact Nat.le_trans ((List.dropWhile_suffix _).length_le) (by rw [List.length_reverse]; exact Nat.le_refl _)
theorem SideOk.trim {m : Int} {xs : List Int} (h : ∀ x ∈ xs, 0 ≤ x ∧ x < m) : SideOk m (trimL xs) := ⟨fun x hx => h x (mem_trimL hx), trimL_idem xs⟩
/-- it is trimmed: it is empty, or its last is no blank -/
theorem trimL_eq_iff (xs : List Int) : trimL xs = xs ↔ ∀ x, xs.getLast? = some x → x ≠ 0 := by
  rcases List.eq_nil_or_concat xs with rfl | ⟨r, y, rfl⟩
  · simp [trimL]
  · rw [List.concat_eq_append]
    constructor
    · intro h x hx
      rw [List.getLast?_append] at hx
      simp at hx
      subst hx
      intro z
      subst z
      rw [trimL_snoc0] at h
      have := trimL_len r
      rw [h] at this
      simp at this
      omega
    · intro h
      exact trimL_snoc r (h y (by simp))
theorem SideOk.tail {m : Int} {xs : List Int} (h : SideOk m xs) : SideOk m xs.tail := by
  refine ⟨fun x hx => h.mm x (List.mem_of_mem_tail hx), ?_⟩
  rw [trimL_eq_iff]
  have h2 := (trimL_eq_iff xs).mp h.tr
  cases xs with
  | nil => exact h2
  | cons a r =>
    intro x hx
    refine h2 x ?_
    show (a :: r).getLast? = some x
    cases r with
    | nil => cases hx
    | cons b r =>
      rw [List.getLast?_cons_cons]
      exact hx
theorem SideOk.push {m w : Int} {xs : List Int} (h : SideOk m xs) (hw : 0 ≤ w ∧ w < m) : SideOk m (push w xs) := by
  unfold TM.push
  split
  · exact ⟨fun x hx => (nomatch hx), rfl⟩
  · rename_i hn
    refine ⟨fun x hx => ?_, ?_⟩
    · rcases List.mem_cons.mp hx with e | e
      · rw [e]; exact hw
      · exact h.mm x e
    · rw [trimL_eq_iff]
      have h2 := (trimL_eq_iff xs).mp h.tr
      cases xs with
      | nil =>
        intro x hx
        simp at hx
        subst hx
        intro z
        exact hn ⟨z, rfl⟩
      | cons b r =>
        intro x hx
        rw [List.getLast?_cons_cons] at hx
        exact h2 x hx
theorem SideOk.hd {m : Int} {xs : List Int} (h : SideOk m xs) (hm : 0 < m) : 0 ≤ hd xs ∧ hd xs < m := by
  cases xs with
  | nil => exact ⟨Int.le_refl 0, hm⟩
  | cons a r => exact h.mm a List.mem_cons_self
theorem trim_push {m w : Int} {xs : List Int} (h : SideOk m xs) : trimL (w :: xs) = push w xs := by
  unfold TM.push
  by_cases hx : xs = []
  · subst hx
    by_cases hw : w = 0
    · subst hw; rw [if_pos ⟨rfl, rfl⟩]; rfl
    · rw [if_neg (fun z => hw z.1)]
      exact trimL_snoc [] hw
  · rw [if_neg (fun z => hx z.2), trimL_eq_iff]
    have h2 := (trimL_eq_iff xs).mp h.tr
    intro x e
    cases xs with
    | nil => exact absurd rfl hx
    | cons b r =>
      rw [List.getLast?_cons_cons] at e
      exact h2 x e
theorem rowAt_mem {m s q a : Int} {rows : List TRow} (M : Mach m s rows) (hq : 0 ≤ q) (hqs : q < s) (ha : 0 ≤ a) (ham : a < m) :
    (q * m + a).toNat < rows.length ∧ rows[(q * m + a).toNat]? = some (rowAt rows m q a) ∧ RowOk m s (rowAt rows m q a) ∧ 0 ≤ q * m + a := by
  have h0 : 0 ≤ q * m + a := Int.add_nonneg (Int.mul_nonneg hq (by have := M.m2; omega)) ha
  have h1 : q * m + a < m * s := by
    have e1 : (q + 1) * m ≤ s * m := Int.mul_le_mul_of_nonneg_right (by omega) (by have := M.m2; omega)
    have e2 : (q + 1) * m = q * m + m := by rw [Int.add_mul, Int.one_mul]
    have e3 : s * m = m * s := Int.mul_comm s m
    omega
  have hl : (q * m + a).toNat < rows.length := by
    have := M.len
    omega
  have hg : rows[(q * m + a).toNat]? = some rows[(q * m + a).toNat] := List.getElem?_eq_getElem hl
  have hr : rowAt rows m q a = rows[(q * m + a).toNat] := by
    unfold rowAt
    rw [hg]
    rfl
  exact ⟨hl, by rw [hr]; exact hg, by rw [hr]; exact M.ok _ (List.getElem_mem hl), h0⟩
theorem stepM_ok {m s : Int} {rows : List TRow} {c d : Cf} (M : Mach m s rows) (h : CfOk m s c) (e : stepM rows m c = some d) : CfOk m s d := by
  unfold stepM at e
  obtain ⟨_, _, hr, _⟩ := rowAt_mem M h.q0 h.qs h.a0 h.am
  split at e
  · cases e
  · rename_i w mv t hrow
    rw [hrow] at hr
    obtain ⟨hw, hm, ht⟩ := hr
    have hm0 : (0 : Int) < m := by have := M.m2; omega
    split at e
    · cases e
      exact ⟨ht.1, ht.2, (h.r.hd hm0).1, (h.r.hd hm0).2, h.l.push hw, h.r.tail⟩
    · cases e
      exact ⟨ht.1, ht.2, (h.l.hd hm0).1, (h.l.hd hm0).2, h.l.tail, h.r.push hw⟩
/-! ### readings over tuples of ints -/
section
variable {M : Mem} {Q : PQ}
theorem eq_tI {l r : List Int} : oEq (tI l) (tI r) M Q = Q (.bl (decide (l = r))) M := eqP_tI
theorem eq_tI_nil {l : List Int} : oEq (tI l) (.tup []) M Q = Q (.bl (decide (l = []))) M := eqP_tI (ys := [])
theorem sl_tI_tail {l : List Int} : oSl (tI l) (some 1) none M Q = Q (tI l.tail) M := by
  unfold tI
  rw [PL.sl_tup, cutA_map, cutA_from1]
theorem sl_tI_to {l : List Int} {k : Int} (h : 0 ≤ k) : oSl (tI l) none (some k) M Q = Q (tI (l.take k.toNat)) M := by
  unfold tI
  rw [PL.sl_tup, cutA_map, cutA_to _ h]
theorem sl_tI_from {l : List Int} {k : Int} (h : 0 ≤ k) : oSl (tI l) (some k) none M Q = Q (tI (l.drop k.toNat)) M := by
  unfold tI
  rw [PL.sl_tup, cutA_map, cutA_from _ h]
theorem len_tI {l : List Int} : kLen (tI l) M Q = Q (.int l.length) M := by
  unfold tI
  rw [PL.len_tup, List.length_map]
theorem tup_tI {l : List Int} : PL.kTup (tI l) M Q = Q (tI l) M := rfl
theorem ix_tI0 {l : List Int} (h : l ≠ []) : oIx (tI l) (.int 0) M Q = Q (.int (hd l)) M := by
  cases l with
  | nil => exact absurd rfl h
  | cons a r =>
    unfold tI
    rw [PL.ix_tup, at_0]
    rfl
theorem ix_tI {l : List Int} {i : Int} {x : Int} (h : 0 ≤ i) (e : l[i.toNat]? = some x) : oIx (tI l) (.int i) M Q = Q (.int x) M := by
  unfold tI
  rw [PL.ix_tup, at_pos _ h, List.getElem?_map, e]
  rfl
theorem add_tI {l r : List Int} : oAdd (tI l) (tI r) M Q = (l.length + r.length ≤ sizeLine ∧ Q (tI (l ++ r)) M) := by
  show ((l.map PV.int).length + (r.map PV.int).length ≤ sizeLine ∧ Q (.tup (l.map PV.int ++ r.map PV.int)) M) = _
  rw [List.length_map, List.length_map, ← List.map_append]
  rfl
theorem hd_nil : hd [] = 0 := rfl
theorem hd_cons (a : Int) (r : List Int) : hd (a :: r) = a := rfl
end
section
variable {m s : Int} {rows : List TRow}
theorem lk_marks : List.lookup (Str.ofString "marks") (tapeF m s rows) = some (.int m) := rfl
theorem lk_states : List.lookup (Str.ofString "states") (tapeF m s rows) = some (.int s) := rfl
theorem lk_rows : List.lookup (Str.ofString "_rows") (tapeF m s rows) = some (.lst (rows.map rowP)) := rfl
theorem lk_row : List.lookup (Str.ofString "row") (tapeF m s rows) = none := rfl
theorem lk_table : List.lookup (Str.ofString "table") (tapeF m s rows) = none := rfl
theorem lk_begin : List.lookup (Str.ofString "begin") (tapeF m s rows) = none := rfl
theorem lk_step : List.lookup (Str.ofString "step") (tapeF m s rows) = none := rfl
theorem lk_stopped : List.lookup (Str.ofString "stopped") (tapeF m s rows) = none := rfl
theorem lk_run : List.lookup (Str.ofString "run") (tapeF m s rows) = none := rfl
theorem ix_rows {M : Mem} {Q : PQ} {q a : Int} (M0 : Mach m s rows) (hq : 0 ≤ q) (hqs : q < s) (ha : 0 ≤ a) (ham : a < m) : oIx (.lst (rows.map rowP)) (.int (q * m + a)) M Q = Q (rowP (rowAt rows m q a)) M := by
  obtain ⟨_, h2, _, h0⟩ := rowAt_mem M0 hq hqs ha ham
  rw [PL.ix_lst, at_pos _ h0, List.getElem?_map, h2]
  rfl
theorem at_rows {q a : Int} (M0 : Mach m s rows) (hq : 0 ≤ q) (hqs : q < s) (ha : 0 ≤ a) (ham : a < m) : L2.atI (rows.map rowP) (q * m + a) = some (rowP (rowAt rows m q a)) := by
  obtain ⟨_, h2, _, h0⟩ := rowAt_mem M0 hq hqs ha ham
  rw [at_pos _ h0, List.getElem?_map, h2]
  rfl
theorem cmul_ok {q : Int} (M0 : Mach m s rows) (hq : 0 ≤ q) (hqs : q < s) : CMul q m := by
  have := M0.s40
  exact .inl ⟨by omega, by omega⟩
end
/-! ### the count of places from which on something stands -/
def cntL (ms : List Int) : Nat := ((List.range ms.length).filter (fun i => (ms.drop i).any (fun x => decide (0 < x)))).length
theorem cntL_eq : ∀ (n : Nat) (ms : List Int), ms.length = n → (∀ x ∈ ms, 0 ≤ x) → cntL ms = (trimL ms).length
  | 0, ms, h, _ => by
    have : ms = [] := List.eq_nil_of_length_eq_zero h
    subst this
    rfl
  | n + 1, ms, h, hp => by
    rcases List.eq_nil_or_concat ms with e | ⟨r, y, e⟩
    · subst e; rfl
    · rw [List.concat_eq_append] at e
      subst e
      have hr : r.length = n := by simpa using h
      have hy : 0 ≤ y := hp y (by simp)
      have hrp : ∀ x ∈ r, 0 ≤ x := fun x hx => hp x (List.mem_append_left _ hx)
      unfold cntL
      rw [List.length_append]
      show ((List.range (r.length + 1)).filter _).length = _
      by_cases hz : y = 0
      · subst hz
        rw [trimL_snoc0, ← cntL_eq n r hr hrp]
        unfold cntL
        rw [List.range_succ, List.filter_append]
        have e1 : [r.length].filter (fun i => ((r ++ [0]).drop i).any (fun x => decide (0 < x))) = [] := by simp
        rw [e1, List.append_nil]
        congr 1
        apply List.filter_congr
        intro i hi
        have hi : i < r.length := List.mem_range.mp hi
        rw [List.drop_append_of_le_length (by omega), List.any_append]
        simp
      · rw [trimL_snoc r hz, List.length_append, List.filter_eq_self.mpr, List.length_range]
        · rfl
        · intro i hi
          have hi : i < r.length + 1 := List.mem_range.mp hi
          rw [List.drop_append_of_le_length (by omega), List.any_append]
          simp
          right
          omega
theorem take_trimL (ms : List Int) : ms.take (trimL ms).length = trimL ms := by
  have h : trimL ms <+: ms := by
    unfold trimL
    have h := List.dropWhile_suffix (fun x : Int => decide (x = 0)) (l := ms.reverse)
    have h2 := List.reverse_prefix.mpr h
    rw [List.reverse_reverse] at h2
    exact h2
  exact (List.prefix_iff_eq_take.mp h).symm
section
variable {M : Mem} {Q : PQ}
theorem tupRev_tI {l : List Int} : (need (tupF (tI l)) fun xs => Q (.tup xs.reverse) M) = Q (tI l.reverse) M := by
  show Q (.tup (l.map PV.int).reverse) M = _
  rw [← List.map_reverse]
  rfl
theorem maxT_tI {x : Int} {l : List Int} : kMaxT (tI (x :: l)) M Q = ∀ m, m ∈ x :: l → (∀ y, y ∈ x :: l → y ≤ m) → Q (.int m) M := by
  unfold kMaxT
  show need (intsOf ((x :: l).map PV.int)) _ = _
  rw [intsOf_map]
  exact propext ⟨fun h => h.2, fun h => ⟨Nat.succ_pos _, h⟩⟩
end
end TM
set_option Elab.async false
set_option linter.all false
set_option maxRecDepth 100000
namespace My
open PySem PySem.Spec PyProof.Rows L2 PL
def topS (i : Nat) : Stmt := PySem.Challenge.pw_backstair_k01_tape_machines_step.main.body.getD i (.Pass ⟨0, 0, 0, 0⟩)
abbrev s_is_whole : Stmt := topS 6
theorem sc_is_whole : FnScope ["value"] ["value"] (defScope s_is_whole) := ⟨rfl, rfl, rfl, by decide +kernel, rfl, by decide +kernel, by decide +kernel⟩
abbrev s_is_number : Stmt := topS 7
theorem sc_is_number : FnScope ["value", "low", "high"] ["value", "low", "high"] (defScope s_is_number) := ⟨rfl, rfl, rfl, by decide +kernel, rfl, by decide +kernel, by decide +kernel⟩
abbrev s_are_numbers : Stmt := topS 8
theorem sc_are_numbers : FnScope ["value", "low", "high", "item"] ["value", "low", "high"] (defScope s_are_numbers) := ⟨rfl, rfl, rfl, by decide +kernel, rfl, by decide +kernel, by decide +kernel⟩
abbrev s_trimmed : Stmt := topS 10
theorem sc_trimmed : FnScope ["marks", "end"] ["marks"] (defScope s_trimmed) := ⟨rfl, rfl, rfl, by decide +kernel, rfl, by decide +kernel, by decide +kernel⟩
abbrev s_laid : Stmt := topS 11
theorem sc_laid : FnScope ["word"] ["word"] (defScope s_laid) := ⟨rfl, rfl, rfl, by decide +kernel, rfl, by decide +kernel, by decide +kernel⟩
abbrev s_pushed : Stmt := topS 12
theorem sc_pushed : FnScope ["mark", "side"] ["mark", "side"] (defScope s_pushed) := ⟨rfl, rfl, rfl, by decide +kernel, rfl, by decide +kernel, by decide +kernel⟩
abbrev s_nearest : Stmt := topS 13
theorem sc_nearest : FnScope ["side"] ["side"] (defScope s_nearest) := ⟨rfl, rfl, rfl, by decide +kernel, rfl, by decide +kernel, by decide +kernel⟩
abbrev s_moved : Stmt := topS 14
theorem sc_moved : FnScope ["tape", "move", "left", "mark", "right"] ["tape", "move"] (defScope s_moved) := ⟨rfl, rfl, rfl, by decide +kernel, rfl, by decide +kernel, by decide +kernel⟩
abbrev s_is_row : Stmt := topS 15
theorem sc_is_row : FnScope ["row", "marks", "states", "mark", "move", "state"] ["row", "marks", "states"] (defScope s_is_row) := ⟨rfl, rfl, rfl, by decide +kernel, rfl, by decide +kernel, by decide +kernel⟩
abbrev s_Tape_init : Stmt := inClass (topS 16) 0
theorem sc_Tape_init : FnScope ["self", "marks", "states", "rows", "row"] ["self", "marks", "states", "rows"] (defScope s_Tape_init) := ⟨rfl, rfl, rfl, by decide +kernel, rfl, by decide +kernel, by decide +kernel⟩
abbrev s_Tape_row : Stmt := inClass (topS 16) 1
theorem sc_Tape_row : FnScope ["self", "state", "mark"] ["self", "state", "mark"] (defScope s_Tape_row) := ⟨rfl, rfl, rfl, by decide +kernel, rfl, by decide +kernel, by decide +kernel⟩
abbrev s_Tape_table : Stmt := inClass (topS 16) 2
theorem sc_Tape_table : FnScope ["self"] ["self"] (defScope s_Tape_table) := ⟨rfl, rfl, rfl, by decide +kernel, rfl, by decide +kernel, by decide +kernel⟩
abbrev s_Tape_begin : Stmt := inClass (topS 16) 4
theorem sc_Tape_begin : FnScope ["self", "word"] ["self", "word"] (defScope s_Tape_begin) := ⟨rfl, rfl, rfl, by decide +kernel, rfl, by decide +kernel, by decide +kernel⟩
abbrev s_Tape_step : Stmt := inClass (topS 16) 5
theorem sc_Tape_step : FnScope ["self", "configuration", "state", "left", "mark", "right", "row", "written", "move", "after"] ["self", "configuration"] (defScope s_Tape_step) := ⟨rfl, rfl, rfl, by decide +kernel, rfl, by decide +kernel, by decide +kernel⟩
abbrev s_Tape_stopped : Stmt := inClass (topS 16) 6
theorem sc_Tape_stopped : FnScope ["self", "configuration"] ["self", "configuration"] (defScope s_Tape_stopped) := ⟨rfl, rfl, rfl, by decide +kernel, rfl, by decide +kernel, by decide +kernel⟩
abbrev s_Tape_run : Stmt := inClass (topS 16) 7
theorem sc_Tape_run : FnScope ["self", "configuration", "steps", "taken", "after"] ["self", "configuration", "steps"] (defScope s_Tape_run) := ⟨rfl, rfl, rfl, by decide +kernel, rfl, by decide +kernel, by decide +kernel⟩
abbrev s_law_numbers : Stmt := topS 18
theorem sc_law_numbers : FnScope ["script", "many", "numbers", "k", "cell", "j", "mixed"] ["script", "many"] (defScope s_law_numbers) := ⟨rfl, rfl, rfl, by decide +kernel, rfl, by decide +kernel, by decide +kernel⟩
abbrev s_law_take : Stmt := topS 19
theorem sc_law_take : FnScope ["numbers", "place"] ["numbers", "place"] (defScope s_law_take) := ⟨rfl, rfl, rfl, by decide +kernel, rfl, by decide +kernel, by decide +kernel⟩
abbrev s_law_machine : Stmt := topS 20
theorem sc_law_machine : FnScope ["numbers", "place", "marks", "states", "rows", "style", "k", "number", "row"] ["numbers", "place", "marks", "states"] (defScope s_law_machine) := ⟨rfl, rfl, rfl, by decide +kernel, rfl, by decide +kernel, by decide +kernel⟩
abbrev s_law_sizes : Stmt := topS 21
theorem sc_law_sizes : FnScope ["numbers", "place", "first", "second"] ["numbers", "place"] (defScope s_law_sizes) := ⟨rfl, rfl, rfl, by decide +kernel, rfl, by decide +kernel, by decide +kernel⟩
abbrev s_law_trim : Stmt := topS 22
theorem sc_law_trim : FnScope ["marks", "count", "k"] ["marks"] (defScope s_law_trim) := ⟨rfl, rfl, rfl, by decide +kernel, rfl, by decide +kernel, by decide +kernel⟩
abbrev s_law_side : Stmt := topS 23
theorem sc_law_side : FnScope ["numbers", "place", "marks", "most", "side", "k"] ["numbers", "place", "marks", "most"] (defScope s_law_side) := ⟨rfl, rfl, rfl, by decide +kernel, rfl, by decide +kernel, by decide +kernel⟩
abbrev s_law_configuration : Stmt := topS 24
theorem sc_law_configuration : FnScope ["numbers", "place", "marks", "states", "most", "left", "right"] ["numbers", "place", "marks", "states", "most"] (defScope s_law_configuration) := ⟨rfl, rfl, rfl, by decide +kernel, rfl, by decide +kernel, by decide +kernel⟩
abbrev s_law_step : Stmt := topS 25
theorem sc_law_step : FnScope ["rows", "marks", "spot", "row", "tape", "at"] ["rows", "marks", "spot"] (defScope s_law_step) := ⟨rfl, rfl, rfl, by decide +kernel, rfl, by decide +kernel, by decide +kernel⟩
abbrev s_law_run : Stmt := topS 26
theorem sc_law_run : FnScope ["rows", "marks", "spot", "steps", "taken", "k", "after"] ["rows", "marks", "spot", "steps"] (defScope s_law_run) := ⟨rfl, rfl, rfl, by decide +kernel, rfl, by decide +kernel, by decide +kernel⟩
abbrev s_law_same : Stmt := topS 27
theorem sc_law_same : FnScope ["actual", "expected", "k"] ["actual", "expected"] (defScope s_law_same) := ⟨rfl, rfl, rfl, by decide +kernel, rfl, by decide +kernel, by decide +kernel⟩
abbrev s_law_right : Stmt := topS 28
theorem sc_law_right : FnScope ["machine", "sizes", "rows", "spot", "steps", "table", "k", "after"] ["machine", "sizes", "rows", "spot", "steps"] (defScope s_law_right) := ⟨rfl, rfl, rfl, by decide +kernel, rfl, by decide +kernel, by decide +kernel⟩
abbrev s_law : Stmt := topS 29
theorem sc_law : FnScope ["script", "numbers", "place", "made", "k", "sizes", "rows", "given", "machine", "spot", "steps", "word", "first"] ["script"] (defScope s_law) := ⟨rfl, rfl, rfl, by decide +kernel, rfl, by decide +kernel, by decide +kernel⟩
/-- where the classes of the text stand -/
structure Ctx where
  Tape : Addr
structure ClTape (K : PySem.W.Frag) (C : Addr) : Prop where
  cl : Cls K C
  n_rows : NoAttr K C (PySem.Str.ofString "_rows")
  n_marks : NoAttr K C (PySem.Str.ofString "marks")
  n_states : NoAttr K C (PySem.Str.ofString "states")
structure Txt (K : PySem.W.Frag) (mg : Str → Option Value) (Γ : Ctx) : Prop where
  b_abs : mg (PySem.Str.ofString "abs") = none
  b_all : mg (PySem.Str.ofString "all") = none
  b_bool : mg (PySem.Str.ofString "bool") = none
  b_int : mg (PySem.Str.ofString "int") = none
  b_isinstance : mg (PySem.Str.ofString "isinstance") = none
  b_len : mg (PySem.Str.ofString "len") = none
  b_list : mg (PySem.Str.ofString "list") = none
  b_max : mg (PySem.Str.ofString "max") = none
  b_range : mg (PySem.Str.ofString "range") = none
  b_reversed : mg (PySem.Str.ofString "reversed") = none
  b_str : mg (PySem.Str.ofString "str") = none
  b_tuple : mg (PySem.Str.ofString "tuple") = none
  cTape : ClTape K Γ.Tape
end My
set_option Elab.async false
set_option linter.all false
set_option maxRecDepth 100000
namespace My
open PySem PySem.Spec PyProof.Rows L2 PL TM
/-! ### promises -/
def isNum (lo hi : Int) : PV → Bool
  | .int i => decide (lo ≤ i) && decide (i ≤ hi)
  | _ => false
def areNum (lo hi : Int) : PV → Bool
  | .tup xs => xs.all (isNum lo hi)
  | _ => false
def known (M : Mem) (v : PV) : Prop := tyOf M v ≠ none
def isWh : PV → Bool
  | .int _ => true
  | _ => false
def sp_is_whole (Γ : Ctx) : PSp := fun xs M Q _ => ∃ v, xs = [v] ∧ known M v ∧ Q (.bl (isWh v)) M
def sp_is_number (Γ : Ctx) : PSp := fun xs M Q _ => ∃ v lo hi, xs = [v, .int lo, .int hi] ∧ known M v ∧ Q (.bl (isNum lo hi v)) M
def sp_are_numbers (Γ : Ctx) : PSp := fun xs M Q _ => ∃ v lo hi, xs = [v, .int lo, .int hi] ∧ known M v ∧ (∀ ys, v = .tup ys → ys.length ≤ sizeLine ∧ ∀ y ∈ ys, known M y) ∧ Q (.bl (areNum lo hi v)) M
def sp_trimmed (Γ : Ctx) : PSp := fun xs M Q _ => ∃ ms, xs = [tI ms] ∧ Q (tI (trimL ms)) M
def sp_laid (Γ : Ctx) : PSp := fun xs M Q _ => ∃ ms, xs = [tI ms] ∧ Q (.tup [.tup [], .int (hd ms), tI (trimL ms.tail)]) M
def sp_pushed (Γ : Ctx) : PSp := fun xs M Q _ => ∃ w l, xs = [.int w, tI l] ∧ l.length < 1000000 ∧ Q (tI (push w l)) M
def sp_nearest (Γ : Ctx) : PSp := fun xs M Q _ => ∃ l, xs = [tI l] ∧ Q (.int (hd l)) M
def sp_moved (Γ : Ctx) : PSp := fun xs M Q _ => ∃ l a r mv, xs = [.tup [tI l, .int a, tI r], .int mv] ∧ (mv = 1 ∨ mv = -1) ∧ l.length < 1000000 ∧ r.length < 1000000 ∧
  Q (if mv = 1 then .tup [tI (push a l), .int (hd r), tI r.tail] else .tup [tI l.tail, .int (hd l), tI (push a r)]) M
def sp_is_row (Γ : Ctx) : PSp := fun xs M Q _ => ∃ r m s, xs = [rowP r, .int m, .int s] ∧ RowOk m s r ∧ Q (.bl true) M
def sp_Tape_init (Γ : Ctx) : PSp := fun xs M Q _ => ∃ p m s rv rows, xs = [.ptr p, .int m, .int s, rv] ∧ Mach m s rows ∧ lstOf M rv = some (rows.map rowP) ∧ tyOf M rv = some "list" ∧ M p = some (.obj Γ.Tape []) ∧
  Q .non (M.put p (.obj Γ.Tape (tapeF m s rows)))
def tapeP (Γ : Ctx) (m s : Int) (rows : List TRow) : PV := .obj Γ.Tape (tapeF m s rows)
def sp_Tape_row (Γ : Ctx) : PSp := fun xs M Q _ => ∃ m s rows q a, xs = [tapeP Γ m s rows, .int q, .int a] ∧ Mach m s rows ∧ (0 ≤ q ∧ q < s) ∧ (0 ≤ a ∧ a < m) ∧ Q (rowP (rowAt rows m q a)) M
def sp_Tape_table (Γ : Ctx) : PSp := fun xs M Q _ => ∃ m s rows, xs = [tapeP Γ m s rows] ∧ ∀ p, M p = none → Q (.ptr p) (M.put p (.lst (rows.map rowP)))
def sp_Tape_begin (Γ : Ctx) : PSp := fun xs M Q _ => ∃ m s rows ms, xs = [tapeP Γ m s rows, tI ms] ∧ ms.length < 1000000 ∧ (∀ x ∈ ms, 0 ≤ x ∧ x < m) ∧ Q (.tup [.int 0, .tup [], .int (hd ms), tI (trimL ms.tail)]) M
def sp_Tape_step (Γ : Ctx) : PSp := fun xs M Q _ => ∃ m s rows c, xs = [tapeP Γ m s rows, cfP c] ∧ Mach m s rows ∧ CfOk m s c ∧ c.l.length < 1000000 ∧ c.r.length < 1000000 ∧ Q (optP (stepM rows m c)) M
def sp_Tape_stopped (Γ : Ctx) : PSp := fun xs M Q _ => ∃ m s rows c, xs = [tapeP Γ m s rows, cfP c] ∧ Mach m s rows ∧ CfOk m s c ∧ c.l.length < 1000000 ∧ c.r.length < 1000000 ∧ Q (.bl (stepM rows m c).isNone) M
def sp_Tape_run (Γ : Ctx) : PSp := fun xs M Q _ => ∃ m s rows c n, xs = [tapeP Γ m s rows, cfP c, .int (n : Nat)] ∧ Mach m s rows ∧ CfOk m s c ∧ c.l.length + n < 900000 ∧ c.r.length + n < 900000 ∧
  Q (.tup [cfP (runM rows m n c).1, .int (runM rows m n c).2]) M
/-! the law's own -/
structure Nums (ns : List Int) : Prop where
  r : ∀ n ∈ ns, 0 ≤ n ∧ n < 1000
  l : ns.length ≤ 1000
def lI (xs : List Int) : PV := .lst (xs.map PV.int)
def sp_law_numbers (Γ : Ctx) : PSp := fun xs M Q _ => ∃ (zs : List Int) (many : Int), xs = [.scr (zs.map .int), .int many] ∧ zs.length ≤ 63 ∧ (0 ≤ many ∧ many ≤ 1000) ∧ ∀ ns, Nums ns → Q (lI ns) M
/-- numbers and the place among them -/
def At (M : Mem) (p : Addr) (k : Int) : Prop := M p = some (.lst [.int k]) ∧ 0 ≤ k
def sp_law_take (Γ : Ctx) : PSp := fun xs M Q _ => ∃ ns p k, xs = [lI ns, .ptr p] ∧ Nums ns ∧ At M p k ∧ ∀ n k', (0 ≤ n ∧ n < 1000) → 0 ≤ k' → Q (.int n) (M.put p (.lst [.int k']))
def sp_law_machine (Γ : Ctx) : PSp := fun xs M Q _ => ∃ ns p k m s, xs = [lI ns, .ptr p, .int m, .int s] ∧ Nums ns ∧ At M p k ∧ (2 ≤ m ∧ m ≤ 8) ∧ (1 ≤ s ∧ s ≤ 40) ∧
  ∀ rows k', Mach m s rows → 0 ≤ k' → Q (.lst (rows.map rowP)) (M.put p (.lst [.int k']))
def sp_law_sizes (Γ : Ctx) : PSp := fun xs M Q _ => ∃ ns p k, xs = [lI ns, .ptr p] ∧ Nums ns ∧ At M p k ∧ ∀ m s k', (2 ≤ m ∧ m ≤ 8) → (1 ≤ s ∧ s ≤ 40) → 0 ≤ k' → Q (.tup [.int m, .int s]) (M.put p (.lst [.int k']))
def sp_law_trim (Γ : Ctx) : PSp := fun xs M Q _ => ∃ ms, xs = [tI ms] ∧ (∀ x ∈ ms, 0 ≤ x) ∧ ms.length < 1000000 ∧ Q (tI (trimL ms)) M
def sp_law_side (Γ : Ctx) : PSp := fun xs M Q _ => ∃ ns p k m n, xs = [lI ns, .ptr p, .int m, .int n] ∧ Nums ns ∧ At M p k ∧ 1 ≤ m ∧ (0 ≤ n ∧ n ≤ 1000) ∧ ∀ ms k', SideOk m ms → (ms.length : Int) ≤ n → 0 ≤ k' → Q (tI ms) (M.put p (.lst [.int k']))
def sp_law_configuration (Γ : Ctx) : PSp := fun xs M Q _ => ∃ ns p k m s n, xs = [lI ns, .ptr p, .int m, .int s, .int n] ∧ Nums ns ∧ At M p k ∧ 1 ≤ m ∧ 1 ≤ s ∧ (0 ≤ n ∧ n ≤ 1000) ∧
  ∀ c k', CfOk m s c → (c.l.length : Int) ≤ n → (c.r.length : Int) ≤ n → 0 ≤ k' → Q (cfP c) (M.put p (.lst [.int k']))
def sp_law_step (Γ : Ctx) : PSp := fun xs M Q _ => ∃ m s rows c, xs = [.lst (rows.map rowP), .int m, cfP c] ∧ Mach m s rows ∧ CfOk m s c ∧ c.l.length < 100000 ∧ c.r.length < 100000 ∧ Q (optP (stepM rows m c)) M
def sp_law_run (Γ : Ctx) : PSp := fun xs M Q _ => ∃ m s rows c n, xs = [.lst (rows.map rowP), .int m, cfP c, .int (n : Nat)] ∧ Mach m s rows ∧ CfOk m s c ∧ c.l.length + n < 90000 ∧ c.r.length + n < 90000 ∧
  Q (.tup [cfP (runM rows m n c).1, .int (runM rows m n c).2]) M
/-- data without lists, not deeper than n -/
def okD : Nat → PV → Prop
  | 0, _ => False
  | n + 1, .tup xs => xs.length ≤ 1000 ∧ ∀ x ∈ xs, okD n x
  | _ + 1, .non => True
  | _ + 1, .int _ => True
  | _ + 1, .str _ => True
  | _ + 1, _ => False
def spSame (n : Nat) : PSp := fun xs M Q _ => ∃ x, xs = [x, x] ∧ okD n x ∧ Q (.bl true) M
def sp_law_same (Γ : Ctx) : PSp := spSame 8
def sp_law_right (Γ : Ctx) : PSp := fun xs M Q _ => ∃ m s rows c n, xs = [tapeP Γ m s rows, .tup [.int m, .int s], .lst (rows.map rowP), cfP c, .int (n : Nat)] ∧ Mach m s rows ∧ CfOk m s c ∧ c.l.length + n < 900 ∧ c.r.length + n < 900 ∧ Q (.bl true) M
def sp_law (Γ : Ctx) : PSp := fun xs M Q _ => ∃ (zs : List Int), xs = [.scr (zs.map .int)] ∧ zs.length ≤ 63 ∧ ∀ M', Q (.bl true) M'
end My
set_option Elab.async false
set_option linter.all false
set_option maxRecDepth 100000
namespace My
open PySem PySem.Spec PyProof.Rows L2 PL
def t_is_whole (Γ : Ctx) : PTS := (pRet (pAndV (fun E σ M Q => (pVar 0) E σ M fun x M1 => kIsi "int" x M1 Q) (pNotV (fun E σ M Q => (pVar 0) E σ M fun x M1 => kIsi "bool" x M1 Q))))
theorem d_is_whole {P : Program} {w : World} {K : PySem.W.Frag} {mg : Str → Option Value} {base : Heap} {Γ : Ctx} (T : Txt K mg Γ)  {f : Addr} {cdv : Value} {A : Around} {outer : List Env} {s : Shared} {H : Hp} {E : XK}
    (hr : Room 0 (A.deeper (envOfC "is_whole" (defScope s_is_whole) s.heap.objs.size f cdv))) :
    LSs (cxOf (L2.CX P w) P w K mg base ["value"] "is_whole" (defScope s_is_whole) f cdv A outer s H E) (defBody s_is_whole) (t_is_whole Γ) :=
  (LSs.one (LS.ret (PL.LE.and (PL.LE.isi (Ts := "int") rfl T.b_isinstance rfl T.b_int (by decide +kernel) (PL.LE.var 0)) (PL.LE.one (PL.LE.not (PL.LE.isi (Ts := "bool") rfl T.b_isinstance rfl T.b_bool (by decide +kernel) (PL.LE.var 0)))))))
def t_is_number (Γ : Ctx) : PTS := (pRet (pAndV (pCall (sp_is_whole Γ) (pCons (pVar 0) pNil)) (pChain (fun i j => decide (i ≤ j)) (fun i j => decide (i ≤ j)) (pVar 1) (pVar 0) (pVar 2))))
theorem d_is_number {P : Program} {w : World} {K : PySem.W.Frag} {mg : Str → Option Value} {base : Heap} {Γ : Ctx} (T : Txt K mg Γ) (G_is_whole : GFn P w K mg base (PySem.Str.ofString "is_whole") 1 ["value"] (sp_is_whole Γ)) {f : Addr} {cdv : Value} {A : Around} {outer : List Env} {s : Shared} {H : Hp} {E : XK}
    (hr : Room 1 (A.deeper (envOfC "is_number" (defScope s_is_number) s.heap.objs.size f cdv))) :
    LSs (cxOf (L2.CX P w) P w K mg base ["value", "low", "high"] "is_number" (defScope s_is_number) f cdv A outer s H E) (defBody s_is_number) (t_is_number Γ) :=
  (LSs.one (LS.ret (PL.LE.and (PL.LE.call G_is_whole (hr.mono (by decide)) rfl (LA.cons (PL.LE.var 0) LA.nil)) (PL.LE.one (PL.LE.lele (PL.LE.var 1) (PL.LE.var 0) (PL.LE.var 2))))))
def t_are_numbers (Γ : Ctx) : PTS := (pSeq (pIfS (pNot (pTest (fun E σ M Q => (pVar 0) E σ M fun x M1 => kIsi "tuple" x M1 Q))) (pRet (pC (.bl false))) pNext) (pRet (pCallB (on1 kAll) (pCons (pLc (piT (pVar 0)) 3 pYes (pCall (sp_is_number Γ) (pCons (pVar 3) (pCons (pVar 1) (pCons (pVar 2) pNil))))) pNil))))
theorem d_are_numbers {P : Program} {w : World} {K : PySem.W.Frag} {mg : Str → Option Value} {base : Heap} {Γ : Ctx} (T : Txt K mg Γ) (G_is_number : GFn P w K mg base (PySem.Str.ofString "is_number") 2 ["value", "low", "high"] (sp_is_number Γ)) {f : Addr} {cdv : Value} {A : Around} {outer : List Env} {s : Shared} {H : Hp} {E : XK}
    (hr : Room 2 (A.deeper (envOfC "are_numbers" (defScope s_are_numbers) s.heap.objs.size f cdv))) :
    LSs (cxOf (L2.CX P w) P w K mg base ["value", "low", "high", "item"] "are_numbers" (defScope s_are_numbers) f cdv A outer s H E) (defBody s_are_numbers) (t_are_numbers Γ) :=
  (LSs.cons (LS.ite (PL.LT.not (PL.LT.val (PL.LE.isi (Ts := "tuple") rfl T.b_isinstance rfl T.b_tuple (by decide +kernel) (PL.LE.var 0)))) (LSs.one (LS.ret PL.LE.bl)) LSs.nil) (LSs.one (LS.ret (PL.LE.all rfl rfl T.b_all (LA.cons (PL.LE.lc rfl sc_are_numbers.nd (LI.tup (PL.LE.var 0)) (blkOk_by (N := ["value", "low", "high", "item"]) (sc := defScope s_are_numbers) (by decide +kernel)) (fun _ _ _ _ _ => pg_name (i := 3) sc_are_numbers.nd rfl (Or.inl rfl)) (fun _ _ _ _ _ => LTs.nil) (fun _ _ _ _ _ => (PL.LE.call G_is_number (hr.mono (by decide)) rfl (LA.cons (PL.LE.var 3) (LA.cons (PL.LE.var 1) (LA.cons (PL.LE.var 2) LA.nil)))))) LA.nil)))))
def c_trimmed_1 (Γ : Ctx) := ((pAnd (pTest (pBin oGt (pVar 1) (pC (.int 0)))) (pTest (pBin oEq (pBin oIx (pVar 0) (pBin oSub (pVar 1) (pC (.int 1)))) (pC (.int 0))))) : PTT)
def b_trimmed_1 (Γ : Ctx) := ((pAug 1 oSub (pC (.int 1))) : PTS)
def t_trimmed (Γ : Ctx) : PTS := (pSeq (pSet 1 (pCallB (on1 kLen) (pCons (pVar 0) pNil))) (pSeq (pWhile (c_trimmed_1 Γ) (b_trimmed_1 Γ)) (pRet (pCallB (on1 kTup) (pCons (pSl (pVar 0) pNoPart (pPart (pVar 1))) pNil)))))
theorem d_trimmed {P : Program} {w : World} {K : PySem.W.Frag} {mg : Str → Option Value} {base : Heap} {Γ : Ctx} (T : Txt K mg Γ)  {f : Addr} {cdv : Value} {A : Around} {outer : List Env} {s : Shared} {H : Hp} {E : XK}
    (hr : Room 0 (A.deeper (envOfC "trimmed" (defScope s_trimmed) s.heap.objs.size f cdv))) :
    LSs (cxOf (L2.CX P w) P w K mg base ["marks", "end"] "trimmed" (defScope s_trimmed) f cdv A outer s H E) (defBody s_trimmed) (t_trimmed Γ) :=
  (LSs.cons (LS.set 1 sc_trimmed.nd (PL.LE.len rfl T.b_len (LA.cons (PL.LE.var 0) LA.nil))) (LSs.cons (LS.while (passes_of rfl) (LW.lt (LW.and (PL.LT.gt (PL.LE.var 1) PL.LE.int) (LW.and1 (PL.LT.eq hr.units (PL.LE.ix (PL.LE.var 0) (PL.LE.sub (PL.LE.var 1) PL.LE.int)) PL.LE.int)))) (LSs.one (LS.augSub 1 sc_trimmed.nd PL.LE.int))) (LSs.one (LS.ret (PL.LE.tupOf rfl T.b_tuple (LA.cons (PL.LE.slice (PL.LE.var 0) LO.none (LO.some (PL.LE.var 1))) LA.nil))))))
def t_laid (Γ : Ctx) : PTS := (pSeq (pIfS (pTest (pBin oEq (pCallB (on1 kLen) (pCons (pVar 0) pNil)) (pC (.int 0)))) (pRet (pTup (pCons (pTup pNil) (pCons (pC (.int 0)) (pCons (pTup pNil) pNil))))) pNext) (pRet (pTup (pCons (pTup pNil) (pCons (pBin oIx (pVar 0) (pC (.int 0))) (pCons (pCall (sp_trimmed Γ) (pCons (pSl (pVar 0) (pPart (pC (.int 1))) pNoPart) pNil)) pNil))))))
theorem d_laid {P : Program} {w : World} {K : PySem.W.Frag} {mg : Str → Option Value} {base : Heap} {Γ : Ctx} (T : Txt K mg Γ) (G_trimmed : GFn P w K mg base (PySem.Str.ofString "trimmed") 1 ["marks"] (sp_trimmed Γ)) {f : Addr} {cdv : Value} {A : Around} {outer : List Env} {s : Shared} {H : Hp} {E : XK}
    (hr : Room 1 (A.deeper (envOfC "laid" (defScope s_laid) s.heap.objs.size f cdv))) :
    LSs (cxOf (L2.CX P w) P w K mg base ["word"] "laid" (defScope s_laid) f cdv A outer s H E) (defBody s_laid) (t_laid Γ) :=
  (LSs.cons (LS.ite (PL.LT.eq hr.units (PL.LE.len rfl T.b_len (LA.cons (PL.LE.var 0) LA.nil)) PL.LE.int) (LSs.one (LS.ret (PL.LE.tup (LA.cons (PL.LE.tup LA.nil) (LA.cons PL.LE.int (LA.cons (PL.LE.tup LA.nil) LA.nil)))))) LSs.nil) (LSs.one (LS.ret (PL.LE.tup (LA.cons (PL.LE.tup LA.nil) (LA.cons (PL.LE.ix (PL.LE.var 0) PL.LE.int) (LA.cons (PL.LE.call G_trimmed (hr.mono (by decide)) rfl (LA.cons (PL.LE.slice (PL.LE.var 0) (LO.some PL.LE.int) LO.none) LA.nil)) LA.nil)))))))
def t_pushed (Γ : Ctx) : PTS := (pSeq (pIfS (pAnd (pTest (pBin oEq (pVar 0) (pC (.int 0)))) (pTest (pBin oEq (pVar 1) (pTup pNil)))) (pRet (pTup pNil)) pNext) (pRet (pBin oAdd (pTup (pCons (pVar 0) pNil)) (pVar 1))))
theorem d_pushed {P : Program} {w : World} {K : PySem.W.Frag} {mg : Str → Option Value} {base : Heap} {Γ : Ctx} (T : Txt K mg Γ)  {f : Addr} {cdv : Value} {A : Around} {outer : List Env} {s : Shared} {H : Hp} {E : XK}
    (hr : Room 0 (A.deeper (envOfC "pushed" (defScope s_pushed) s.heap.objs.size f cdv))) :
    LSs (cxOf (L2.CX P w) P w K mg base ["mark", "side"] "pushed" (defScope s_pushed) f cdv A outer s H E) (defBody s_pushed) (t_pushed Γ) :=
  (LSs.cons (LS.ite (LW.lt (LW.and (PL.LT.eq hr.units (PL.LE.var 0) PL.LE.int) (LW.and1 (PL.LT.eq hr.units (PL.LE.var 1) (PL.LE.tup LA.nil))))) (LSs.one (LS.ret (PL.LE.tup LA.nil))) LSs.nil) (LSs.one (LS.ret (PL.LE.add (PL.LE.tup (LA.cons (PL.LE.var 0) LA.nil)) (PL.LE.var 1)))))
def t_nearest (Γ : Ctx) : PTS := (pSeq (pIfS (pTest (pBin oEq (pVar 0) (pTup pNil))) (pRet (pC (.int 0))) pNext) (pRet (pBin oIx (pVar 0) (pC (.int 0)))))
theorem d_nearest {P : Program} {w : World} {K : PySem.W.Frag} {mg : Str → Option Value} {base : Heap} {Γ : Ctx} (T : Txt K mg Γ)  {f : Addr} {cdv : Value} {A : Around} {outer : List Env} {s : Shared} {H : Hp} {E : XK}
    (hr : Room 0 (A.deeper (envOfC "nearest" (defScope s_nearest) s.heap.objs.size f cdv))) :
    LSs (cxOf (L2.CX P w) P w K mg base ["side"] "nearest" (defScope s_nearest) f cdv A outer s H E) (defBody s_nearest) (t_nearest Γ) :=
  (LSs.cons (LS.ite (PL.LT.eq hr.units (PL.LE.var 0) (PL.LE.tup LA.nil)) (LSs.one (LS.ret PL.LE.int)) LSs.nil) (LSs.one (LS.ret (PL.LE.ix (PL.LE.var 0) PL.LE.int))))
def t_moved (Γ : Ctx) : PTS := (pSeq (pAsg (pVar 0) (gpTup 3 (gpCons (gpName 2) (gpCons (gpName 3) (gpCons (gpName 4) gpNil))))) (pSeq (pIfS (pTest (pBin oEq (pVar 1) (pC (.int 1)))) (pRet (pTup (pCons (pCall (sp_pushed Γ) (pCons (pVar 3) (pCons (pVar 2) pNil))) (pCons (pCall (sp_nearest Γ) (pCons (pVar 4) pNil)) (pCons (pSl (pVar 4) (pPart (pC (.int 1))) pNoPart) pNil))))) pNext) (pSeq (pIfS (pTest (pBin oEq (pVar 1) (pNeg (pC (.int 1))))) (pRet (pTup (pCons (pSl (pVar 2) (pPart (pC (.int 1))) pNoPart) (pCons (pCall (sp_nearest Γ) (pCons (pVar 2) pNil)) (pCons (pCall (sp_pushed Γ) (pCons (pVar 3) (pCons (pVar 4) pNil))) pNil))))) pNext) (pRet (pVar 0)))))
theorem d_moved {P : Program} {w : World} {K : PySem.W.Frag} {mg : Str → Option Value} {base : Heap} {Γ : Ctx} (T : Txt K mg Γ) (G_pushed : GFn P w K mg base (PySem.Str.ofString "pushed") 1 ["mark", "side"] (sp_pushed Γ)) (G_nearest : GFn P w K mg base (PySem.Str.ofString "nearest") 1 ["side"] (sp_nearest Γ)) {f : Addr} {cdv : Value} {A : Around} {outer : List Env} {s : Shared} {H : Hp} {E : XK}
    (hr : Room 1 (A.deeper (envOfC "moved" (defScope s_moved) s.heap.objs.size f cdv))) :
    LSs (cxOf (L2.CX P w) P w K mg base ["tape", "move", "left", "mark", "right"] "moved" (defScope s_moved) f cdv A outer s H E) (defBody s_moved) (t_moved Γ) :=
  (LSs.cons (LS.asg (PL.LE.var 0) (LG.tup rfl (LGs.cons (LG.name 2 sc_moved.nd) (LGs.cons (LG.name 3 sc_moved.nd) (LGs.cons (LG.name 4 sc_moved.nd) LGs.nil))))) (LSs.cons (LS.ite (PL.LT.eq hr.units (PL.LE.var 1) PL.LE.int) (LSs.one (LS.ret (PL.LE.tup (LA.cons (PL.LE.call G_pushed (hr.mono (by decide)) rfl (LA.cons (PL.LE.var 3) (LA.cons (PL.LE.var 2) LA.nil))) (LA.cons (PL.LE.call G_nearest (hr.mono (by decide)) rfl (LA.cons (PL.LE.var 4) LA.nil)) (LA.cons (PL.LE.slice (PL.LE.var 4) (LO.some PL.LE.int) LO.none) LA.nil)))))) LSs.nil) (LSs.cons (LS.ite (PL.LT.eq hr.units (PL.LE.var 1) (PL.LE.neg PL.LE.int)) (LSs.one (LS.ret (PL.LE.tup (LA.cons (PL.LE.slice (PL.LE.var 2) (LO.some PL.LE.int) LO.none) (LA.cons (PL.LE.call G_nearest (hr.mono (by decide)) rfl (LA.cons (PL.LE.var 2) LA.nil)) (LA.cons (PL.LE.call G_pushed (hr.mono (by decide)) rfl (LA.cons (PL.LE.var 3) (LA.cons (PL.LE.var 4) LA.nil))) LA.nil)))))) LSs.nil) (LSs.one (LS.ret (PL.LE.var 0))))))
def t_is_row (Γ : Ctx) : PTS := (pSeq (pIfS (pTIsN (pVar 0)) (pRet (pC (.bl true))) pNext) (pSeq (pIfS (pOr (pNot (pTest (fun E σ M Q => (pVar 0) E σ M fun x M1 => kIsi "tuple" x M1 Q))) (pTest (pBin oNe (pCallB (on1 kLen) (pCons (pVar 0) pNil)) (pC (.int 3))))) (pRet (pC (.bl false))) pNext) (pSeq (pAsg (pVar 0) (gpTup 3 (gpCons (gpName 3) (gpCons (gpName 4) (gpCons (gpName 5) gpNil))))) (pSeq (pIfS (pOr (pNot (pTest (pCall (sp_is_number Γ) (pCons (pVar 4) (pCons (pNeg (pC (.int 1))) (pCons (pC (.int 1)) pNil)))))) (pTest (pBin oEq (pVar 4) (pC (.int 0))))) (pRet (pC (.bl false))) pNext) (pRet (pAndV (pCall (sp_is_number Γ) (pCons (pVar 3) (pCons (pC (.int 0)) (pCons (pBin oSub (pVar 1) (pC (.int 1))) pNil)))) (pCall (sp_is_number Γ) (pCons (pVar 5) (pCons (pC (.int 0)) (pCons (pBin oSub (pVar 2) (pC (.int 1))) pNil))))))))))
theorem d_is_row {P : Program} {w : World} {K : PySem.W.Frag} {mg : Str → Option Value} {base : Heap} {Γ : Ctx} (T : Txt K mg Γ) (G_is_number : GFn P w K mg base (PySem.Str.ofString "is_number") 2 ["value", "low", "high"] (sp_is_number Γ)) {f : Addr} {cdv : Value} {A : Around} {outer : List Env} {s : Shared} {H : Hp} {E : XK}
    (hr : Room 2 (A.deeper (envOfC "is_row" (defScope s_is_row) s.heap.objs.size f cdv))) :
    LSs (cxOf (L2.CX P w) P w K mg base ["row", "marks", "states", "mark", "move", "state"] "is_row" (defScope s_is_row) f cdv A outer s H E) (defBody s_is_row) (t_is_row Γ) :=
  (LSs.cons (LS.ite (PL.LT.isN (PL.LE.var 0)) (LSs.one (LS.ret PL.LE.bl)) LSs.nil) (LSs.cons (LS.ite (LW.lt (LW.or (PL.LT.not (PL.LT.val (PL.LE.isi (Ts := "tuple") rfl T.b_isinstance rfl T.b_tuple (by decide +kernel) (PL.LE.var 0)))) (LW.or1 (PL.LT.ne hr.units (PL.LE.len rfl T.b_len (LA.cons (PL.LE.var 0) LA.nil)) PL.LE.int)))) (LSs.one (LS.ret PL.LE.bl)) LSs.nil) (LSs.cons (LS.asg (PL.LE.var 0) (LG.tup rfl (LGs.cons (LG.name 3 sc_is_row.nd) (LGs.cons (LG.name 4 sc_is_row.nd) (LGs.cons (LG.name 5 sc_is_row.nd) LGs.nil))))) (LSs.cons (LS.ite (LW.lt (LW.or (PL.LT.not (PL.LT.val (PL.LE.call G_is_number (hr.mono (by decide)) rfl (LA.cons (PL.LE.var 4) (LA.cons (PL.LE.neg PL.LE.int) (LA.cons PL.LE.int LA.nil)))))) (LW.or1 (PL.LT.eq hr.units (PL.LE.var 4) PL.LE.int)))) (LSs.one (LS.ret PL.LE.bl)) LSs.nil) (LSs.one (LS.ret (PL.LE.and (PL.LE.call G_is_number (hr.mono (by decide)) rfl (LA.cons (PL.LE.var 3) (LA.cons PL.LE.int (LA.cons (PL.LE.sub (PL.LE.var 1) PL.LE.int) LA.nil)))) (PL.LE.one (PL.LE.call G_is_number (hr.mono (by decide)) rfl (LA.cons (PL.LE.var 5) (LA.cons PL.LE.int (LA.cons (PL.LE.sub (PL.LE.var 2) PL.LE.int) LA.nil))))))))))))
def b_Tape_init_1 (Γ : Ctx) := ((pIfS (pNot (pTest (pCall (sp_is_row Γ) (pCons (pVar 4) (pCons (pVar 1) (pCons (pVar 2) pNil)))))) pNever pNext) : PTS)
def t_Tape_init (Γ : Ctx) : PTS := (pSeq (pIfS (pNot (pTest (pCall (sp_is_number Γ) (pCons (pVar 1) (pCons (pC (.int 2)) (pCons (pC (.int 8)) pNil)))))) pNever pNext) (pSeq (pIfS (pNot (pTest (pCall (sp_is_number Γ) (pCons (pVar 2) (pCons (pC (.int 1)) (pCons (pC (.int 40)) pNil)))))) pNever pNext) (pSeq (pIfS (pOr (pNot (pTest (fun E σ M Q => (pVar 3) E σ M fun x M1 => kIsi "list" x M1 Q))) (pTest (pBin oNe (pCallB (on1 kLen) (pCons (pVar 3) pNil)) (pBin oMul (pVar 1) (pVar 2))))) pNever pNext) (pSeq (pForM (pVar 3) (gpName 4) (b_Tape_init_1 Γ)) (pSeq (pFldS Γ.Tape (PySem.Str.ofString "marks") (pVar 0) (pVar 1)) (pSeq (pFldS Γ.Tape (PySem.Str.ofString "states") (pVar 0) (pVar 2)) (pFldS Γ.Tape (PySem.Str.ofString "_rows") (pVar 0) (pCallB (on1 kList) (pCons (pVar 3) pNil)))))))))
theorem d_Tape_init {P : Program} {w : World} {K : PySem.W.Frag} {mg : Str → Option Value} {base : Heap} {Γ : Ctx} (T : Txt K mg Γ) (G_is_number : GFn P w K mg base (PySem.Str.ofString "is_number") 2 ["value", "low", "high"] (sp_is_number Γ)) (G_is_row : GFn P w K mg base (PySem.Str.ofString "is_row") 3 ["row", "marks", "states"] (sp_is_row Γ)) {f : Addr} {cdv : Value} {A : Around} {outer : List Env} {s : Shared} {H : Hp} {E : XK}
    (hr : Room 3 (A.deeper (envOfC "Tape.__init__" (defScope s_Tape_init) s.heap.objs.size f cdv))) :
    LSs (cxOf (L2.CX P w) P w K mg base ["self", "marks", "states", "rows", "row"] "Tape.__init__" (defScope s_Tape_init) f cdv A outer s H E) (defBody s_Tape_init) (t_Tape_init Γ) :=
  (LSs.cons (LS.ite (PL.LT.not (PL.LT.val (PL.LE.call G_is_number (hr.mono (by decide)) rfl (LA.cons (PL.LE.var 1) (LA.cons PL.LE.int (LA.cons PL.LE.int LA.nil)))))) (LSs.one LS.never) LSs.nil) (LSs.cons (LS.ite (PL.LT.not (PL.LT.val (PL.LE.call G_is_number (hr.mono (by decide)) rfl (LA.cons (PL.LE.var 2) (LA.cons PL.LE.int (LA.cons PL.LE.int LA.nil)))))) (LSs.one LS.never) LSs.nil) (LSs.cons (LS.ite (LW.lt (LW.or (PL.LT.not (PL.LT.val (PL.LE.isi (Ts := "list") rfl T.b_isinstance rfl T.b_list (by decide +kernel) (PL.LE.var 3)))) (LW.or1 (PL.LT.ne hr.units (PL.LE.len rfl T.b_len (LA.cons (PL.LE.var 3) LA.nil)) (PL.LE.mul (PL.LE.var 1) (PL.LE.var 2)))))) (LSs.one LS.never) LSs.nil) (LSs.cons (LS.forM (passes_of rfl) rfl (PL.LE.var 3) (LG.name 4 sc_Tape_init.nd) (LSs.one (LS.ite (PL.LT.not (PL.LT.val (PL.LE.call G_is_row (hr.mono (by decide)) rfl (LA.cons (PL.LE.var 4) (LA.cons (PL.LE.var 1) (LA.cons (PL.LE.var 2) LA.nil)))))) (LSs.one LS.never) LSs.nil))) (LSs.cons (LS.fld T.cTape.cl T.cTape.n_marks (PL.LE.var 0) (PL.LE.var 1)) (LSs.cons (LS.fld T.cTape.cl T.cTape.n_states (PL.LE.var 0) (PL.LE.var 2)) (LSs.one (LS.fld T.cTape.cl T.cTape.n_rows (PL.LE.var 0) (PL.LE.list rfl T.b_list (LA.cons (PL.LE.var 3) LA.nil))))))))))
def t_Tape_row (Γ : Ctx) : PTS := (pSeq (pIfS (pOr (pNot (pTest (pCall (sp_is_number Γ) (pCons (pVar 1) (pCons (pC (.int 0)) (pCons (pBin oSub (pFld Γ.Tape (pVar 0) (PySem.Str.ofString "states")) (pC (.int 1))) pNil)))))) (pNot (pTest (pCall (sp_is_number Γ) (pCons (pVar 2) (pCons (pC (.int 0)) (pCons (pBin oSub (pFld Γ.Tape (pVar 0) (PySem.Str.ofString "marks")) (pC (.int 1))) pNil))))))) pNever pNext) (pRet (pBin oIx (pFld Γ.Tape (pVar 0) (PySem.Str.ofString "_rows")) (pBin oAdd (pBin oMul (pVar 1) (pFld Γ.Tape (pVar 0) (PySem.Str.ofString "marks"))) (pVar 2)))))
theorem d_Tape_row {P : Program} {w : World} {K : PySem.W.Frag} {mg : Str → Option Value} {base : Heap} {Γ : Ctx} (T : Txt K mg Γ) (G_is_number : GFn P w K mg base (PySem.Str.ofString "is_number") 2 ["value", "low", "high"] (sp_is_number Γ)) {f : Addr} {cdv : Value} {A : Around} {outer : List Env} {s : Shared} {H : Hp} {E : XK}
    (hr : Room 2 (A.deeper (envOfC "Tape.row" (defScope s_Tape_row) s.heap.objs.size f cdv))) :
    LSs (cxOf (L2.CX P w) P w K mg base ["self", "state", "mark"] "Tape.row" (defScope s_Tape_row) f cdv A outer s H E) (defBody s_Tape_row) (t_Tape_row Γ) :=
  (LSs.cons (LS.ite (LW.lt (LW.or (PL.LT.not (PL.LT.val (PL.LE.call G_is_number (hr.mono (by decide)) rfl (LA.cons (PL.LE.var 1) (LA.cons PL.LE.int (LA.cons (PL.LE.sub (PL.LE.fld T.cTape.cl T.cTape.n_states (PL.LE.var 0)) PL.LE.int) LA.nil)))))) (LW.or1 (PL.LT.not (PL.LT.val (PL.LE.call G_is_number (hr.mono (by decide)) rfl (LA.cons (PL.LE.var 2) (LA.cons PL.LE.int (LA.cons (PL.LE.sub (PL.LE.fld T.cTape.cl T.cTape.n_marks (PL.LE.var 0)) PL.LE.int) LA.nil))))))))) (LSs.one LS.never) LSs.nil) (LSs.one (LS.ret (PL.LE.ix (PL.LE.fld T.cTape.cl T.cTape.n_rows (PL.LE.var 0)) (PL.LE.add (PL.LE.mul (PL.LE.var 1) (PL.LE.fld T.cTape.cl T.cTape.n_marks (PL.LE.var 0))) (PL.LE.var 2))))))
def t_Tape_table (Γ : Ctx) : PTS := (pRet (pCallB (on1 kListM) (pCons (pFld Γ.Tape (pVar 0) (PySem.Str.ofString "_rows")) pNil)))
theorem d_Tape_table {P : Program} {w : World} {K : PySem.W.Frag} {mg : Str → Option Value} {base : Heap} {Γ : Ctx} (T : Txt K mg Γ)  {f : Addr} {cdv : Value} {A : Around} {outer : List Env} {s : Shared} {H : Hp} {E : XK}
    (hr : Room 0 (A.deeper (envOfC "Tape.table" (defScope s_Tape_table) s.heap.objs.size f cdv))) :
    LSs (cxOf (L2.CX P w) P w K mg base ["self"] "Tape.table" (defScope s_Tape_table) f cdv A outer s H E) (defBody s_Tape_table) (t_Tape_table Γ) :=
  (LSs.one (LS.ret (PL.LE.listM rfl T.b_list (LA.cons (PL.LE.fld T.cTape.cl T.cTape.n_rows (PL.LE.var 0)) LA.nil))))
def t_Tape_begin (Γ : Ctx) : PTS := (pSeq (pIfS (pNot (pTest (pCall (sp_are_numbers Γ) (pCons (pVar 1) (pCons (pC (.int 0)) (pCons (pBin oSub (pFld Γ.Tape (pVar 0) (PySem.Str.ofString "marks")) (pC (.int 1))) pNil)))))) pNever pNext) (pRet (pBin oAdd (pTup (pCons (pC (.int 0)) pNil)) (pCall (sp_laid Γ) (pCons (pVar 1) pNil)))))
theorem d_Tape_begin {P : Program} {w : World} {K : PySem.W.Frag} {mg : Str → Option Value} {base : Heap} {Γ : Ctx} (T : Txt K mg Γ) (G_are_numbers : GFn P w K mg base (PySem.Str.ofString "are_numbers") 3 ["value", "low", "high"] (sp_are_numbers Γ)) (G_laid : GFn P w K mg base (PySem.Str.ofString "laid") 2 ["word"] (sp_laid Γ)) {f : Addr} {cdv : Value} {A : Around} {outer : List Env} {s : Shared} {H : Hp} {E : XK}
    (hr : Room 3 (A.deeper (envOfC "Tape.begin" (defScope s_Tape_begin) s.heap.objs.size f cdv))) :
    LSs (cxOf (L2.CX P w) P w K mg base ["self", "word"] "Tape.begin" (defScope s_Tape_begin) f cdv A outer s H E) (defBody s_Tape_begin) (t_Tape_begin Γ) :=
  (LSs.cons (LS.ite (PL.LT.not (PL.LT.val (PL.LE.call G_are_numbers (hr.mono (by decide)) rfl (LA.cons (PL.LE.var 1) (LA.cons PL.LE.int (LA.cons (PL.LE.sub (PL.LE.fld T.cTape.cl T.cTape.n_marks (PL.LE.var 0)) PL.LE.int) LA.nil)))))) (LSs.one LS.never) LSs.nil) (LSs.one (LS.ret (PL.LE.add (PL.LE.tup (LA.cons PL.LE.int LA.nil)) (PL.LE.call G_laid (hr.mono (by decide)) rfl (LA.cons (PL.LE.var 1) LA.nil))))))
def t_Tape_step (Γ : Ctx) : PTS := (pSeq (pAsg (pVar 1) (gpTup 4 (gpCons (gpName 2) (gpCons (gpName 3) (gpCons (gpName 4) (gpCons (gpName 5) gpNil)))))) (pSeq (pSet 6 (pBin oIx (pFld Γ.Tape (pVar 0) (PySem.Str.ofString "_rows")) (pBin oAdd (pBin oMul (pVar 2) (pFld Γ.Tape (pVar 0) (PySem.Str.ofString "marks"))) (pVar 4)))) (pSeq (pIfS (pTIsN (pVar 6)) (pRet (pC .non)) pNext) (pSeq (pAsg (pVar 6) (gpTup 3 (gpCons (gpName 7) (gpCons (gpName 8) (gpCons (gpName 9) gpNil))))) (pRet (pBin oAdd (pTup (pCons (pVar 9) pNil)) (pCall (sp_moved Γ) (pCons (pTup (pCons (pVar 3) (pCons (pVar 7) (pCons (pVar 5) pNil)))) (pCons (pVar 8) pNil)))))))))
theorem d_Tape_step {P : Program} {w : World} {K : PySem.W.Frag} {mg : Str → Option Value} {base : Heap} {Γ : Ctx} (T : Txt K mg Γ) (G_moved : GFn P w K mg base (PySem.Str.ofString "moved") 2 ["tape", "move"] (sp_moved Γ)) {f : Addr} {cdv : Value} {A : Around} {outer : List Env} {s : Shared} {H : Hp} {E : XK}
    (hr : Room 2 (A.deeper (envOfC "Tape.step" (defScope s_Tape_step) s.heap.objs.size f cdv))) :
    LSs (cxOf (L2.CX P w) P w K mg base ["self", "configuration", "state", "left", "mark", "right", "row", "written", "move", "after"] "Tape.step" (defScope s_Tape_step) f cdv A outer s H E) (defBody s_Tape_step) (t_Tape_step Γ) :=
  (LSs.cons (LS.asg (PL.LE.var 1) (LG.tup rfl (LGs.cons (LG.name 2 sc_Tape_step.nd) (LGs.cons (LG.name 3 sc_Tape_step.nd) (LGs.cons (LG.name 4 sc_Tape_step.nd) (LGs.cons (LG.name 5 sc_Tape_step.nd) LGs.nil)))))) (LSs.cons (LS.set 6 sc_Tape_step.nd (PL.LE.ix (PL.LE.fld T.cTape.cl T.cTape.n_rows (PL.LE.var 0)) (PL.LE.add (PL.LE.mul (PL.LE.var 2) (PL.LE.fld T.cTape.cl T.cTape.n_marks (PL.LE.var 0))) (PL.LE.var 4)))) (LSs.cons (LS.ite (PL.LT.isN (PL.LE.var 6)) (LSs.one (LS.ret PL.LE.non)) LSs.nil) (LSs.cons (LS.asg (PL.LE.var 6) (LG.tup rfl (LGs.cons (LG.name 7 sc_Tape_step.nd) (LGs.cons (LG.name 8 sc_Tape_step.nd) (LGs.cons (LG.name 9 sc_Tape_step.nd) LGs.nil))))) (LSs.one (LS.ret (PL.LE.add (PL.LE.tup (LA.cons (PL.LE.var 9) LA.nil)) (PL.LE.call G_moved (hr.mono (by decide)) rfl (LA.cons (PL.LE.tup (LA.cons (PL.LE.var 3) (LA.cons (PL.LE.var 7) (LA.cons (PL.LE.var 5) LA.nil)))) (LA.cons (PL.LE.var 8) LA.nil))))))))))
def t_Tape_stopped (Γ : Ctx) : PTS := (pRet (pIsN (pMeth Γ.Tape (PySem.Str.ofString "step") (sp_Tape_step Γ) (pVar 0) (pCons (pVar 1) pNil))))
theorem d_Tape_stopped {P : Program} {w : World} {K : PySem.W.Frag} {mg : Str → Option Value} {base : Heap} {Γ : Ctx} (T : Txt K mg Γ) (G_Tape_step : GMt P w K mg base Γ.Tape (PySem.Str.ofString "step") 3 ["self", "configuration"] (sp_Tape_step Γ)) {f : Addr} {cdv : Value} {A : Around} {outer : List Env} {s : Shared} {H : Hp} {E : XK}
    (hr : Room 3 (A.deeper (envOfC "Tape.stopped" (defScope s_Tape_stopped) s.heap.objs.size f cdv))) :
    LSs (cxOf (L2.CX P w) P w K mg base ["self", "configuration"] "Tape.stopped" (defScope s_Tape_stopped) f cdv A outer s H E) (defBody s_Tape_stopped) (t_Tape_stopped Γ) :=
  (LSs.one (LS.ret (PL.LE.isN (PL.LE.meth G_Tape_step T.cTape.cl (hr.mono (by decide)) (PL.LE.var 0) (LA.cons (PL.LE.var 1) LA.nil)))))
def c_Tape_run_1 (Γ : Ctx) := ((pTest (pBin oLt (pVar 3) (pVar 2))) : PTT)
def b_Tape_run_1 (Γ : Ctx) := ((pSeq (pSet 4 (pMeth Γ.Tape (PySem.Str.ofString "step") (sp_Tape_step Γ) (pVar 0) (pCons (pVar 1) pNil))) (pSeq (pIfS (pTIsN (pVar 4)) pBreak pNext) (pSeq (pSet 1 (pVar 4)) (pAug 3 (oI0 fun i j => .int (i + j)) (pC (.int 1)))))) : PTS)
def t_Tape_run (Γ : Ctx) : PTS := (pSeq (pSet 3 (pC (.int 0))) (pSeq (pWhile (c_Tape_run_1 Γ) (b_Tape_run_1 Γ)) (pRet (pTup (pCons (pVar 1) (pCons (pVar 3) pNil))))))
theorem d_Tape_run {P : Program} {w : World} {K : PySem.W.Frag} {mg : Str → Option Value} {base : Heap} {Γ : Ctx} (T : Txt K mg Γ) (G_Tape_step : GMt P w K mg base Γ.Tape (PySem.Str.ofString "step") 3 ["self", "configuration"] (sp_Tape_step Γ)) {f : Addr} {cdv : Value} {A : Around} {outer : List Env} {s : Shared} {H : Hp} {E : XK}
    (hr : Room 3 (A.deeper (envOfC "Tape.run" (defScope s_Tape_run) s.heap.objs.size f cdv))) :
    LSs (cxOf (L2.CX P w) P w K mg base ["self", "configuration", "steps", "taken", "after"] "Tape.run" (defScope s_Tape_run) f cdv A outer s H E) (defBody s_Tape_run) (t_Tape_run Γ) :=
  (LSs.cons (LS.set 3 sc_Tape_run.nd PL.LE.int) (LSs.cons (LS.while (passes_of rfl) (PL.LT.lt (PL.LE.var 3) (PL.LE.var 2)) (LSs.cons (LS.set 4 sc_Tape_run.nd (PL.LE.meth G_Tape_step T.cTape.cl (hr.mono (by decide)) (PL.LE.var 0) (LA.cons (PL.LE.var 1) LA.nil))) (LSs.cons (LS.ite (PL.LT.isN (PL.LE.var 4)) (LSs.one LS.brk) LSs.nil) (LSs.cons (LS.set 1 sc_Tape_run.nd (PL.LE.var 4)) (LSs.one (LS.augAdd 3 sc_Tape_run.nd PL.LE.int)))))) (LSs.one (LS.ret (PL.LE.tup (LA.cons (PL.LE.var 1) (LA.cons (PL.LE.var 3) LA.nil)))))))
def b_law_numbers_2 (Γ : Ctx) := ((pIfS (pAnd (pTest (pBin oGt (pVar 4) (pC (.int 0)))) (pTest (pBin oLt (pCallB (on1 kLen) (pCons (pVar 2) pNil)) (pVar 1)))) (pSeq (pDrop (pApp (pVar 2) (pBin oMod (pVar 4) (pC (.int 1000))))) (pSet 4 (pBin oDiv (pVar 4) (pC (.int 1000))))) pNext) : PTS)
def b_law_numbers_3 (Γ : Ctx) := ((pSeq (pSet 6 (pBin oMod (pCallB (on1 kInt) (pCons (pBin oAdd (pBin oAdd (pBin oAdd (pBin oMul (pVar 4) (pC (.int 48271))) (pBin oMul (pVar 3) (pC (.int 69621)))) (pBin oMul (pVar 5) (pC (.int 16807)))) (pC (.int 11))) pNil)) (pC (.int 2147483647)))) (pSeq (pSet 6 (pBin oMod (pCallB (on1 kInt) (pCons (pBin oAdd (pBin oMul (pVar 6) (pVar 6)) (pVar 5)) pNil)) (pC (.int 2147483629)))) (pDrop (pApp (pVar 2) (pBin oMod (pBin oDiv (pVar 6) (pC (.int 7))) (pC (.int 1000))))))) : PTS)
def b_law_numbers_1 (Γ : Ctx) := ((pSeq (pSet 4 (pCallB (on1 kAbs) (pCons (pBin oIx (pVar 0) (pVar 3)) pNil))) (pIfS (pTest (pBin oGe (pVar 4) (pBin oPow (pC (.int 10)) (pC (.int 18))))) (pFor (piR1 (pC (.int 60))) (gpName 5) (b_law_numbers_2 Γ)) (pFor (piR1 (pC (.int 5))) (gpName 5) (b_law_numbers_3 Γ)))) : PTS)
def t_law_numbers (Γ : Ctx) : PTS := (pSeq (pSet 2 (pLstM pNil)) (pSeq (pFor (piR1 (pCallB (on1 kLen) (pCons (pVar 0) pNil))) (gpName 3) (b_law_numbers_1 Γ)) (pRetD [2] (pSl (pVar 2) pNoPart (pPart (pVar 1))))))
theorem d_law_numbers {P : Program} {w : World} {K : PySem.W.Frag} {mg : Str → Option Value} {base : Heap} {Γ : Ctx} (T : Txt K mg Γ)  {f : Addr} {cdv : Value} {A : Around} {outer : List Env} {s : Shared} {H : Hp} {E : XK}
    (hr : Room 0 (A.deeper (envOfC "_law_numbers" (defScope s_law_numbers) s.heap.objs.size f cdv))) :
    LSs (cxOf (L2.CX P w) P w K mg base ["script", "many", "numbers", "k", "cell", "j", "mixed"] "_law_numbers" (defScope s_law_numbers) f cdv A outer s H E) (defBody s_law_numbers) (t_law_numbers Γ) :=
  (LSs.cons (LS.set 2 sc_law_numbers.nd (PL.LE.lstM LA.nil)) (LSs.cons (LS.for (passes_of rfl) rfl (LI.rng1 rfl T.b_range (PL.LE.len rfl T.b_len (LA.cons (PL.LE.var 0) LA.nil))) (LG.name 3 sc_law_numbers.nd) (LSs.cons (LS.set 4 sc_law_numbers.nd (PL.LE.abs rfl T.b_abs (LA.cons (PL.LE.ix (PL.LE.var 0) (PL.LE.var 3)) LA.nil))) (LSs.one (LS.ite (PL.LT.ge (PL.LE.var 4) (PL.LE.pow PL.LE.int PL.LE.int)) (LSs.one (LS.for (passes_of rfl) rfl (LI.rng1 rfl T.b_range PL.LE.int) (LG.name 5 sc_law_numbers.nd) (LSs.one (LS.ite (LW.lt (LW.and (PL.LT.gt (PL.LE.var 4) PL.LE.int) (LW.and1 (PL.LT.lt (PL.LE.len rfl T.b_len (LA.cons (PL.LE.var 2) LA.nil)) (PL.LE.var 1))))) (LSs.cons (LS.expr (PL.LE.app (PL.LE.var 2) (PL.LE.mod (PL.LE.var 4) PL.LE.int))) (LSs.one (LS.set 4 sc_law_numbers.nd (PL.LE.div (PL.LE.var 4) PL.LE.int)))) LSs.nil)))) (LSs.one (LS.for (passes_of rfl) rfl (LI.rng1 rfl T.b_range PL.LE.int) (LG.name 5 sc_law_numbers.nd) (LSs.cons (LS.set 6 sc_law_numbers.nd (PL.LE.mod (PL.LE.intOf rfl T.b_int (LA.cons (PL.LE.add (PL.LE.add (PL.LE.add (PL.LE.mul (PL.LE.var 4) PL.LE.int) (PL.LE.mul (PL.LE.var 3) PL.LE.int)) (PL.LE.mul (PL.LE.var 5) PL.LE.int)) PL.LE.int) LA.nil)) PL.LE.int)) (LSs.cons (LS.set 6 sc_law_numbers.nd (PL.LE.mod (PL.LE.intOf rfl T.b_int (LA.cons (PL.LE.add (PL.LE.mul (PL.LE.var 6) (PL.LE.var 6)) (PL.LE.var 5)) LA.nil)) PL.LE.int)) (LSs.one (LS.expr (PL.LE.app (PL.LE.var 2) (PL.LE.mod (PL.LE.div (PL.LE.var 6) PL.LE.int) PL.LE.int)))))))))))) (LSs.one (LS.retD [2] (PL.LE.slice (PL.LE.var 2) LO.none (LO.some (PL.LE.var 1)))))))
def t_law_take (Γ : Ctx) : PTS := (pSeq (pIfS (pTest (pBin oLt (pBin oIx (pVar 1) (pC (.int 0))) (pCallB (on1 kLen) (pCons (pVar 0) pNil)))) (pSeq (pAsg (pBin oAdd (pBin oIx (pVar 1) (pC (.int 0))) (pC (.int 1))) (gpSub (pVar 1) (pC (.int 0)))) (pRet (pBin oIx (pVar 0) (pBin oSub (pBin oIx (pVar 1) (pC (.int 0))) (pC (.int 1)))))) pNext) (pRet (pC (.int 0))))
theorem d_law_take {P : Program} {w : World} {K : PySem.W.Frag} {mg : Str → Option Value} {base : Heap} {Γ : Ctx} (T : Txt K mg Γ)  {f : Addr} {cdv : Value} {A : Around} {outer : List Env} {s : Shared} {H : Hp} {E : XK}
    (hr : Room 0 (A.deeper (envOfC "_law_take" (defScope s_law_take) s.heap.objs.size f cdv))) :
    LSs (cxOf (L2.CX P w) P w K mg base ["numbers", "place"] "_law_take" (defScope s_law_take) f cdv A outer s H E) (defBody s_law_take) (t_law_take Γ) :=
  (LSs.cons (LS.ite (PL.LT.lt (PL.LE.ix (PL.LE.var 1) PL.LE.int) (PL.LE.len rfl T.b_len (LA.cons (PL.LE.var 0) LA.nil))) (LSs.cons (LS.asg (PL.LE.add (PL.LE.ix (PL.LE.var 1) PL.LE.int) PL.LE.int) (LG.sub (PL.LE.var 1) PL.LE.int)) (LSs.one (LS.ret (PL.LE.ix (PL.LE.var 0) (PL.LE.sub (PL.LE.ix (PL.LE.var 1) PL.LE.int) PL.LE.int))))) LSs.nil) (LSs.one (LS.ret PL.LE.int)))
def b_law_machine_1 (Γ : Ctx) := ((pIfS (pTest (pBin oLt (pVar 6) (pC (.int 400)))) (pSeq (pSet 7 (pBin oAdd (pCall (sp_law_take Γ) (pCons (pVar 0) (pCons (pVar 1) pNil))) (pBin oMul (pC (.int 17)) (pBin oDiv (pVar 6) (pC (.int 24)))))) (pSeq (pSet 8 (pTup (pCons (pBin oMod (pVar 7) (pVar 2)) (pCons (pBin oIx (pTup (pCons (pNeg (pC (.int 1))) (pCons (pC (.int 1)) pNil))) (pBin oMod (pBin oDiv (pVar 7) (pC (.int 4))) (pC (.int 2)))) (pCons (pBin oMod (pBin oDiv (pVar 7) (pC (.int 8))) (pVar 3)) pNil))))) (pSeq (pIfS (pAnd (pTest (pBin oEq (pVar 5) (pC (.int 1)))) (pTest (pBin oGt (pVar 6) (pC (.int 0))))) (pSet 8 (pTup (pCons (pBin oMod (pVar 7) (pVar 2)) (pCons (pC (.int 1)) (pCons (pBin oMod (pBin oDiv (pVar 7) (pC (.int 8))) (pVar 3)) pNil))))) pNext) (pSeq (pIfS (pAnd (pTest (pBin oEq (pBin oMod (pBin oDiv (pVar 7) (pC (.int 50))) (pC (.int 7))) (pC (.int 0)))) (pTest (pBin oNe (pVar 5) (pC (.int 2))))) (pSet 8 (pC .non)) pNext) (pDrop (pApp (pVar 4) (pVar 8))))))) pNext) : PTS)
def t_law_machine (Γ : Ctx) : PTS := (pSeq (pSet 4 (pLstM pNil)) (pSeq (pSet 5 (pBin oMod (pCall (sp_law_take Γ) (pCons (pVar 0) (pCons (pVar 1) pNil))) (pC (.int 4)))) (pSeq (pFor (piR1 (pBin oMul (pVar 2) (pVar 3))) (gpName 6) (b_law_machine_1 Γ)) (pRetF (pVar 4)))))
theorem d_law_machine {P : Program} {w : World} {K : PySem.W.Frag} {mg : Str → Option Value} {base : Heap} {Γ : Ctx} (T : Txt K mg Γ) (G_law_take : GFn P w K mg base (PySem.Str.ofString "_law_take") 1 ["numbers", "place"] (sp_law_take Γ)) {f : Addr} {cdv : Value} {A : Around} {outer : List Env} {s : Shared} {H : Hp} {E : XK}
    (hr : Room 1 (A.deeper (envOfC "_law_machine" (defScope s_law_machine) s.heap.objs.size f cdv))) :
    LSs (cxOf (L2.CX P w) P w K mg base ["numbers", "place", "marks", "states", "rows", "style", "k", "number", "row"] "_law_machine" (defScope s_law_machine) f cdv A outer s H E) (defBody s_law_machine) (t_law_machine Γ) :=
  (LSs.cons (LS.set 4 sc_law_machine.nd (PL.LE.lstM LA.nil)) (LSs.cons (LS.set 5 sc_law_machine.nd (PL.LE.mod (PL.LE.call G_law_take (hr.mono (by decide)) rfl (LA.cons (PL.LE.var 0) (LA.cons (PL.LE.var 1) LA.nil))) PL.LE.int)) (LSs.cons (LS.for (passes_of rfl) rfl (LI.rng1 rfl T.b_range (PL.LE.mul (PL.LE.var 2) (PL.LE.var 3))) (LG.name 6 sc_law_machine.nd) (LSs.one (LS.ite (PL.LT.lt (PL.LE.var 6) PL.LE.int) (LSs.cons (LS.set 7 sc_law_machine.nd (PL.LE.add (PL.LE.call G_law_take (hr.mono (by decide)) rfl (LA.cons (PL.LE.var 0) (LA.cons (PL.LE.var 1) LA.nil))) (PL.LE.mul PL.LE.int (PL.LE.div (PL.LE.var 6) PL.LE.int)))) (LSs.cons (LS.set 8 sc_law_machine.nd (PL.LE.tup (LA.cons (PL.LE.mod (PL.LE.var 7) (PL.LE.var 2)) (LA.cons (PL.LE.ix (PL.LE.tup (LA.cons (PL.LE.neg PL.LE.int) (LA.cons PL.LE.int LA.nil))) (PL.LE.mod (PL.LE.div (PL.LE.var 7) PL.LE.int) PL.LE.int)) (LA.cons (PL.LE.mod (PL.LE.div (PL.LE.var 7) PL.LE.int) (PL.LE.var 3)) LA.nil))))) (LSs.cons (LS.ite (LW.lt (LW.and (PL.LT.eq hr.units (PL.LE.var 5) PL.LE.int) (LW.and1 (PL.LT.gt (PL.LE.var 6) PL.LE.int)))) (LSs.one (LS.set 8 sc_law_machine.nd (PL.LE.tup (LA.cons (PL.LE.mod (PL.LE.var 7) (PL.LE.var 2)) (LA.cons PL.LE.int (LA.cons (PL.LE.mod (PL.LE.div (PL.LE.var 7) PL.LE.int) (PL.LE.var 3)) LA.nil)))))) LSs.nil) (LSs.cons (LS.ite (LW.lt (LW.and (PL.LT.eq hr.units (PL.LE.mod (PL.LE.div (PL.LE.var 7) PL.LE.int) PL.LE.int) PL.LE.int) (LW.and1 (PL.LT.ne hr.units (PL.LE.var 5) PL.LE.int)))) (LSs.one (LS.set 8 sc_law_machine.nd PL.LE.non)) LSs.nil) (LSs.one (LS.expr (PL.LE.app (PL.LE.var 4) (PL.LE.var 8)))))))) LSs.nil))) (LSs.one (LS.retF (PL.LE.var 4))))))
def t_law_sizes (Γ : Ctx) : PTS := (pSeq (pSet 2 (pCall (sp_law_take Γ) (pCons (pVar 0) (pCons (pVar 1) pNil)))) (pSeq (pSet 3 (pCall (sp_law_take Γ) (pCons (pVar 0) (pCons (pVar 1) pNil)))) (pSeq (pIfS (pTest (pBin oEq (pBin oMod (pBin oDiv (pVar 2) (pC (.int 3))) (pC (.int 12))) (pC (.int 11)))) (pRet (pTup (pCons (pBin oAdd (pC (.int 5)) (pBin oMod (pVar 2) (pC (.int 4)))) (pCons (pBin oIx (pTup (pCons (pC (.int 40)) (pCons (pBin oAdd (pC (.int 7)) (pBin oMod (pVar 3) (pC (.int 14)))) (pCons (pBin oAdd (pC (.int 7)) (pBin oMod (pVar 3) (pC (.int 34)))) pNil)))) (pBin oMod (pVar 3) (pC (.int 3)))) pNil)))) pNext) (pRet (pTup (pCons (pBin oAdd (pC (.int 2)) (pBin oMod (pVar 2) (pC (.int 3)))) (pCons (pBin oAdd (pC (.int 1)) (pBin oMod (pVar 3) (pC (.int 6)))) pNil)))))))
theorem d_law_sizes {P : Program} {w : World} {K : PySem.W.Frag} {mg : Str → Option Value} {base : Heap} {Γ : Ctx} (T : Txt K mg Γ) (G_law_take : GFn P w K mg base (PySem.Str.ofString "_law_take") 1 ["numbers", "place"] (sp_law_take Γ)) {f : Addr} {cdv : Value} {A : Around} {outer : List Env} {s : Shared} {H : Hp} {E : XK}
    (hr : Room 1 (A.deeper (envOfC "_law_sizes" (defScope s_law_sizes) s.heap.objs.size f cdv))) :
    LSs (cxOf (L2.CX P w) P w K mg base ["numbers", "place", "first", "second"] "_law_sizes" (defScope s_law_sizes) f cdv A outer s H E) (defBody s_law_sizes) (t_law_sizes Γ) :=
  (LSs.cons (LS.set 2 sc_law_sizes.nd (PL.LE.call G_law_take (hr.mono (by decide)) rfl (LA.cons (PL.LE.var 0) (LA.cons (PL.LE.var 1) LA.nil)))) (LSs.cons (LS.set 3 sc_law_sizes.nd (PL.LE.call G_law_take (hr.mono (by decide)) rfl (LA.cons (PL.LE.var 0) (LA.cons (PL.LE.var 1) LA.nil)))) (LSs.cons (LS.ite (PL.LT.eq hr.units (PL.LE.mod (PL.LE.div (PL.LE.var 2) PL.LE.int) PL.LE.int) PL.LE.int) (LSs.one (LS.ret (PL.LE.tup (LA.cons (PL.LE.add PL.LE.int (PL.LE.mod (PL.LE.var 2) PL.LE.int)) (LA.cons (PL.LE.ix (PL.LE.tup (LA.cons PL.LE.int (LA.cons (PL.LE.add PL.LE.int (PL.LE.mod (PL.LE.var 3) PL.LE.int)) (LA.cons (PL.LE.add PL.LE.int (PL.LE.mod (PL.LE.var 3) PL.LE.int)) LA.nil)))) (PL.LE.mod (PL.LE.var 3) PL.LE.int)) LA.nil))))) LSs.nil) (LSs.one (LS.ret (PL.LE.tup (LA.cons (PL.LE.add PL.LE.int (PL.LE.mod (PL.LE.var 2) PL.LE.int)) (LA.cons (PL.LE.add PL.LE.int (PL.LE.mod (PL.LE.var 3) PL.LE.int)) LA.nil))))))))
def t_law_trim (Γ : Ctx) : PTS := (pSeq (pSet 1 (pCallB (on1 kLen) (pCons (pLc (piR1 (pCallB (on1 kLen) (pCons (pVar 0) pNil))) 2 (pTest (pBin oGt (pCallB (on1 kMaxT) (pCons (pBin oAdd (pTup (pCons (pC (.int 0)) pNil)) (pSl (pVar 0) (pPart (pVar 2)) pNoPart)) pNil)) (pC (.int 0)))) (pVar 2)) pNil))) (pRet (pSl (pVar 0) pNoPart (pPart (pVar 1)))))
theorem d_law_trim {P : Program} {w : World} {K : PySem.W.Frag} {mg : Str → Option Value} {base : Heap} {Γ : Ctx} (T : Txt K mg Γ)  {f : Addr} {cdv : Value} {A : Around} {outer : List Env} {s : Shared} {H : Hp} {E : XK}
    (hr : Room 0 (A.deeper (envOfC "_law_trim" (defScope s_law_trim) s.heap.objs.size f cdv))) :
    LSs (cxOf (L2.CX P w) P w K mg base ["marks", "count", "k"] "_law_trim" (defScope s_law_trim) f cdv A outer s H E) (defBody s_law_trim) (t_law_trim Γ) :=
  (LSs.cons (LS.set 1 sc_law_trim.nd (PL.LE.len rfl T.b_len (LA.cons (PL.LE.lc rfl sc_law_trim.nd (LI.rng1 rfl T.b_range (PL.LE.len rfl T.b_len (LA.cons (PL.LE.var 0) LA.nil))) (blkOk_by (N := ["marks", "count", "k"]) (sc := defScope s_law_trim) (by decide +kernel)) (fun _ _ _ _ _ => pg_name (i := 2) sc_law_trim.nd rfl (Or.inl rfl)) (fun _ _ _ _ _ => (LTs.one (PL.LT.gt (PL.LE.maxT rfl rfl T.b_max (LA.cons (PL.LE.add (PL.LE.tup (LA.cons PL.LE.int LA.nil)) (PL.LE.slice (PL.LE.var 0) (LO.some (PL.LE.var 2)) LO.none)) LA.nil)) PL.LE.int))) (fun _ _ _ _ _ => (PL.LE.var 2))) LA.nil))) (LSs.one (LS.ret (PL.LE.slice (PL.LE.var 0) LO.none (LO.some (PL.LE.var 1))))))
def b_law_side_1 (Γ : Ctx) := ((pSet 4 (pBin oAdd (pVar 4) (pTup (pCons (pBin oMod (pCall (sp_law_take Γ) (pCons (pVar 0) (pCons (pVar 1) pNil))) (pVar 2)) pNil)))) : PTS)
def t_law_side (Γ : Ctx) : PTS := (pSeq (pSet 4 (pTup pNil)) (pSeq (pFor (piR1 (pBin oMod (pCall (sp_law_take Γ) (pCons (pVar 0) (pCons (pVar 1) pNil))) (pBin oAdd (pVar 3) (pC (.int 1))))) (gpName 5) (b_law_side_1 Γ)) (pRet (pCall (sp_law_trim Γ) (pCons (pVar 4) pNil)))))
theorem d_law_side {P : Program} {w : World} {K : PySem.W.Frag} {mg : Str → Option Value} {base : Heap} {Γ : Ctx} (T : Txt K mg Γ) (G_law_trim : GFn P w K mg base (PySem.Str.ofString "_law_trim") 1 ["marks"] (sp_law_trim Γ)) (G_law_take : GFn P w K mg base (PySem.Str.ofString "_law_take") 1 ["numbers", "place"] (sp_law_take Γ)) {f : Addr} {cdv : Value} {A : Around} {outer : List Env} {s : Shared} {H : Hp} {E : XK}
    (hr : Room 1 (A.deeper (envOfC "_law_side" (defScope s_law_side) s.heap.objs.size f cdv))) :
    LSs (cxOf (L2.CX P w) P w K mg base ["numbers", "place", "marks", "most", "side", "k"] "_law_side" (defScope s_law_side) f cdv A outer s H E) (defBody s_law_side) (t_law_side Γ) :=
  (LSs.cons (LS.set 4 sc_law_side.nd (PL.LE.tup LA.nil)) (LSs.cons (LS.for (passes_of rfl) rfl (LI.rng1 rfl T.b_range (PL.LE.mod (PL.LE.call G_law_take (hr.mono (by decide)) rfl (LA.cons (PL.LE.var 0) (LA.cons (PL.LE.var 1) LA.nil))) (PL.LE.add (PL.LE.var 3) PL.LE.int))) (LG.name 5 sc_law_side.nd) (LSs.one (LS.set 4 sc_law_side.nd (PL.LE.add (PL.LE.var 4) (PL.LE.tup (LA.cons (PL.LE.mod (PL.LE.call G_law_take (hr.mono (by decide)) rfl (LA.cons (PL.LE.var 0) (LA.cons (PL.LE.var 1) LA.nil))) (PL.LE.var 2)) LA.nil)))))) (LSs.one (LS.ret (PL.LE.call G_law_trim (hr.mono (by decide)) rfl (LA.cons (PL.LE.var 4) LA.nil))))))
def t_law_configuration (Γ : Ctx) : PTS := (pSeq (pSet 5 (pCall (sp_law_side Γ) (pCons (pVar 0) (pCons (pVar 1) (pCons (pVar 2) (pCons (pVar 4) pNil)))))) (pSeq (pSet 6 (pCall (sp_law_side Γ) (pCons (pVar 0) (pCons (pVar 1) (pCons (pVar 2) (pCons (pVar 4) pNil)))))) (pRet (pTup (pCons (pBin oMod (pCall (sp_law_take Γ) (pCons (pVar 0) (pCons (pVar 1) pNil))) (pVar 3)) (pCons (pVar 5) (pCons (pBin oMod (pCall (sp_law_take Γ) (pCons (pVar 0) (pCons (pVar 1) pNil))) (pVar 2)) (pCons (pVar 6) pNil))))))))
theorem d_law_configuration {P : Program} {w : World} {K : PySem.W.Frag} {mg : Str → Option Value} {base : Heap} {Γ : Ctx} (T : Txt K mg Γ) (G_law_side : GFn P w K mg base (PySem.Str.ofString "_law_side") 2 ["numbers", "place", "marks", "most"] (sp_law_side Γ)) (G_law_take : GFn P w K mg base (PySem.Str.ofString "_law_take") 1 ["numbers", "place"] (sp_law_take Γ)) {f : Addr} {cdv : Value} {A : Around} {outer : List Env} {s : Shared} {H : Hp} {E : XK}
    (hr : Room 2 (A.deeper (envOfC "_law_configuration" (defScope s_law_configuration) s.heap.objs.size f cdv))) :
    LSs (cxOf (L2.CX P w) P w K mg base ["numbers", "place", "marks", "states", "most", "left", "right"] "_law_configuration" (defScope s_law_configuration) f cdv A outer s H E) (defBody s_law_configuration) (t_law_configuration Γ) :=
  (LSs.cons (LS.set 5 sc_law_configuration.nd (PL.LE.call G_law_side (hr.mono (by decide)) rfl (LA.cons (PL.LE.var 0) (LA.cons (PL.LE.var 1) (LA.cons (PL.LE.var 2) (LA.cons (PL.LE.var 4) LA.nil)))))) (LSs.cons (LS.set 6 sc_law_configuration.nd (PL.LE.call G_law_side (hr.mono (by decide)) rfl (LA.cons (PL.LE.var 0) (LA.cons (PL.LE.var 1) (LA.cons (PL.LE.var 2) (LA.cons (PL.LE.var 4) LA.nil)))))) (LSs.one (LS.ret (PL.LE.tup (LA.cons (PL.LE.mod (PL.LE.call G_law_take (hr.mono (by decide)) rfl (LA.cons (PL.LE.var 0) (LA.cons (PL.LE.var 1) LA.nil))) (PL.LE.var 3)) (LA.cons (PL.LE.var 5) (LA.cons (PL.LE.mod (PL.LE.call G_law_take (hr.mono (by decide)) rfl (LA.cons (PL.LE.var 0) (LA.cons (PL.LE.var 1) LA.nil))) (PL.LE.var 2)) (LA.cons (PL.LE.var 6) LA.nil)))))))))
def t_law_step (Γ : Ctx) : PTS := (pSeq (pSet 3 (pBin oIx (pVar 0) (pBin oAdd (pBin oMul (pBin oIx (pVar 2) (pC (.int 0))) (pVar 1)) (pBin oIx (pVar 2) (pC (.int 2)))))) (pSeq (pIfS (pTIsN (pVar 3)) (pRet (pC .non)) pNext) (pSeq (pSet 4 (pBin oAdd (pBin oAdd (pTupRev (pBin oIx (pVar 2) (pC (.int 1)))) (pTup (pCons (pBin oIx (pVar 3) (pC (.int 0))) pNil))) (pBin oIx (pVar 2) (pC (.int 3))))) (pSeq (pSet 5 (pBin oAdd (pCallB (on1 kLen) (pCons (pBin oIx (pVar 2) (pC (.int 1))) pNil)) (pBin oIx (pVar 3) (pC (.int 1))))) (pSeq (pIfS (pTest (pBin oLt (pVar 5) (pC (.int 0)))) (pSeq (pSet 4 (pBin oAdd (pTup (pCons (pC (.int 0)) pNil)) (pVar 4))) (pSet 5 (pC (.int 0)))) pNext) (pSeq (pIfS (pTest (pBin oEq (pVar 5) (pCallB (on1 kLen) (pCons (pVar 4) pNil)))) (pSet 4 (pBin oAdd (pVar 4) (pTup (pCons (pC (.int 0)) pNil)))) pNext) (pRet (pTup (pCons (pBin oIx (pVar 3) (pC (.int 2))) (pCons (pCall (sp_law_trim Γ) (pCons (pTupRev (pSl (pVar 4) pNoPart (pPart (pVar 5)))) pNil)) (pCons (pBin oIx (pVar 4) (pVar 5)) (pCons (pCall (sp_law_trim Γ) (pCons (pSl (pVar 4) (pPart (pBin oAdd (pVar 5) (pC (.int 1)))) pNoPart) pNil)) pNil))))))))))))
theorem d_law_step {P : Program} {w : World} {K : PySem.W.Frag} {mg : Str → Option Value} {base : Heap} {Γ : Ctx} (T : Txt K mg Γ) (G_law_trim : GFn P w K mg base (PySem.Str.ofString "_law_trim") 1 ["marks"] (sp_law_trim Γ)) {f : Addr} {cdv : Value} {A : Around} {outer : List Env} {s : Shared} {H : Hp} {E : XK}
    (hr : Room 1 (A.deeper (envOfC "_law_step" (defScope s_law_step) s.heap.objs.size f cdv))) :
    LSs (cxOf (L2.CX P w) P w K mg base ["rows", "marks", "spot", "row", "tape", "at"] "_law_step" (defScope s_law_step) f cdv A outer s H E) (defBody s_law_step) (t_law_step Γ) :=
  (LSs.cons (LS.set 3 sc_law_step.nd (PL.LE.ix (PL.LE.var 0) (PL.LE.add (PL.LE.mul (PL.LE.ix (PL.LE.var 2) PL.LE.int) (PL.LE.var 1)) (PL.LE.ix (PL.LE.var 2) PL.LE.int)))) (LSs.cons (LS.ite (PL.LT.isN (PL.LE.var 3)) (LSs.one (LS.ret PL.LE.non)) LSs.nil) (LSs.cons (LS.set 4 sc_law_step.nd (PL.LE.add (PL.LE.add (PL.LE.tupRev rfl rfl T.b_tuple rfl T.b_reversed (PL.LE.ix (PL.LE.var 2) PL.LE.int)) (PL.LE.tup (LA.cons (PL.LE.ix (PL.LE.var 3) PL.LE.int) LA.nil))) (PL.LE.ix (PL.LE.var 2) PL.LE.int))) (LSs.cons (LS.set 5 sc_law_step.nd (PL.LE.add (PL.LE.len rfl T.b_len (LA.cons (PL.LE.ix (PL.LE.var 2) PL.LE.int) LA.nil)) (PL.LE.ix (PL.LE.var 3) PL.LE.int))) (LSs.cons (LS.ite (PL.LT.lt (PL.LE.var 5) PL.LE.int) (LSs.cons (LS.set 4 sc_law_step.nd (PL.LE.add (PL.LE.tup (LA.cons PL.LE.int LA.nil)) (PL.LE.var 4))) (LSs.one (LS.set 5 sc_law_step.nd PL.LE.int))) LSs.nil) (LSs.cons (LS.ite (PL.LT.eq hr.units (PL.LE.var 5) (PL.LE.len rfl T.b_len (LA.cons (PL.LE.var 4) LA.nil))) (LSs.one (LS.set 4 sc_law_step.nd (PL.LE.add (PL.LE.var 4) (PL.LE.tup (LA.cons PL.LE.int LA.nil))))) LSs.nil) (LSs.one (LS.ret (PL.LE.tup (LA.cons (PL.LE.ix (PL.LE.var 3) PL.LE.int) (LA.cons (PL.LE.call G_law_trim (hr.mono (by decide)) rfl (LA.cons (PL.LE.tupRev rfl rfl T.b_tuple rfl T.b_reversed (PL.LE.slice (PL.LE.var 4) LO.none (LO.some (PL.LE.var 5)))) LA.nil)) (LA.cons (PL.LE.ix (PL.LE.var 4) (PL.LE.var 5)) (LA.cons (PL.LE.call G_law_trim (hr.mono (by decide)) rfl (LA.cons (PL.LE.slice (PL.LE.var 4) (LO.some (PL.LE.add (PL.LE.var 5) PL.LE.int)) LO.none) LA.nil)) LA.nil)))))))))))))
def b_law_run_1 (Γ : Ctx) := ((pSeq (pSet 6 (pCall (sp_law_step Γ) (pCons (pVar 0) (pCons (pVar 1) (pCons (pVar 2) pNil))))) (pSeq (pIfS (pTIsN (pVar 6)) (pRet (pTup (pCons (pVar 2) (pCons (pVar 4) pNil)))) pNext) (pSeq (pSet 2 (pVar 6)) (pSet 4 (pBin oAdd (pVar 4) (pC (.int 1))))))) : PTS)
def t_law_run (Γ : Ctx) : PTS := (pSeq (pSet 4 (pC (.int 0))) (pSeq (pFor (piR1 (pVar 3)) (gpName 5) (b_law_run_1 Γ)) (pRet (pTup (pCons (pVar 2) (pCons (pVar 4) pNil))))))
theorem d_law_run {P : Program} {w : World} {K : PySem.W.Frag} {mg : Str → Option Value} {base : Heap} {Γ : Ctx} (T : Txt K mg Γ) (G_law_step : GFn P w K mg base (PySem.Str.ofString "_law_step") 2 ["rows", "marks", "spot"] (sp_law_step Γ)) {f : Addr} {cdv : Value} {A : Around} {outer : List Env} {s : Shared} {H : Hp} {E : XK}
    (hr : Room 2 (A.deeper (envOfC "_law_run" (defScope s_law_run) s.heap.objs.size f cdv))) :
    LSs (cxOf (L2.CX P w) P w K mg base ["rows", "marks", "spot", "steps", "taken", "k", "after"] "_law_run" (defScope s_law_run) f cdv A outer s H E) (defBody s_law_run) (t_law_run Γ) :=
  (LSs.cons (LS.set 4 sc_law_run.nd PL.LE.int) (LSs.cons (LS.for (passes_of rfl) rfl (LI.rng1 rfl T.b_range (PL.LE.var 3)) (LG.name 5 sc_law_run.nd) (LSs.cons (LS.set 6 sc_law_run.nd (PL.LE.call G_law_step (hr.mono (by decide)) rfl (LA.cons (PL.LE.var 0) (LA.cons (PL.LE.var 1) (LA.cons (PL.LE.var 2) LA.nil))))) (LSs.cons (LS.ite (PL.LT.isN (PL.LE.var 6)) (LSs.one (LS.ret (PL.LE.tup (LA.cons (PL.LE.var 2) (LA.cons (PL.LE.var 4) LA.nil))))) LSs.nil) (LSs.cons (LS.set 2 sc_law_run.nd (PL.LE.var 6)) (LSs.one (LS.set 4 sc_law_run.nd (PL.LE.add (PL.LE.var 4) PL.LE.int))))))) (LSs.one (LS.ret (PL.LE.tup (LA.cons (PL.LE.var 2) (LA.cons (PL.LE.var 4) LA.nil)))))))
def b_law_same_1 (Γ : Ctx) (spSelf : PSp) := ((pIfS (pNot (pTest (pCall spSelf (pCons (pBin oIx (pVar 0) (pVar 2)) (pCons (pBin oIx (pVar 1) (pVar 2)) pNil))))) (pRet (pC (.bl false))) pNext) : PTS)
def t_law_same (Γ : Ctx) (spSelf : PSp) : PTS := (pSeq (pIfS (pTest (fun E σ M Q => (pVar 1) E σ M fun x M1 => kIsi "tuple" x M1 Q)) (pSeq (pIfS (pOr (pNot (pTest (fun E σ M Q => (pVar 0) E σ M fun x M1 => kIsi "tuple" x M1 Q))) (pTest (pBin oNe (pCallB (on1 kLen) (pCons (pVar 0) pNil)) (pCallB (on1 kLen) (pCons (pVar 1) pNil))))) (pRet (pC (.bl false))) pNext) (pSeq (pFor (piR1 (pCallB (on1 kLen) (pCons (pVar 1) pNil))) (gpName 2) (b_law_same_1 Γ spSelf)) (pRet (pC (.bl true))))) pNext) (pSeq (pIfS (pTIsN (pVar 1)) (pRet (pIsN (pVar 0))) pNext) (pSeq (pIfS (pTest (fun E σ M Q => (pVar 1) E σ M fun x M1 => kIsi "str" x M1 Q)) (pRet (pAndV (fun E σ M Q => (pVar 0) E σ M fun x M1 => kIsi "str" x M1 Q) (pBin oEq (pVar 0) (pVar 1)))) pNext) (pRet (pAndV (fun E σ M Q => (pVar 0) E σ M fun x M1 => kIsi "int" x M1 Q) (pAndV (pNotV (fun E σ M Q => (pVar 0) E σ M fun x M1 => kIsi "bool" x M1 Q)) (pBin oEq (pVar 0) (pVar 1))))))))
theorem d_law_same {P : Program} {w : World} {K : PySem.W.Frag} {mg : Str → Option Value} {base : Heap} {Γ : Ctx} (T : Txt K mg Γ)  {spSelf : PSp} {kk : Nat} (G_self : GFn P w K mg base (PySem.Str.ofString "_law_same") kk ["actual", "expected"] spSelf) {f : Addr} {cdv : Value} {A : Around} {outer : List Env} {s : Shared} {H : Hp} {E : XK}
    (hr : Room kk (A.deeper (envOfC "_law_same" (defScope s_law_same) s.heap.objs.size f cdv))) :
    LSs (cxOf (L2.CX P w) P w K mg base ["actual", "expected", "k"] "_law_same" (defScope s_law_same) f cdv A outer s H E) (defBody s_law_same) (t_law_same Γ spSelf) :=
  (LSs.cons (LS.ite (PL.LT.val (PL.LE.isi (Ts := "tuple") rfl T.b_isinstance rfl T.b_tuple (by decide +kernel) (PL.LE.var 1))) (LSs.cons (LS.ite (LW.lt (LW.or (PL.LT.not (PL.LT.val (PL.LE.isi (Ts := "tuple") rfl T.b_isinstance rfl T.b_tuple (by decide +kernel) (PL.LE.var 0)))) (LW.or1 (PL.LT.ne hr.units (PL.LE.len rfl T.b_len (LA.cons (PL.LE.var 0) LA.nil)) (PL.LE.len rfl T.b_len (LA.cons (PL.LE.var 1) LA.nil)))))) (LSs.one (LS.ret PL.LE.bl)) LSs.nil) (LSs.cons (LS.for (passes_of rfl) rfl (LI.rng1 rfl T.b_range (PL.LE.len rfl T.b_len (LA.cons (PL.LE.var 1) LA.nil))) (LG.name 2 sc_law_same.nd) (LSs.one (LS.ite (PL.LT.not (PL.LT.val (PL.LE.call G_self (hr.mono (by omega)) rfl (LA.cons (PL.LE.ix (PL.LE.var 0) (PL.LE.var 2)) (LA.cons (PL.LE.ix (PL.LE.var 1) (PL.LE.var 2)) LA.nil))))) (LSs.one (LS.ret PL.LE.bl)) LSs.nil))) (LSs.one (LS.ret PL.LE.bl)))) LSs.nil) (LSs.cons (LS.ite (PL.LT.isN (PL.LE.var 1)) (LSs.one (LS.ret (PL.LE.isN (PL.LE.var 0)))) LSs.nil) (LSs.cons (LS.ite (PL.LT.val (PL.LE.isi (Ts := "str") rfl T.b_isinstance rfl T.b_str (by decide +kernel) (PL.LE.var 1))) (LSs.one (LS.ret (PL.LE.and (PL.LE.isi (Ts := "str") rfl T.b_isinstance rfl T.b_str (by decide +kernel) (PL.LE.var 0)) (PL.LE.one (PL.LE.eq hr.units (PL.LE.var 0) (PL.LE.var 1)))))) LSs.nil) (LSs.one (LS.ret (PL.LE.and (PL.LE.isi (Ts := "int") rfl T.b_isinstance rfl T.b_int (by decide +kernel) (PL.LE.var 0)) (PL.LE.and (PL.LE.not (PL.LE.isi (Ts := "bool") rfl T.b_isinstance rfl T.b_bool (by decide +kernel) (PL.LE.var 0))) (PL.LE.one (PL.LE.eq hr.units (PL.LE.var 0) (PL.LE.var 1))))))))))
def b_law_right_1 (Γ : Ctx) := ((pIfS (pNot (pTest (pCall (sp_law_same Γ) (pCons (pMeth Γ.Tape (PySem.Str.ofString "row") (sp_Tape_row Γ) (pVar 0) (pCons (pBin oDiv (pVar 6) (pBin oIx (pVar 1) (pC (.int 0)))) (pCons (pBin oMod (pVar 6) (pBin oIx (pVar 1) (pC (.int 0)))) pNil))) (pCons (pBin oIx (pVar 2) (pVar 6)) pNil))))) (pRetD [5] (pC (.bl false))) pNext) : PTS)
def t_law_right (Γ : Ctx) : PTS := (pSeq (pIfS (pNot (pTest (pCall (sp_law_same Γ) (pCons (pTup (pCons (pFld Γ.Tape (pVar 0) (PySem.Str.ofString "marks")) (pCons (pFld Γ.Tape (pVar 0) (PySem.Str.ofString "states")) pNil))) (pCons (pVar 1) pNil))))) (pRetD [5] (pC (.bl false))) pNext) (pSeq (pSet 5 (pMeth Γ.Tape (PySem.Str.ofString "table") (sp_Tape_table Γ) (pVar 0) pNil)) (pSeq (pIfS (pOr (pNot (pTest (fun E σ M Q => (pVar 5) E σ M fun x M1 => kIsi "list" x M1 Q))) (pNot (pTest (pCall (sp_law_same Γ) (pCons (pCallB (on1 kTup) (pCons (pVar 5) pNil)) (pCons (pCallB (on1 kTup) (pCons (pVar 2) pNil)) pNil)))))) (pRetD [5] (pC (.bl false))) pNext) (pSeq (pDrop (pApp (pVar 5) (pC .non))) (pSeq (pFor (piR1 (pCallB (on1 kLen) (pCons (pVar 2) pNil))) (gpName 6) (b_law_right_1 Γ)) (pSeq (pSet 7 (pCall (sp_law_step Γ) (pCons (pVar 2) (pCons (pBin oIx (pVar 1) (pC (.int 0))) (pCons (pVar 3) pNil))))) (pSeq (pIfS (pOr (pNot (pTest (pCall (sp_law_same Γ) (pCons (pMeth Γ.Tape (PySem.Str.ofString "step") (sp_Tape_step Γ) (pVar 0) (pCons (pVar 3) pNil)) (pCons (pVar 7) pNil))))) (pNot (pTest (fun E σ M Q => (pMeth Γ.Tape (PySem.Str.ofString "stopped") (sp_Tape_stopped Γ) (pVar 0) (pCons (pVar 3) pNil)) E σ M fun x M1 => kIsi "bool" x M1 Q)))) (pRetD [5] (pC (.bl false))) pNext) (pSeq (pIfS (pTest (pBin oNe (pMeth Γ.Tape (PySem.Str.ofString "stopped") (sp_Tape_stopped Γ) (pVar 0) (pCons (pVar 3) pNil)) (pIsN (pVar 7)))) (pRetD [5] (pC (.bl false))) pNext) (pSeq (pIfS (pNot (pTest (pCall (sp_law_same Γ) (pCons (pMeth Γ.Tape (PySem.Str.ofString "run") (sp_Tape_run Γ) (pVar 0) (pCons (pVar 3) (pCons (pVar 4) pNil))) (pCons (pCall (sp_law_run Γ) (pCons (pVar 2) (pCons (pBin oIx (pVar 1) (pC (.int 0))) (pCons (pVar 3) (pCons (pVar 4) pNil))))) pNil))))) (pRetD [5] (pC (.bl false))) pNext) (pRetD [5] (pC (.bl true))))))))))))
theorem d_law_right {P : Program} {w : World} {K : PySem.W.Frag} {mg : Str → Option Value} {base : Heap} {Γ : Ctx} (T : Txt K mg Γ) (G_Tape_table : GMt P w K mg base Γ.Tape (PySem.Str.ofString "table") 1 ["self"] (sp_Tape_table Γ)) (G_law_step : GFn P w K mg base (PySem.Str.ofString "_law_step") 2 ["rows", "marks", "spot"] (sp_law_step Γ)) (G_law_same : GFn P w K mg base (PySem.Str.ofString "_law_same") 9 ["actual", "expected"] (sp_law_same Γ)) (G_Tape_stopped : GMt P w K mg base Γ.Tape (PySem.Str.ofString "stopped") 4 ["self", "configuration"] (sp_Tape_stopped Γ)) (G_Tape_run : GMt P w K mg base Γ.Tape (PySem.Str.ofString "run") 4 ["self", "configuration", "steps"] (sp_Tape_run Γ)) (G_law_run : GFn P w K mg base (PySem.Str.ofString "_law_run") 3 ["rows", "marks", "spot", "steps"] (sp_law_run Γ)) (G_Tape_row : GMt P w K mg base Γ.Tape (PySem.Str.ofString "row") 3 ["self", "state", "mark"] (sp_Tape_row Γ)) (G_Tape_step : GMt P w K mg base Γ.Tape (PySem.Str.ofString "step") 3 ["self", "configuration"] (sp_Tape_step Γ)) {f : Addr} {cdv : Value} {A : Around} {outer : List Env} {s : Shared} {H : Hp} {E : XK}
    (hr : Room 9 (A.deeper (envOfC "_law_right" (defScope s_law_right) s.heap.objs.size f cdv))) :
    LSs (cxOf (L2.CX P w) P w K mg base ["machine", "sizes", "rows", "spot", "steps", "table", "k", "after"] "_law_right" (defScope s_law_right) f cdv A outer s H E) (defBody s_law_right) (t_law_right Γ) :=
  (LSs.cons (LS.ite (PL.LT.not (PL.LT.val (PL.LE.call G_law_same (hr.mono (by decide)) rfl (LA.cons (PL.LE.tup (LA.cons (PL.LE.fld T.cTape.cl T.cTape.n_marks (PL.LE.var 0)) (LA.cons (PL.LE.fld T.cTape.cl T.cTape.n_states (PL.LE.var 0)) LA.nil))) (LA.cons (PL.LE.var 1) LA.nil))))) (LSs.one (LS.retD [5] PL.LE.bl)) LSs.nil) (LSs.cons (LS.set 5 sc_law_right.nd (PL.LE.meth0 G_Tape_table T.cTape.cl (hr.mono (by decide)) (PL.LE.var 0))) (LSs.cons (LS.ite (LW.lt (LW.or (PL.LT.not (PL.LT.val (PL.LE.isi (Ts := "list") rfl T.b_isinstance rfl T.b_list (by decide +kernel) (PL.LE.var 5)))) (LW.or1 (PL.LT.not (PL.LT.val (PL.LE.call G_law_same (hr.mono (by decide)) rfl (LA.cons (PL.LE.tupOf rfl T.b_tuple (LA.cons (PL.LE.var 5) LA.nil)) (LA.cons (PL.LE.tupOf rfl T.b_tuple (LA.cons (PL.LE.var 2) LA.nil)) LA.nil)))))))) (LSs.one (LS.retD [5] PL.LE.bl)) LSs.nil) (LSs.cons (LS.expr (PL.LE.app (PL.LE.var 5) PL.LE.non)) (LSs.cons (LS.for (passes_of rfl) rfl (LI.rng1 rfl T.b_range (PL.LE.len rfl T.b_len (LA.cons (PL.LE.var 2) LA.nil))) (LG.name 6 sc_law_right.nd) (LSs.one (LS.ite (PL.LT.not (PL.LT.val (PL.LE.call G_law_same (hr.mono (by decide)) rfl (LA.cons (PL.LE.meth G_Tape_row T.cTape.cl (hr.mono (by decide)) (PL.LE.var 0) (LA.cons (PL.LE.div (PL.LE.var 6) (PL.LE.ix (PL.LE.var 1) PL.LE.int)) (LA.cons (PL.LE.mod (PL.LE.var 6) (PL.LE.ix (PL.LE.var 1) PL.LE.int)) LA.nil))) (LA.cons (PL.LE.ix (PL.LE.var 2) (PL.LE.var 6)) LA.nil))))) (LSs.one (LS.retD [5] PL.LE.bl)) LSs.nil))) (LSs.cons (LS.set 7 sc_law_right.nd (PL.LE.call G_law_step (hr.mono (by decide)) rfl (LA.cons (PL.LE.var 2) (LA.cons (PL.LE.ix (PL.LE.var 1) PL.LE.int) (LA.cons (PL.LE.var 3) LA.nil))))) (LSs.cons (LS.ite (LW.lt (LW.or (PL.LT.not (PL.LT.val (PL.LE.call G_law_same (hr.mono (by decide)) rfl (LA.cons (PL.LE.meth G_Tape_step T.cTape.cl (hr.mono (by decide)) (PL.LE.var 0) (LA.cons (PL.LE.var 3) LA.nil)) (LA.cons (PL.LE.var 7) LA.nil))))) (LW.or1 (PL.LT.not (PL.LT.val (PL.LE.isi (Ts := "bool") rfl T.b_isinstance rfl T.b_bool (by decide +kernel) (PL.LE.meth G_Tape_stopped T.cTape.cl (hr.mono (by decide)) (PL.LE.var 0) (LA.cons (PL.LE.var 3) LA.nil)))))))) (LSs.one (LS.retD [5] PL.LE.bl)) LSs.nil) (LSs.cons (LS.ite (PL.LT.ne hr.units (PL.LE.meth G_Tape_stopped T.cTape.cl (hr.mono (by decide)) (PL.LE.var 0) (LA.cons (PL.LE.var 3) LA.nil)) (PL.LE.isN (PL.LE.var 7))) (LSs.one (LS.retD [5] PL.LE.bl)) LSs.nil) (LSs.cons (LS.ite (PL.LT.not (PL.LT.val (PL.LE.call G_law_same (hr.mono (by decide)) rfl (LA.cons (PL.LE.meth G_Tape_run T.cTape.cl (hr.mono (by decide)) (PL.LE.var 0) (LA.cons (PL.LE.var 3) (LA.cons (PL.LE.var 4) LA.nil))) (LA.cons (PL.LE.call G_law_run (hr.mono (by decide)) rfl (LA.cons (PL.LE.var 2) (LA.cons (PL.LE.ix (PL.LE.var 1) PL.LE.int) (LA.cons (PL.LE.var 3) (LA.cons (PL.LE.var 4) LA.nil))))) LA.nil))))) (LSs.one (LS.retD [5] PL.LE.bl)) LSs.nil) (LSs.one (LS.retD [5] PL.LE.bl)))))))))))
def b_law_1 (Γ : Ctx) := ((pSeq (pSet 5 (pCall (sp_law_sizes Γ) (pCons (pVar 1) (pCons (pVar 2) pNil)))) (pSeq (pSet 6 (pCall (sp_law_machine Γ) (pCons (pVar 1) (pCons (pVar 2) (pCons (pBin oIx (pVar 5) (pC (.int 0))) (pCons (pBin oIx (pVar 5) (pC (.int 1))) pNil)))))) (pSeq (pSet 7 (pCallB (on1 kListM) (pCons (pVar 6) pNil))) (pSeq (pSet 8 (pMake Γ.Tape (sp_Tape_init Γ) (pCons (pBin oIx (pVar 5) (pC (.int 0))) (pCons (pBin oIx (pVar 5) (pC (.int 1))) (pCons (pVar 7) pNil))))) (pSeq (pDrop (pApp (pVar 7) (pC .non))) (pSeq (pSet 9 (pCall (sp_law_configuration Γ) (pCons (pVar 1) (pCons (pVar 2) (pCons (pBin oIx (pVar 5) (pC (.int 0))) (pCons (pBin oIx (pVar 5) (pC (.int 1))) (pCons (pC (.int 6)) pNil))))))) (pSeq (pSet 10 (pBin oMod (pCall (sp_law_take Γ) (pCons (pVar 1) (pCons (pVar 2) pNil))) (pC (.int 61)))) (pDrop (pApp (pVar 3) (pTup (pCons (pVar 8) (pCons (pVar 5) (pCons (pVar 6) (pCons (pVar 9) (pCons (pVar 10) pNil))))))))))))))) : PTS)
def b_law_2 (Γ : Ctx) := ((pIfS (pNot (pTest (pCall (sp_law_right Γ) (pCons (pBin oIx (pBin oIx (pVar 3) (pVar 4)) (pC (.int 0))) (pCons (pBin oIx (pBin oIx (pVar 3) (pVar 4)) (pC (.int 1))) (pCons (pBin oIx (pBin oIx (pVar 3) (pVar 4)) (pC (.int 2))) (pCons (pBin oIx (pBin oIx (pVar 3) (pVar 4)) (pC (.int 3))) (pCons (pBin oIx (pBin oIx (pVar 3) (pVar 4)) (pC (.int 4))) pNil)))))))) (pRet (pC (.bl false))) pNext) : PTS)
def t_law (Γ : Ctx) : PTS := (pSeq (pSet 1 (pCall (sp_law_numbers Γ) (pCons (pVar 0) (pCons (pC (.int 110)) pNil)))) (pSeq (pSet 2 (pLstM (pCons (pC (.int 0)) pNil))) (pSeq (pSet 3 (pLstM pNil)) (pSeq (pFor (piR1 (pC (.int 2))) (gpName 4) (b_law_1 Γ)) (pSeq (pFor (piT (pTup (pCons (pC (.int 0)) (pCons (pC (.int 1)) (pCons (pC (.int 0)) pNil))))) (gpName 4) (b_law_2 Γ)) (pSeq (pSet 11 (pBin oAdd (pCall (sp_law_side Γ) (pCons (pVar 1) (pCons (pVar 2) (pCons (pBin oIx (pBin oIx (pBin oIx (pVar 3) (pC (.int 0))) (pC (.int 1))) (pC (.int 0))) (pCons (pC (.int 7)) pNil))))) (pBin oMulA (pTup (pCons (pC (.int 0)) pNil)) (pBin oMod (pCall (sp_law_take Γ) (pCons (pVar 1) (pCons (pVar 2) pNil))) (pC (.int 3)))))) (pSeq (pSet 12 (pTup (pCons (pC (.int 0)) (pCons (pTup pNil) (pCons (pC (.int 0)) (pCons (pTup pNil) pNil)))))) (pSeq (pIfS (pTest (pBin oGt (pCallB (on1 kLen) (pCons (pVar 11) pNil)) (pC (.int 0)))) (pSet 12 (pTup (pCons (pC (.int 0)) (pCons (pTup pNil) (pCons (pBin oIx (pVar 11) (pC (.int 0))) (pCons (pCall (sp_law_trim Γ) (pCons (pSl (pVar 11) (pPart (pC (.int 1))) pNoPart) pNil)) pNil)))))) pNext) (pRet (pAndV (pCall (sp_law_same Γ) (pCons (pMeth Γ.Tape (PySem.Str.ofString "begin") (sp_Tape_begin Γ) (pBin oIx (pBin oIx (pVar 3) (pC (.int 0))) (pC (.int 0))) (pCons (pVar 11) pNil)) (pCons (pVar 12) pNil))) (pCall (sp_law_same Γ) (pCons (pCall (sp_trimmed Γ) (pCons (pVar 11) pNil)) (pCons (pCall (sp_law_trim Γ) (pCons (pVar 11) pNil)) pNil)))))))))))))
theorem d_law {P : Program} {w : World} {K : PySem.W.Frag} {mg : Str → Option Value} {base : Heap} {Γ : Ctx} (T : Txt K mg Γ) (G_law_numbers : GFn P w K mg base (PySem.Str.ofString "_law_numbers") 1 ["script", "many"] (sp_law_numbers Γ)) (G_law_sizes : GFn P w K mg base (PySem.Str.ofString "_law_sizes") 2 ["numbers", "place"] (sp_law_sizes Γ)) (G_law_machine : GFn P w K mg base (PySem.Str.ofString "_law_machine") 2 ["numbers", "place", "marks", "states"] (sp_law_machine Γ)) (G_Tape_init : GMk P w K mg base (PySem.Str.ofString "Tape") Γ.Tape 4 ["self", "marks", "states", "rows"] (sp_Tape_init Γ)) (G_law_configuration : GFn P w K mg base (PySem.Str.ofString "_law_configuration") 3 ["numbers", "place", "marks", "states", "most"] (sp_law_configuration Γ)) (G_law_side : GFn P w K mg base (PySem.Str.ofString "_law_side") 2 ["numbers", "place", "marks", "most"] (sp_law_side Γ)) (G_law_same : GFn P w K mg base (PySem.Str.ofString "_law_same") 9 ["actual", "expected"] (sp_law_same Γ)) (G_law_take : GFn P w K mg base (PySem.Str.ofString "_law_take") 1 ["numbers", "place"] (sp_law_take Γ)) (G_law_right : GFn P w K mg base (PySem.Str.ofString "_law_right") 10 ["machine", "sizes", "rows", "spot", "steps"] (sp_law_right Γ)) (G_law_trim : GFn P w K mg base (PySem.Str.ofString "_law_trim") 1 ["marks"] (sp_law_trim Γ)) (G_Tape_begin : GMt P w K mg base Γ.Tape (PySem.Str.ofString "begin") 4 ["self", "word"] (sp_Tape_begin Γ)) (G_trimmed : GFn P w K mg base (PySem.Str.ofString "trimmed") 1 ["marks"] (sp_trimmed Γ)) {f : Addr} {cdv : Value} {A : Around} {outer : List Env} {s : Shared} {H : Hp} {E : XK}
    (hr : Room 10 (A.deeper (envOfC "law" (defScope s_law) s.heap.objs.size f cdv))) :
    LSs (cxOf (L2.CX P w) P w K mg base ["script", "numbers", "place", "made", "k", "sizes", "rows", "given", "machine", "spot", "steps", "word", "first"] "law" (defScope s_law) f cdv A outer s H E) (defBody s_law) (t_law Γ) :=
  (LSs.cons (LS.set 1 sc_law.nd (PL.LE.call G_law_numbers (hr.mono (by decide)) rfl (LA.cons (PL.LE.var 0) (LA.cons PL.LE.int LA.nil)))) (LSs.cons (LS.set 2 sc_law.nd (PL.LE.lstM (LA.cons PL.LE.int LA.nil))) (LSs.cons (LS.set 3 sc_law.nd (PL.LE.lstM LA.nil)) (LSs.cons (LS.for (passes_of rfl) rfl (LI.rng1 rfl T.b_range PL.LE.int) (LG.name 4 sc_law.nd) (LSs.cons (LS.set 5 sc_law.nd (PL.LE.call G_law_sizes (hr.mono (by decide)) rfl (LA.cons (PL.LE.var 1) (LA.cons (PL.LE.var 2) LA.nil)))) (LSs.cons (LS.set 6 sc_law.nd (PL.LE.call G_law_machine (hr.mono (by decide)) rfl (LA.cons (PL.LE.var 1) (LA.cons (PL.LE.var 2) (LA.cons (PL.LE.ix (PL.LE.var 5) PL.LE.int) (LA.cons (PL.LE.ix (PL.LE.var 5) PL.LE.int) LA.nil)))))) (LSs.cons (LS.set 7 sc_law.nd (PL.LE.listM rfl T.b_list (LA.cons (PL.LE.var 6) LA.nil))) (LSs.cons (LS.set 8 sc_law.nd (PL.LE.make G_Tape_init (hr.mono (by decide)) rfl (LA.cons (PL.LE.ix (PL.LE.var 5) PL.LE.int) (LA.cons (PL.LE.ix (PL.LE.var 5) PL.LE.int) (LA.cons (PL.LE.var 7) LA.nil))))) (LSs.cons (LS.expr (PL.LE.app (PL.LE.var 7) PL.LE.non)) (LSs.cons (LS.set 9 sc_law.nd (PL.LE.call G_law_configuration (hr.mono (by decide)) rfl (LA.cons (PL.LE.var 1) (LA.cons (PL.LE.var 2) (LA.cons (PL.LE.ix (PL.LE.var 5) PL.LE.int) (LA.cons (PL.LE.ix (PL.LE.var 5) PL.LE.int) (LA.cons PL.LE.int LA.nil))))))) (LSs.cons (LS.set 10 sc_law.nd (PL.LE.mod (PL.LE.call G_law_take (hr.mono (by decide)) rfl (LA.cons (PL.LE.var 1) (LA.cons (PL.LE.var 2) LA.nil))) PL.LE.int)) (LSs.one (LS.expr (PL.LE.app (PL.LE.var 3) (PL.LE.tup (LA.cons (PL.LE.var 8) (LA.cons (PL.LE.var 5) (LA.cons (PL.LE.var 6) (LA.cons (PL.LE.var 9) (LA.cons (PL.LE.var 10) LA.nil))))))))))))))))) (LSs.cons (LS.for (passes_of rfl) rfl (LI.tup (PL.LE.tup (LA.cons PL.LE.int (LA.cons PL.LE.int (LA.cons PL.LE.int LA.nil))))) (LG.name 4 sc_law.nd) (LSs.one (LS.ite (PL.LT.not (PL.LT.val (PL.LE.call G_law_right (hr.mono (by decide)) rfl (LA.cons (PL.LE.ix (PL.LE.ix (PL.LE.var 3) (PL.LE.var 4)) PL.LE.int) (LA.cons (PL.LE.ix (PL.LE.ix (PL.LE.var 3) (PL.LE.var 4)) PL.LE.int) (LA.cons (PL.LE.ix (PL.LE.ix (PL.LE.var 3) (PL.LE.var 4)) PL.LE.int) (LA.cons (PL.LE.ix (PL.LE.ix (PL.LE.var 3) (PL.LE.var 4)) PL.LE.int) (LA.cons (PL.LE.ix (PL.LE.ix (PL.LE.var 3) (PL.LE.var 4)) PL.LE.int) LA.nil)))))))) (LSs.one (LS.ret PL.LE.bl)) LSs.nil))) (LSs.cons (LS.set 11 sc_law.nd (PL.LE.add (PL.LE.call G_law_side (hr.mono (by decide)) rfl (LA.cons (PL.LE.var 1) (LA.cons (PL.LE.var 2) (LA.cons (PL.LE.ix (PL.LE.ix (PL.LE.ix (PL.LE.var 3) PL.LE.int) PL.LE.int) PL.LE.int) (LA.cons PL.LE.int LA.nil))))) (PL.LE.mulA (PL.LE.tup (LA.cons PL.LE.int LA.nil)) (PL.LE.mod (PL.LE.call G_law_take (hr.mono (by decide)) rfl (LA.cons (PL.LE.var 1) (LA.cons (PL.LE.var 2) LA.nil))) PL.LE.int)))) (LSs.cons (LS.set 12 sc_law.nd (PL.LE.tup (LA.cons PL.LE.int (LA.cons (PL.LE.tup LA.nil) (LA.cons PL.LE.int (LA.cons (PL.LE.tup LA.nil) LA.nil)))))) (LSs.cons (LS.ite (PL.LT.gt (PL.LE.len rfl T.b_len (LA.cons (PL.LE.var 11) LA.nil)) PL.LE.int) (LSs.one (LS.set 12 sc_law.nd (PL.LE.tup (LA.cons PL.LE.int (LA.cons (PL.LE.tup LA.nil) (LA.cons (PL.LE.ix (PL.LE.var 11) PL.LE.int) (LA.cons (PL.LE.call G_law_trim (hr.mono (by decide)) rfl (LA.cons (PL.LE.slice (PL.LE.var 11) (LO.some PL.LE.int) LO.none) LA.nil)) LA.nil))))))) LSs.nil) (LSs.one (LS.ret (PL.LE.and (PL.LE.call G_law_same (hr.mono (by decide)) rfl (LA.cons (PL.LE.meth G_Tape_begin T.cTape.cl (hr.mono (by decide)) (PL.LE.ix (PL.LE.ix (PL.LE.var 3) PL.LE.int) PL.LE.int) (LA.cons (PL.LE.var 11) LA.nil)) (LA.cons (PL.LE.var 12) LA.nil))) (PL.LE.one (PL.LE.call G_law_same (hr.mono (by decide)) rfl (LA.cons (PL.LE.call G_trimmed (hr.mono (by decide)) rfl (LA.cons (PL.LE.var 11) LA.nil)) (LA.cons (PL.LE.call G_law_trim (hr.mono (by decide)) rfl (LA.cons (PL.LE.var 11) LA.nil)) LA.nil)))))))))))))))
end My
set_option Elab.async false
set_option linter.all false
set_option maxRecDepth 100000
namespace My
open PySem PL TM
local macro_rules | `(tactic| walk_at "pl") => `(tactic| try simp only [pSeq, pNext, pSet, pRet, pRetN, pIfS, pVar, pC, pTest, pBin, pAnd, pOr, pNot, pAndV, pOrV, pNotV, pIsN, pNotN, pTIsN, pTNotN, pCons, pNil, pTup, pLst, pLstM, pCall, pCallB, pDrop, pAsg, gpName, kB_bl, need_some, need_none, pIf, pSl, pNoPart,
  piL, piT, pFor, pLc, pAug, pFldS, pForM, pMeth, pFld, fldOf_obj, objOf_obj, pApp, gpSub, pRetF, pRetFD, pRetD, dropSlots, pTupRev, pBreak, pCont,
  pstart, List.map_cons, List.map_nil, List.cons_append, List.nil_append, List.length_cons, List.length_nil, List.replicate, List.getElem?_cons_zero, List.getElem?_cons_succ, List.set_cons_zero, List.set_cons_succ, Nat.reduceSub, Nat.reduceAdd, Nat.zero_add, Nat.add_zero, Nat.sub_self,
  Bool.false_eq_true, if_false, if_true, ite_true, ite_false, reduceIte, Bool.not_true, Bool.not_false, Bool.true_eq_false, decide_eq_true_eq, Bool.not_eq_true', List.length_append, true_and, and_true, List.length_map,
  isi_int, isi_bl, isi_str, isi_non, isi_tup, isi_lst, kit_ib, kit_ii, kit_it, kit_il, kit_is, kit_bb, kit_bi, kit_bt, kit_bl, kit_bs, kit_tb, kit_ti, kit_tt, kit_tl, kit_ts, kit_lb, kit_li, kit_lt, kit_ll, kit_ls, kit_sb, kit_si, kit_st, kit_sl, kit_ss, kit_nb, kit_ni, kit_nt, kit_nl, kit_ns,
  PL.ix_tup, PL.ix_lst, ix_scr, at_0, at_1, at_2, at_3, at_4, at_5, len_tup, len_lst, len_scr, eq_int', ne_int', eq_bl', ne_bl', eq_str', ne_str', sl_tup, sl_lst, sl_scr, cutA_map, cutA_from1,
  r_add_int, r_add_str, r_add_tup, r_add_lst, r_mulA_int, r_mulA_tup, r_I0, r_I, r_neg, r_neg_int, r_chain, r_ch1, r_ch2, r_abs, r_int, r_min2, r_max2, r_list_lst, r_list_tup, r_list_scr, r_tup_lst, r_tup_tup, r_listM_lst, r_listM_tup, r_on1, r_on2, r_gtup, r_gcons, r_gnil,
  r_non_non, r_non_int, r_non_tup, r_non_lst, r_non_str, r_non_bl, r_non_ptr, r_non_obj, r_part, r_part_int, r_R1, r_R1_int, r_R2, r_R2_int, r_lstF, r_lstF_scr, r_tupF,
  eq_tI, eq_tI_nil, sl_tI_tail, len_tI, tup_tI, add_tI, lk_marks, lk_states, lk_rows, lk_row, lk_table, lk_begin, lk_step, lk_stopped, lk_run])
theorem tyOf_ptr_list {M : Mem} {a : Addr} {n : String} (ht : tyOf M (.ptr a) = some n) : n = "list" := by
  have h' : (match M a with | some (.lst _) => some "list" | _ => none) = some n := ht
  cases hm : M a with
  | none => rw [hm] at h'; cases h'
  | some m =>
    rw [hm] at h'
    cases m with
    | lst xs => cases h'; rfl
    | obj C fs => cases h'
theorem k_is_whole (Γ : Ctx) : Keeps (t_is_whole Γ) 1 1 (sp_is_whole Γ) := by
  rintro xs M Q E hl ⟨v, rfl, hk, q⟩
  unfold t_is_whole
  walk_at "pl"
  cases v with
  | int i => walk_at "pl"; exact q
  | bl b => walk_at "pl"; exact q
  | str b => walk_at "pl"; exact q
  | non => walk_at "pl"; exact q
  | tup b => walk_at "pl"; exact q
  | lst b => walk_at "pl"; exact q
  | ptr a =>
    cases ht : tyOf M (.ptr a) with
    | none => exact absurd ht hk
    | some n =>
      have hn := tyOf_ptr_list ht
      subst hn
      simp only [isi_of ht]
      walk_at "pl"
      exact q
  | ty n => exact absurd rfl hk
  | scr xs => exact absurd rfl hk
  | obj C fs => exact absurd rfl hk
theorem k_is_number (Γ : Ctx) : Keeps (t_is_number Γ) 3 3 (sp_is_number Γ) := by
  rintro xs M Q E hl ⟨v, lo, hi, rfl, hk, q⟩
  unfold t_is_number
  walk_at "pl"
  refine ⟨_, rfl, hk, ?_⟩
  cases v with
  | int i =>
    walk_at "pl"
    by_cases h : lo ≤ i
    · rw [if_pos h]
      have e : isNum lo hi (.int i) = decide (i ≤ hi) := by unfold isNum; simp [h]
      rw [e] at q
      exact q
    · rw [if_neg h]
      have e : isNum lo hi (.int i) = false := by unfold isNum; simp [h]
      rw [e] at q
      exact q
  | bl b => exact q
  | str b => exact q
  | non => exact q
  | tup b => exact q
  | lst b => exact q
  | ptr a => exact q
  | ty n => exact absurd rfl hk
  | scr xs => exact absurd rfl hk
  | obj C fs => exact absurd rfl hk
theorem c_is_number {Γ : Ctx} {i lo hi : Int} {M : Mem} {Q : PQ} {E : PXK} : sp_is_number Γ [.int i, .int lo, .int hi] M Q E = Q (.bl (decide (lo ≤ i) && decide (i ≤ hi))) M := by
  refine propext ⟨?_, fun q => ⟨_, _, _, rfl, (fun h => nomatch h), q⟩⟩
  rintro ⟨v, lo', hi', e, _, q⟩
  cases e
  exact q
theorem k_nearest (Γ : Ctx) : Keeps (t_nearest Γ) 1 1 (sp_nearest Γ) := by
  rintro xs M Q E hl ⟨l, rfl, q⟩
  unfold t_nearest
  walk_at "pl"
  by_cases h : l = []
  · subst h
    exact q
  · rw [if_neg h, ix_tI0 h]
    exact q
theorem k_pushed (Γ : Ctx) : Keeps (t_pushed Γ) 2 2 (sp_pushed Γ) := by
  rintro xs M Q E hl ⟨w, l, rfl, hz, q⟩
  unfold t_pushed
  walk_at "pl"
  have e : oAdd (.tup [.int w]) (tI l) M Q = (1 + l.length ≤ sizeLine ∧ Q (tI ([w] ++ l)) M) := add_tI (l := [w])
  have h1 : 1 + l.length ≤ sizeLine := line_lt (by omega)
  unfold push at q
  by_cases hw : w = 0
  · by_cases hn : l = []
    · rw [if_pos hw, if_pos hn]
      rw [if_pos ⟨hw, hn⟩] at q
      exact q
    · rw [if_pos hw, if_neg hn]
      rw [if_neg (fun z => hn z.2)] at q
      exact e.mpr ⟨h1, q⟩
  · rw [if_neg hw]
    rw [if_neg (fun z => hw z.1)] at q
    exact e.mpr ⟨h1, q⟩
theorem k_moved (Γ : Ctx) : Keeps (t_moved Γ) 2 5 (sp_moved Γ) := by
  rintro xs M Q E hl ⟨l, a, r, mv, rfl, hm, hl1, hl2, q⟩
  unfold t_moved
  walk_at "pl"
  rcases hm with e | e
  · subst e
    rw [if_pos rfl]
    rw [if_pos rfl] at q
    exact ⟨a, l, rfl, hl1, r, rfl, q⟩
  · subst e
    rw [if_neg (by decide), if_pos rfl]
    rw [if_neg (by decide)] at q
    exact ⟨l, rfl, a, r, rfl, hl2, q⟩
theorem k_laid (Γ : Ctx) : Keeps (t_laid Γ) 1 1 (sp_laid Γ) := by
  rintro xs M Q E hl ⟨ms, rfl, q⟩
  unfold t_laid
  walk_at "pl"
  by_cases h : ms = []
  · subst h
    exact q
  · rw [if_neg (by cases ms with | nil => exact absurd rfl h | cons a r => simp; omega), ix_tI0 h]
    exact ⟨_, rfl, q⟩
theorem k_trimmed (Γ : Ctx) : Keeps (t_trimmed Γ) 1 2 (sp_trimmed Γ) := by
  rintro xs M Q E hl ⟨ms, rfl, q⟩
  unfold t_trimmed
  walk_at "pl"
  refine while_in (fun m σ M' => M' = M ∧ σ = [some (tI ms), some (.int m)] ∧ m ≤ ms.length ∧ trimL (ms.take m) = trimL ms) (m := ms.length) ⟨rfl, rfl, Nat.le_refl _, by rw [List.take_length]⟩ ?_
  rintro m σ M' K ⟨rfl, rfl, hm, ht⟩ hK
  unfold c_trimmed_1 b_trimmed_1
  walk_at "pl"
  have fin : ∀ k : Nat, ms.take k = trimL ms → Q (tI (ms.take k)) M' := fun k e => by rw [e]; exact q
  cases m with
  | zero =>
    rw [if_neg (by decide), sl_tI_to (by decide)]
    exact fin 0 (by rw [← ht]; rfl)
  | succ k =>
    have hk : k < ms.length := by omega
    have hg : ms[k]? = some ms[k] := List.getElem?_eq_getElem hk
    have e1 : ms.take (k + 1) = ms.take k ++ [ms[k]] := by rw [List.take_succ, hg]; rfl
    rw [if_pos (by omega), ix_tI (x := ms[k]) (by omega) (by rw [← hg]; congr 1; omega)]
    walk_at "pl"
    by_cases hz : ms[k] = 0
    · rw [if_pos hz]
      refine hK k _ _ (Nat.lt_succ_self k) ⟨rfl, ?_, by omega, ?_⟩
      · have e2 : ((k + 1 : Nat) : Int) - 1 = (k : Nat) := by omega
        rw [e2]
      · rw [← ht, e1, hz, trimL_snoc0]
    · rw [if_neg hz, sl_tI_to (by omega)]
      refine fin (k + 1) ?_
      rw [← ht, e1, trimL_snoc _ hz]
theorem k_is_row (Γ : Ctx) : Keeps (t_is_row Γ) 3 6 (sp_is_row Γ) := by
  rintro xs M Q E hl ⟨r, m, s, rfl, hr, q⟩
  unfold t_is_row
  walk_at "pl"
  cases r with
  | none =>
    unfold rowP
    walk_at "pl"
    exact q
  | some r =>
    obtain ⟨w, mv, t⟩ := r
    obtain ⟨hw, hm, ht⟩ := hr
    unfold rowP
    walk_at "pl"
    simp only [c_is_number]
    walk_at "pl"
    rw [if_neg (by decide), if_neg (by rcases hm with e | e <;> subst e <;> decide), if_neg (by rcases hm with e | e <;> subst e <;> decide)]
    have e1 : (decide (0 ≤ w) && decide (w ≤ m - 1)) = true := by simp; omega
    have e2 : (decide (0 ≤ t) && decide (t ≤ s - 1)) = true := by simp; omega
    rw [if_pos e1, e2]
    exact q
theorem c_is_number' {Γ : Ctx} {v : PV} {lo hi : Int} {M : Mem} {Q : PQ} {E : PXK} (h : known M v) (q : Q (.bl (isNum lo hi v)) M) : sp_is_number Γ [v, .int lo, .int hi] M Q E := ⟨_, _, _, rfl, h, q⟩
theorem k_are_numbers (Γ : Ctx) : Keeps (t_are_numbers Γ) 3 4 (sp_are_numbers Γ) := by
  rintro xs M Q E hl ⟨v, lo, hi, rfl, hk, hys, q⟩
  unfold t_are_numbers
  walk_at "pl"
  cases v with
  | tup ys =>
    walk_at "pl"
    obtain ⟨hz, hys⟩ := hys ys rfl
    refine ⟨hz, lc_map (fun y => .bl (isNum lo hi y)) (fun y hy R hR => ?_) ?_⟩
    · walk_at "pl"
      exact c_is_number' (hys y hy) hR
    · have e : ys.map (fun y => PV.bl (isNum lo hi y)) = (ys.map (isNum lo hi)).map PV.bl := by rw [List.map_map]; rfl
      unfold kAll
      rw [e]
      show need (blsOf _) _
      rw [blsOf_map]
      show Q (.bl ((ys.map (isNum lo hi)).all id)) M
      rw [List.all_map]
      exact q
  | int i => walk_at "pl"; exact q
  | bl b => walk_at "pl"; exact q
  | str b => walk_at "pl"; exact q
  | non => walk_at "pl"; exact q
  | lst b => walk_at "pl"; exact q
  | ptr a =>
    cases ht : tyOf M (.ptr a) with
    | none => exact absurd ht hk
    | some n =>
      have hn := tyOf_ptr_list ht
      subst hn
      simp only [isi_of ht]
      walk_at "pl"
      exact q
  | ty n => exact absurd rfl hk
  | scr xs => exact absurd rfl hk
  | obj C fs => exact absurd rfl hk
theorem c_are_ints {Γ : Ctx} {ms : List Int} {lo hi : Int} {M : Mem} {Q : PQ} {E : PXK} (hz : ms.length < 1000000) (h : ∀ x ∈ ms, lo ≤ x ∧ x ≤ hi) (q : Q (.bl true) M) : sp_are_numbers Γ [tI ms, .int lo, .int hi] M Q E := by
  refine ⟨_, _, _, rfl, (fun h => nomatch h), fun ys e => ?_, ?_⟩
  · cases e
    refine ⟨line_lt (by rw [List.length_map]; omega), fun y hy => ?_⟩
    obtain ⟨x, _, rfl⟩ := List.mem_map.mp hy
    exact fun h => nomatch h
  · have e : areNum lo hi (tI ms) = true := by
      show (ms.map PV.int).all (isNum lo hi) = true
      rw [List.all_map, List.all_eq_true]
      intro x hx
      show (decide (lo ≤ x) && decide (x ≤ hi)) = true
      have := h x hx
      simp; omega
    rw [e]
    exact q
theorem k_Tape_init (Γ : Ctx) : Keeps (t_Tape_init Γ) 4 5 (sp_Tape_init Γ) := by
  rintro xs M Q E hl ⟨p, m, s, rv, rows, rfl, hM, hl1, ht, hp, q⟩
  obtain ⟨m2, m8, s1, s40, hlen, hok⟩ := hM
  unfold t_Tape_init
  walk_at "pl"
  simp only [c_is_number, isi_of ht, len_of hl1, hl1]
  walk_at "pl"
  have e1 : (decide (2 ≤ m) && decide (m ≤ 8)) = true := by simp; omega
  have e2 : (decide (1 ≤ s) && decide (s ≤ 40)) = true := by simp; omega
  rw [e1, e2, if_neg (by decide), if_neg (by decide)]
  refine ⟨.inl ⟨by omega, by omega⟩, ?_⟩
  rw [if_neg (by rw [hlen]; simp), hl1, need_some]
  refine for_inG (fun i σ M' => M' = M ∧ ∃ r, σ = [some (.ptr p), some (.int m), some (.int s), some rv, r]) ⟨rfl, _, rfl⟩ ?_ ?_
  · rintro i x σ M' K hx ⟨rfl, r, rfl⟩ hK
    rw [List.getElem?_map] at hx
    cases hr : rows[i]? with
    | none => rw [hr] at hx; cases hx
    | some r0 =>
      rw [hr] at hx
      cases hx
      unfold b_Tape_init_1
      walk_at "pl"
      refine ⟨r0, m, s, rfl, hok r0 (List.mem_of_getElem? hr), ?_⟩
      walk_at "pl"
      exact hK _ _ hl1 ⟨rfl, _, rfl⟩
  · rintro σ M' ⟨rfl, r, rfl⟩
    walk_at "pl"
    have h1 := lstOf_put (p := p) (o := .obj Γ.Tape (putP (Str.ofString "marks") (.int m) [])) hl1 (fun ys z => by rw [hp] at z; cases z)
    have h2 := lstOf_put (p := p) (o := .obj Γ.Tape (putP (Str.ofString "states") (.int s) (putP (Str.ofString "marks") (.int m) []))) h1 (fun ys z => by rw [put_same] at z; cases z)
    rw [putF_ptr hp]
    refine ⟨(by show 0 < 1000; decide), ?_⟩
    walk_at "pl"
    rw [putF_ptr put_same]
    refine ⟨(by show 1 < 1000; decide), ?_⟩
    walk_at "pl"
    rw [list_of h2, putF_ptr put_same]
    refine ⟨(by show 2 < 1000; decide), ?_⟩
    rw [put_put, put_put]
    exact q
theorem k_Tape_row (Γ : Ctx) : Keeps (t_Tape_row Γ) 3 3 (sp_Tape_row Γ) := by
  rintro xs M Q E hl ⟨m, s, rows, a, b, rfl, hM, ha, hb, q⟩
  unfold t_Tape_row tapeP
  walk_at "pl"
  simp only [c_is_number]
  walk_at "pl"
  have e1 : (decide (0 ≤ a) && decide (a ≤ s - 1)) = true := by simp; omega
  have e2 : (decide (0 ≤ b) && decide (b ≤ m - 1)) = true := by simp; omega
  rw [e1, e2, if_neg (by decide), if_neg (by decide), at_rows hM ha.1 ha.2 hb.1 hb.2, need_some]
  exact ⟨cmul_ok hM ha.1 ha.2, q⟩
theorem k_Tape_table (Γ : Ctx) : Keeps (t_Tape_table Γ) 1 1 (sp_Tape_table Γ) := by
  rintro xs M Q E hl ⟨m, s, rows, rfl, q⟩
  unfold t_Tape_table tapeP
  walk_at "pl"
  exact q
theorem k_Tape_begin (Γ : Ctx) : Keeps (t_Tape_begin Γ) 2 2 (sp_Tape_begin Γ) := by
  rintro xs M Q E hl ⟨m, s, rows, ms, rfl, hz, hms, q⟩
  unfold t_Tape_begin tapeP
  walk_at "pl"
  refine c_are_ints hz (fun x hx => ?_) ?_
  · have := hms x hx
    omega
  walk_at "pl"
  refine ⟨ms, rfl, ?_⟩
  walk_at "pl"
  exact ⟨by decide, q⟩
theorem k_Tape_step (Γ : Ctx) : Keeps (t_Tape_step Γ) 2 10 (sp_Tape_step Γ) := by
  rintro xs M Q E hl ⟨m, s, rows, c, rfl, hM, hc, hl1, hl2, q⟩
  obtain ⟨cq, cl, ca, cr⟩ := c
  have hc2 := hc
  obtain ⟨q0, qs, a0, am, hcl, hcr⟩ := hc2
  obtain ⟨_, _, hr, _⟩ := rowAt_mem hM q0 qs a0 am
  unfold t_Tape_step tapeP cfP
  walk_at "pl"
  refine ⟨cmul_ok hM q0 qs, ?_⟩
  rw [at_rows hM q0 qs a0 am, need_some]
  unfold stepM at q
  dsimp only at q hr
  cases e : rowAt rows m cq ca with
  | none =>
    rw [e] at q
    unfold rowP
    walk_at "pl"
    exact q
  | some r =>
    obtain ⟨w, mv, t⟩ := r
    rw [e] at q hr
    obtain ⟨hw, hm, ht⟩ := hr
    unfold rowP
    walk_at "pl"
    refine ⟨cl, w, cr, mv, rfl, hm, hl1, hl2, ?_⟩
    by_cases h1 : mv = 1
    · rw [if_pos h1]
      dsimp only at q
      rw [if_pos h1] at q
      walk_at "pl"
      exact ⟨by decide, q⟩
    · rw [if_neg h1]
      dsimp only at q
      rw [if_neg h1] at q
      walk_at "pl"
      exact ⟨by decide, q⟩
theorem k_Tape_stopped (Γ : Ctx) : Keeps (t_Tape_stopped Γ) 2 2 (sp_Tape_stopped Γ) := by
  rintro xs M Q E hl ⟨m, s, rows, c, rfl, hM, hc, hl1, hl2, q⟩
  unfold t_Tape_stopped tapeP
  walk_at "pl"
  refine ⟨m, s, rows, c, rfl, hM, hc, hl1, hl2, ?_⟩
  cases e : stepM rows m c with
  | none => rw [e] at q; exact q
  | some d => rw [e] at q; exact q
theorem runM_len {m s : Int} {rows : List TRow} (c d : Cf) (h : stepM rows m c = some d) : d.l.length ≤ c.l.length + 1 ∧ d.r.length ≤ c.r.length + 1 := by
  unfold stepM at h
  split at h
  · cases h
  · rename_i w mv t _
    split at h
    · cases h
      constructor
      · show (push w c.l).length ≤ _
        unfold push
        split <;> simp
      · show c.r.tail.length ≤ _
        simp; omega
    · cases h
      constructor
      · show c.l.tail.length ≤ _
        simp; omega
      · show (push w c.r).length ≤ _
        unfold push
        split <;> simp
theorem k_Tape_run (Γ : Ctx) : Keeps (t_Tape_run Γ) 3 5 (sp_Tape_run Γ) := by
  rintro xs M Q E hl ⟨m, s, rows, c, n, rfl, hM, hc, hl1, hl2, q⟩
  unfold t_Tape_run tapeP
  walk_at "pl"
  -- behind t turns: the rest of the run gives what the whole gives
  refine while_in (fun j σ M' => M' = M ∧ ∃ (d : Cf) (t : Nat) (x : Option PV), σ = [some (.obj Γ.Tape (tapeF m s rows)), some (cfP d), some (.int n), some (.int t), x] ∧ t + j = n ∧ CfOk m s d ∧ d.l.length + j < 900000 ∧ d.r.length + j < 900000 ∧
    (runM rows m n c).1 = (runM rows m j d).1 ∧ (runM rows m n c).2 = t + (runM rows m j d).2) (m := n) ⟨rfl, c, 0, _, rfl, by omega, hc, hl1, hl2, rfl, by omega⟩ ?_
  rintro j σ M' K ⟨rfl, d, t, x, rfl, hj, hd, hd1, hd2, r1, r2⟩ hK
  unfold c_Tape_run_1 b_Tape_run_1
  walk_at "pl"
  cases j with
  | zero =>
    rw [if_neg (by omega)]
    have e1 : (runM rows m 0 d) = (d, 0) := rfl
    rw [e1] at r1 r2
    rw [r1, r2] at q
    exact q
  | succ j =>
    rw [if_pos (by omega)]
    refine ⟨m, s, rows, d, rfl, hM, hd, by omega, by omega, ?_⟩
    have er : runM rows m (j + 1) d = match stepM rows m d with | none => (d, 0) | some d' => let (e, k) := runM rows m j d'; (e, k + 1) := rfl
    cases e : stepM rows m d with
    | none =>
      rw [e] at er
      rw [er] at r1 r2
      rw [r1, r2] at q
      unfold optP
      walk_at "pl"
      exact q
    | some d' =>
      rw [e] at er
      rw [er] at r1 r2
      have ln := runM_len (m := m) (s := s) d d' e
      unfold optP
      have hn : isNon (cfP d') = false := rfl
      unfold cfP at hn ⊢
      walk_at "pl"
      refine hK j _ _ (Nat.lt_succ_self j) ⟨rfl, d', t + 1, some (cfP d'), ?_, by omega, stepM_ok hM hd e, by omega, by omega, r1, by rw [r2]; show t + ((runM rows m j d').2 + 1) = _; omega⟩
      have e1 : ((t : Nat) : Int) + 1 = ((t + 1 : Nat) : Int) := by omega
      rw [e1]
      rfl
end My
set_option Elab.async false
set_option linter.all false
set_option maxRecDepth 100000
namespace My
open PySem PL TM
theorem ix_lI {ns : List Int} {i : Int} {x : Int} {M : Mem} {Q : PQ} (h : 0 ≤ i) (e : ns[i.toNat]? = some x) : oIx (lI ns) (.int i) M Q = Q (.int x) M := by
  unfold lI
  rw [PL.ix_lst, at_pos _ h, List.getElem?_map, e]
  rfl
theorem len_lI {ns : List Int} {M : Mem} {Q : PQ} : kLen (lI ns) M Q = Q (.int ns.length) M := by
  unfold lI
  rw [PL.len_lst, List.length_map]
local macro_rules | `(tactic| walk_at "pl") => `(tactic| try simp only [pSeq, pNext, pSet, pRet, pRetN, pIfS, pVar, pC, pTest, pBin, pAnd, pOr, pNot, pAndV, pOrV, pNotV, pIsN, pNotN, pTIsN, pTNotN, pCons, pNil, pTup, pLst, pLstM, pCall, pCallB, pDrop, pAsg, gpName, kB_bl, need_some, need_none, pIf, pSl, pNoPart,
  piL, piT, pFor, pLc, pAug, pFldS, pForM, pMeth, pFld, fldOf_obj, objOf_obj, pApp, gpSub, pRetF, pRetFD, pRetD, dropSlots, pTupRev, pBreak, pCont,
  pstart, List.map_cons, List.map_nil, List.cons_append, List.nil_append, List.length_cons, List.length_nil, List.replicate, List.getElem?_cons_zero, List.getElem?_cons_succ, List.set_cons_zero, List.set_cons_succ, Nat.reduceSub, Nat.reduceAdd, Nat.zero_add, Nat.add_zero, Nat.sub_self,
  Bool.false_eq_true, if_false, if_true, ite_true, ite_false, reduceIte, Bool.not_true, Bool.not_false, Bool.true_eq_false, decide_eq_true_eq, Bool.not_eq_true', List.length_append, true_and, and_true, List.length_map,
  isi_int, isi_bl, isi_str, isi_non, isi_tup, isi_lst, kit_ib, kit_ii, kit_it, kit_il, kit_is, kit_bb, kit_bi, kit_bt, kit_bl, kit_bs, kit_tb, kit_ti, kit_tt, kit_tl, kit_ts, kit_lb, kit_li, kit_lt, kit_ll, kit_ls, kit_sb, kit_si, kit_st, kit_sl, kit_ss, kit_nb, kit_ni, kit_nt, kit_nl, kit_ns,
  PL.ix_tup, PL.ix_lst, ix_scr, at_0, at_1, at_2, at_3, at_4, at_5, len_tup, len_lst, len_scr, eq_int', ne_int', eq_bl', ne_bl', eq_str', ne_str', sl_tup, sl_lst, sl_scr, cutA_map, cutA_from1,
  r_add_int, r_add_str, r_add_tup, r_add_lst, r_mulA_int, r_mulA_tup, r_I0, r_I, r_neg, r_neg_int, r_chain, r_ch1, r_ch2, r_abs, r_int, r_min2, r_max2, r_list_lst, r_list_tup, r_list_scr, r_tup_lst, r_tup_tup, r_listM_lst, r_listM_tup, r_on1, r_on2, r_gtup, r_gcons, r_gnil,
  r_non_non, r_non_int, r_non_tup, r_non_lst, r_non_str, r_non_bl, r_non_ptr, r_non_obj, r_part, r_part_int, r_R1, r_R1_int, r_R2, r_R2_int, r_lstF, r_lstF_scr, r_tupF, cdiv_eq, Int.reduceLT, Int.reduceLE, Int.reduceNeg, Int.reduceAdd, Int.reduceSub, Int.reduceMul, Int.reduceEq, Int.reducePow, Nat.reducePow,
  eq_tI, eq_tI_nil, len_lI, sl_tI_tail, len_tI, tup_tI, add_tI, lk_marks, lk_states, lk_rows, lk_row, lk_table, lk_begin, lk_step, lk_stopped, lk_run])
theorem k_law_take (Γ : Ctx) : Keeps (t_law_take Γ) 2 2 (sp_law_take Γ) := by
  rintro xs M Q E hl ⟨ns, p, k, rfl, hns, ⟨hp, hk⟩, q⟩
  unfold t_law_take
  walk_at "pl"
  rw [ix_ptr hp]
  walk_at "pl"
  by_cases h : k < ns.length
  · have hg : ns[k.toNat]? = some ns[k.toNat] := List.getElem?_eq_getElem (by omega)
    rw [if_pos h, ix_ptr hp]
    walk_at "pl"
    rw [set_ptr hp (by decide) (by show (0 : Int) < 1; decide), ix_ptr put_same]
    walk_at "pl"
    have e1 : k + 1 - 1 = k := by omega
    show oIx (lI ns) (.int (k + 1 - 1)) _ Q
    rw [e1, ix_lI hk hg]
    exact q _ _ (hns.r _ (List.getElem_mem _)) (by omega)
  · rw [if_neg h]
    have := q 0 k ⟨by decide, by decide⟩ hk
    rw [put_self hp] at this
    exact this
theorem k_law_sizes (Γ : Ctx) : Keeps (t_law_sizes Γ) 2 4 (sp_law_sizes Γ) := by
  rintro xs M Q E hl ⟨ns, p, k, rfl, hns, hp, q⟩
  unfold t_law_sizes
  walk_at "pl"
  refine ⟨ns, p, k, rfl, hns, hp, fun a k1 ha hk1 => ?_⟩
  walk_at "pl"
  refine ⟨ns, p, k1, rfl, hns, ⟨put_same, hk1⟩, fun b k2 hb hk2 => ?_⟩
  walk_at "pl"
  rw [put_put]
  by_cases h : a / 3 % 12 = 11
  · rw [if_pos h]
    have hb3 : b % 3 = 0 ∨ b % 3 = 1 ∨ b % 3 = 2 := by omega
    rcases hb3 with e | e | e
    · rw [e]
      walk_at "pl"
      exact q _ _ _ ⟨by omega, by omega⟩ ⟨by decide, by decide⟩ hk2
    · rw [e]
      walk_at "pl"
      exact q _ _ _ ⟨by omega, by omega⟩ ⟨by omega, by omega⟩ hk2
    · rw [e]
      walk_at "pl"
      exact q _ _ _ ⟨by omega, by omega⟩ ⟨by omega, by omega⟩ hk2
  · rw [if_neg h]
    exact q _ _ _ ⟨by omega, by omega⟩ ⟨by omega, by omega⟩ hk2
theorem k_law_machine (Γ : Ctx) : Keeps (t_law_machine Γ) 4 9 (sp_law_machine Γ) := by
  rintro xs M Q E hl ⟨ns, p, k, m, s, rfl, hns, hp, hm, hs, q⟩
  unfold t_law_machine
  walk_at "pl"
  intro z hz
  have np : p ≠ z := fun e => by rw [← e, hp.1] at hz; cases hz
  refine ⟨ns, p, k, rfl, hns, ⟨by rw [put_ne np]; exact hp.1, hp.2⟩, fun a k1 ha hk1 => ?_⟩
  walk_at "pl"
  have ms0 : 0 ≤ m * s := Int.mul_nonneg (by omega) (by omega)
  have ms1 : m * s ≤ 320 := by
    have e1 : m * s ≤ 8 * s := Int.mul_le_mul_of_nonneg_right hm.2 (by omega)
    omega
  refine ⟨.inl ⟨by omega, by omega⟩, ⟨by omega, by omega⟩, ?_⟩
  rw [put_swap (Ne.symm np)]
  have nz : ∀ o, (M.put p o) z = none := fun o => by rw [put_ne (Ne.symm np)]; exact hz
  refine for_rng (fun i σ M' => ∃ rows k' x6 x7 x8, σ = [some (lI ns), some (.ptr p), some (.int m), some (.int s), some (.ptr z), some (.int (a % 4)), x6, x7, x8] ∧ rows.length = i ∧ (∀ r ∈ rows, RowOk m s r) ∧ 0 ≤ k' ∧
    M' = (M.put p (.lst [.int k'])).put z (.lst (rows.map rowP))) ⟨[], k1, _, _, _, rfl, rfl, (fun _ h => nomatch h), hk1, rfl⟩ ?_ ?_
  · rintro i σ M' K hi ⟨rows, k', x6, x7, x8, rfl, hlen, hok, hk', rfl⟩ hK
    unfold b_law_machine_1
    walk_at "pl"
    rw [if_pos (by omega)]
    refine ⟨ns, p, k', rfl, hns, ⟨by rw [put_ne np, put_same], hk'⟩, fun n k2 hn hk2 => ?_⟩
    rw [put_mid np]
    walk_at "pl"
    have hd0 : (0 : Int) ≤ (0 + (i : Int)) / 24 := by omega
    generalize hN : n + 17 * ((0 + (i : Int)) / 24) = N
    have hN0 : 0 ≤ N := by omega
    have hr : rows.length ≤ 1000 := by omega
    have fin : ∀ (r : TRow) (x7 x8 : Option PV), RowOk m s r → (lstOf ((M.put p (.lst [.int k2])).put z (.lst (rows.map rowP))) (.ptr z) ≠ none ∧
        kApp (.ptr z) (rowP r) ((M.put p (.lst [.int k2])).put z (.lst (rows.map rowP))) (fun _ M1 => K [some (lI ns), some (.ptr p), some (.int m), some (.int s), some (.ptr z), some (.int (a % 4)), some (.int (0 + i)), x7, x8] M1)) := fun r x7 x8 h => by
      refine ⟨by rw [lstOf_ptr put_same]; exact Option.some_ne_none _, ?_⟩
      rw [app_ptr put_same (line_lt' (by rw [List.length_map]; omega)), put_over]
      refine hK _ _ ⟨rows ++ [r], k2, _, _, _, rfl, by rw [List.length_append, hlen]; rfl, fun r0 h0 => ?_, hk2, by rw [List.map_append]; rfl⟩
      rcases List.mem_append.mp h0 with h0 | h0
      · exact hok r0 h0
      · rw [List.mem_singleton.mp h0]; exact h
    have w0 : 0 ≤ N % m ∧ N % m < m := ⟨Int.emod_nonneg _ (by omega), Int.emod_lt_of_pos _ (by omega)⟩
    have t0 : 0 ≤ N / 8 % s ∧ N / 8 % s < s := ⟨Int.emod_nonneg _ (by omega), Int.emod_lt_of_pos _ (by omega)⟩
    refine ⟨.inl ⟨by decide, by decide⟩, by omega, ?_⟩
    have h2 : N / 4 % 2 = 0 ∨ N / 4 % 2 = 1 := by omega
    rcases h2 with e | e
    · rw [e]
      walk_at "pl"
      refine ⟨by omega, ?_⟩
      repeat' first
        | exact fin none _ _ trivial
        | exact fin (some (N % m, -1, N / 8 % s)) _ _ ⟨w0, .inr rfl, t0⟩
        | exact fin (some (N % m, 1, N / 8 % s)) _ _ ⟨w0, .inl rfl, t0⟩
        | refine ⟨by omega, by omega, ?_⟩
        | split
    · rw [e]
      walk_at "pl"
      refine ⟨by omega, ?_⟩
      repeat' first
        | exact fin none _ _ trivial
        | exact fin (some (N % m, -1, N / 8 % s)) _ _ ⟨w0, .inr rfl, t0⟩
        | exact fin (some (N % m, 1, N / 8 % s)) _ _ ⟨w0, .inl rfl, t0⟩
        | refine ⟨by omega, by omega, ?_⟩
        | split
  · rintro σ M' ⟨rows, k', x6, x7, x8, rfl, hlen, hok, hk', rfl⟩
    walk_at "pl"
    rw [fz_ptr put_same, put_drop (nz _)]
    refine q rows k' ⟨hm.1, hm.2, hs.1, hs.2, ?_, hok⟩ hk'
    rw [hlen]
    omega
theorem k_law_configuration (Γ : Ctx) : Keeps (t_law_configuration Γ) 5 7 (sp_law_configuration Γ) := by
  rintro xs M Q E hl ⟨ns, p, k, m, s, n, rfl, hns, hp, hm, hs, hn, q⟩
  unfold t_law_configuration
  walk_at "pl"
  refine ⟨ns, p, k, m, n, rfl, hns, hp, hm, hn, fun l k1 hl1 hl2 hk1 => ?_⟩
  walk_at "pl"
  refine ⟨ns, p, k1, m, n, rfl, hns, ⟨put_same, hk1⟩, hm, hn, fun r k2 hr1 hr2 hk2 => ?_⟩
  walk_at "pl"
  rw [put_put]
  refine ⟨ns, p, k2, rfl, hns, ⟨put_same, hk2⟩, fun a k3 ha hk3 => ?_⟩
  walk_at "pl"
  rw [put_put]
  refine ⟨by omega, ?_⟩
  refine ⟨ns, p, k3, rfl, hns, ⟨put_same, hk3⟩, fun b k4 hb hk4 => ?_⟩
  walk_at "pl"
  rw [put_put]
  refine ⟨by omega, ?_⟩
  exact q ⟨a % s, l, b % m, r⟩ k4 ⟨Int.emod_nonneg _ (by omega), Int.emod_lt_of_pos _ (by omega), Int.emod_nonneg _ (by omega), Int.emod_lt_of_pos _ (by omega), hl1, hr1⟩ hl2 hr2 hk4
theorem k_law_side (Γ : Ctx) : Keeps (t_law_side Γ) 4 6 (sp_law_side Γ) := by
  rintro xs M Q E hl ⟨ns, p, k, m, n, rfl, hns, hp, hm, hn, q⟩
  unfold t_law_side
  walk_at "pl"
  refine ⟨ns, p, k, rfl, hns, hp, fun a k1 ha hk1 => ?_⟩
  walk_at "pl"
  have a0 : 0 ≤ a % (n + 1) := Int.emod_nonneg _ (by omega)
  have a1 : a % (n + 1) < n + 1 := Int.emod_lt_of_pos _ (by omega)
  refine ⟨by omega, ⟨by omega, by omega⟩, ?_⟩
  refine for_rng (fun i σ M' => ∃ (ms : List Int) (k' : Int) (x5 : Option PV), σ = [some (lI ns), some (.ptr p), some (.int m), some (.int n), some (tI ms), x5] ∧ ms.length = i ∧ (∀ x ∈ ms, 0 ≤ x ∧ x < m) ∧ 0 ≤ k' ∧
    M' = M.put p (.lst [.int k'])) ⟨[], k1, _, rfl, rfl, (fun _ h => nomatch h), hk1, rfl⟩ ?_ ?_
  · rintro i σ M' K hi ⟨ms, k', x5, rfl, hlen, hok, hk', rfl⟩ hK
    unfold b_law_side_1
    walk_at "pl"
    refine ⟨ns, p, k', rfl, hns, ⟨put_same, hk'⟩, fun b k2 hb hk2 => ?_⟩
    walk_at "pl"
    rw [put_put]
    refine ⟨by omega, ?_⟩
    have e : ∀ R : PQ, oAdd (tI ms) (.tup [.int (b % m)]) (M.put p (.lst [.int k2])) R = (ms.length + 1 ≤ sizeLine ∧ R (tI (ms ++ [b % m])) (M.put p (.lst [.int k2]))) := fun R => add_tI (r := [b % m])
    rw [e]
    refine ⟨line_lt (by omega), hK _ _ ⟨ms ++ [b % m], k2, _, rfl, by rw [List.length_append, hlen]; rfl, fun x hx => ?_, hk2, rfl⟩⟩
    rcases List.mem_append.mp hx with hx | hx
    · exact hok x hx
    · rw [List.mem_singleton.mp hx]
      exact ⟨Int.emod_nonneg _ (by omega), Int.emod_lt_of_pos _ (by omega)⟩
  · rintro σ M' ⟨ms, k', x5, rfl, hlen, hok, hk', rfl⟩
    walk_at "pl"
    refine ⟨ms, rfl, fun x hx => (hok x hx).1, by omega, ?_⟩
    refine q (trimL ms) k' (SideOk.trim hok) ?_ hk'
    have := trimL_len ms
    omega
end My
set_option Elab.async false
set_option linter.all false
set_option maxRecDepth 100000
namespace My
open PySem PL TM
section
variable {M : Mem} {Q : PQ}
theorem tupF_tI {l : List Int} : tupF (tI l) = some (l.map PV.int) := rfl
theorem tI_rev {l : List Int} : PV.tup (List.map PV.int l).reverse = tI l.reverse := by unfold tI; rw [List.map_reverse]
theorem addR_tI {l : List Int} {w : Int} : oAdd (tI l) (.tup [.int w]) M Q = (l.length + 1 ≤ sizeLine ∧ Q (tI (l ++ [w])) M) := add_tI (r := [w])
theorem addL_tI {l : List Int} {w : Int} : oAdd (.tup [.int w]) (tI l) M Q = (1 + l.length ≤ sizeLine ∧ Q (tI (w :: l)) M) := add_tI (l := [w])
end
local macro_rules | `(tactic| walk_at "pl") => `(tactic| try simp only [pSeq, pNext, pSet, pRet, pRetN, pIfS, pVar, pC, pTest, pBin, pAnd, pOr, pNot, pAndV, pOrV, pNotV, pIsN, pNotN, pTIsN, pTNotN, pCons, pNil, pTup, pLst, pLstM, pCall, pCallB, pDrop, pAsg, gpName, kB_bl, need_some, need_none, pIf, pSl, pNoPart,
  piL, piT, pFor, pLc, pAug, pFldS, pForM, pMeth, pFld, fldOf_obj, objOf_obj, pApp, gpSub, pRetF, pRetFD, pRetD, dropSlots, pTupRev, pBreak, pCont,
  pstart, List.map_cons, List.map_nil, List.cons_append, List.nil_append, List.length_cons, List.length_nil, List.replicate, List.getElem?_cons_zero, List.getElem?_cons_succ, List.set_cons_zero, List.set_cons_succ, Nat.reduceSub, Nat.reduceAdd, Nat.zero_add, Nat.add_zero, Nat.sub_self,
  Bool.false_eq_true, if_false, if_true, ite_true, ite_false, reduceIte, Bool.not_true, Bool.not_false, Bool.true_eq_false, decide_eq_true_eq, Bool.not_eq_true', List.length_append, true_and, and_true, List.length_map,
  isi_int, isi_bl, isi_str, isi_non, isi_tup, isi_lst, kit_ib, kit_ii, kit_it, kit_il, kit_is, kit_bb, kit_bi, kit_bt, kit_bl, kit_bs, kit_tb, kit_ti, kit_tt, kit_tl, kit_ts, kit_lb, kit_li, kit_lt, kit_ll, kit_ls, kit_sb, kit_si, kit_st, kit_sl, kit_ss, kit_nb, kit_ni, kit_nt, kit_nl, kit_ns,
  PL.ix_tup, PL.ix_lst, ix_scr, at_0, at_1, at_2, at_3, at_4, at_5, len_tup, len_lst, len_scr, eq_int', ne_int', eq_bl', ne_bl', eq_str', ne_str', sl_tup, sl_lst, sl_scr, cutA_map, cutA_from1,
  r_add_int, r_add_str, r_add_tup, r_add_lst, r_mulA_int, r_mulA_tup, r_I0, r_I, r_neg, r_neg_int, r_chain, r_ch1, r_ch2, r_abs, r_int, r_min2, r_max2, r_list_lst, r_list_tup, r_list_scr, r_tup_lst, r_tup_tup, r_listM_lst, r_listM_tup, r_on1, r_on2, r_gtup, r_gcons, r_gnil,
  r_non_non, r_non_int, r_non_tup, r_non_lst, r_non_str, r_non_bl, r_non_ptr, r_non_obj, r_part, r_part_int, r_R1, r_R1_int, r_R2, r_R2_int, r_lstF, r_lstF_scr, r_tupF, cdiv_eq, Int.reduceLT, Int.reduceLE, Int.reduceNeg, Int.reduceAdd, Int.reduceSub, Int.reduceMul, Int.reduceEq, Int.reducePow, Nat.reducePow,
  eq_tI, eq_tI_nil, len_lI, tupF_tI, tI_rev, addR_tI, addL_tI, sl_tI_tail, len_tI, tup_tI, add_tI, lk_marks, lk_states, lk_rows, lk_row, lk_table, lk_begin, lk_step, lk_stopped, lk_run])
theorem k_law_trim (Γ : Ctx) : Keeps (t_law_trim Γ) 1 3 (sp_law_trim Γ) := by
  rintro xs M Q E hl ⟨ms, rfl, h0, hz, q⟩
  unfold t_law_trim
  walk_at "pl"
  have hpos : ∀ i : Nat, (0 : Int) ≤ i := fun i => by omega
  refine ⟨⟨by omega, by omega⟩, by rw [rngP_length]; exact line_lt (by omega), ?_⟩
  refine lc_pure (fun x => match x with | .int i => (ms.drop i.toNat).any (fun x => decide (0 < x)) | _ => false) id _ _ (fun x hx R hR => ?_) (fun x hx _ R hR => ?_) ?_
  · obtain ⟨i, hi, rfl⟩ := List.mem_map.mp hx
    walk_at "pl"
    rw [sl_tI_from (by omega)]
    have e : ∀ R2 : PQ, oAdd (.tup [.int 0]) (tI (ms.drop ((0 : Int) + (i : Nat)).toNat)) M R2 = (1 + (ms.drop ((0 : Int) + (i : Nat)).toNat).length ≤ sizeLine ∧ R2 (tI (0 :: ms.drop ((0 : Int) + (i : Nat)).toNat)) M) := fun R2 => add_tI (l := [0])
    rw [e]
    refine ⟨line_lt (by rw [List.length_drop]; omega), ?_⟩
    walk_at "pl"
    rw [maxT_tI]
    intro mx hm1 hm2
    walk_at "pl"
    have e2 : decide (0 < mx) = (ms.drop ((0 : Int) + (i : Nat)).toNat).any (fun x => decide (0 < x)) := by
      cases hb : (ms.drop ((0 : Int) + (i : Nat)).toNat).any (fun x => decide (0 < x)) with
      | true =>
        obtain ⟨y, hy, hy2⟩ := List.any_eq_true.mp hb
        have := hm2 y (List.mem_cons_of_mem _ hy)
        have := of_decide_eq_true hy2
        exact decide_eq_true (by omega)
      | false =>
        refine decide_eq_false (fun z => ?_)
        rcases List.mem_cons.mp hm1 with e | e
        · omega
        · have := List.any_eq_false.mp hb mx e
          exact this (decide_eq_true z)
    rw [e2]
    exact hR
  · obtain ⟨i, hi, rfl⟩ := List.mem_map.mp hx
    walk_at "pl"
    exact hR
  · walk_at "pl"
    have e : ((rngP 0 ms.length).filter (fun x => match x with | .int i => (ms.drop i.toNat).any (fun x => decide (0 < x)) | _ => false)).length = (trimL ms).length := by
      rw [← cntL_eq _ ms rfl h0]
      unfold rngP cntL
      rw [List.filter_map, List.length_map]
      congr 1
      apply List.filter_congr
      intro i _
      show (ms.drop ((0 : Int) + (i : Nat)).toNat).any _ = _
      have : ((0 : Int) + (i : Nat)).toNat = i := by omega
      rw [this]
    have e3 : ((ms.length : Nat) : Int).toNat = ms.length := by omega
    rw [e3, e, sl_tI_to (by omega)]
    have e4 : (((trimL ms).length : Nat) : Int).toNat = (trimL ms).length := by omega
    rw [e4, take_trimL]
    exact q
theorem c_trim {Γ : Ctx} {ms : List Int} {M : Mem} {Q : PQ} {E : PXK} (h : ∀ x ∈ ms, 0 ≤ x) (hz : ms.length < 1000000) (q : Q (tI (trimL ms)) M) : sp_law_trim Γ [tI ms] M Q E := ⟨ms, rfl, h, hz, q⟩
theorem k_law_step (Γ : Ctx) : Keeps (t_law_step Γ) 3 6 (sp_law_step Γ) := by
  rintro xs M Q E hl ⟨m, s, rows, c, rfl, hM, hc, hl1, hl2, q⟩
  obtain ⟨cq, cl, ca, cr⟩ := c
  have hc2 := hc
  obtain ⟨q0, qs, a0, am, hcl, hcr⟩ := hc2
  obtain ⟨_, _, hr, _⟩ := rowAt_mem hM q0 qs a0 am
  unfold t_law_step cfP
  walk_at "pl"
  refine ⟨cmul_ok hM q0 qs, ?_⟩
  rw [at_rows hM q0 qs a0 am, need_some]
  unfold stepM at q
  dsimp only at q hr hl1 hl2 hcl hcr
  cases e : rowAt rows m cq ca with
  | none =>
    rw [e] at q
    unfold rowP
    walk_at "pl"
    exact q
  | some r =>
    obtain ⟨w, mv, t⟩ := r
    rw [e] at q hr
    obtain ⟨hw, hm, ht⟩ := hr
    dsimp only at q
    unfold rowP
    walk_at "pl"
    refine ⟨line_lt (by rw [List.length_reverse, List.length_map]; omega), line_lt (by rw [List.length_append, List.length_reverse, List.length_map, List.length_map]; simp only [List.length_singleton]; omega), ?_⟩
    have e1 : PV.tup ((List.map PV.int cl).reverse ++ [PV.int w] ++ List.map PV.int cr) = tI (cl.reverse ++ w :: cr) := by
      unfold tI
      simp
    rw [e1]
    simp only []
    have hcl0 : ∀ x ∈ cl, 0 ≤ x := fun x hx => (hcl.mm x hx).1
    have hcr0 : ∀ x ∈ cr, 0 ≤ x := fun x hx => (hcr.mm x hx).1
    have hw0 := hw.1
    have rev0 : ∀ l : List Int, (∀ x ∈ l, 0 ≤ x) → ∀ x ∈ l.reverse, 0 ≤ x := fun l h x hx => h x (List.mem_reverse.mp hx)
    rcases hm with rfl | rfl
    · -- right
      rw [if_pos rfl] at q
      rw [if_neg (by omega)]
      walk_at "pl"
      have en : ((cl.length : Nat) : Int) + 1 = ((cl.length + 1 : Nat) : Int) := by omega
      rw [en]
      have tk : ∀ r : List Int, (cl.reverse ++ w :: r).take (cl.length + 1) = cl.reverse ++ [w] := fun r => by
        rw [List.take_append, List.length_reverse, List.take_of_length_le (by rw [List.length_reverse]; omega)]
        simp
      have dr : ∀ r : List Int, (cl.reverse ++ w :: r).drop (cl.length + 1) = r := fun r => by
        rw [List.drop_append, List.length_reverse, List.drop_of_length_le (by rw [List.length_reverse]; omega)]
        simp
      have dr2 : ∀ r : List Int, (cl.reverse ++ w :: r).drop (cl.length + 1 + 1) = r.tail := fun r => by
        rw [← List.drop_drop, dr]
        cases r <;> rfl
      have gt : ∀ (a : Int) (r : List Int), (cl.reverse ++ w :: a :: r)[cl.length + 1]? = some a := fun a r => by
        have := dr (a :: r)
        rw [← List.head?_drop, this]
        rfl
      have hsl : ∀ (R : PQ) (r : List Int) (M : Mem), oSl (tI (cl.reverse ++ w :: r)) none (some ((cl.length + 1 : Nat) : Int)) M R = R (tI (cl.reverse ++ [w])) M := fun R r M => by
        rw [sl_tI_to (by omega), Int.toNat_natCast, tk]
      have hsl2 : ∀ (R : PQ) (r : List Int) (M : Mem), oSl (tI (cl.reverse ++ w :: r)) (some (((cl.length + 1 : Nat) : Int) + 1)) none M R = R (tI r.tail) M := fun R r M => by
        rw [sl_tI_from (by omega), show ((((cl.length + 1 : Nat) : Int) + 1)).toNat = cl.length + 1 + 1 from by omega, dr2]
      have rv : (cl.reverse ++ [w]).reverse = w :: cl := by simp
      have fin : ∀ (R : PQ), R (tI (push w cl)) M → sp_law_trim Γ [tI (w :: cl)] M R E := fun R h => c_trim (fun x hx => by
        rcases List.mem_cons.mp hx with e | e
        · rw [e]; exact hw0
        · exact hcl0 x e) (by simp only [List.length_cons]; omega) (by rw [trim_push hcl]; exact h)
      cases cr with
      | nil =>
        rw [if_pos (by simp only [List.length_reverse, List.length_nil])]
        walk_at "pl"
        refine ⟨line_lt (by simp only [List.length_reverse, List.length_cons, List.length_nil]; omega), ?_⟩
        have e3 : cl.reverse ++ [w] ++ [0] = cl.reverse ++ w :: [0] := by simp
        simp only [List.append_assoc, List.cons_append, List.nil_append]
        rw [hsl]
        walk_at "pl"
        rw [rv]
        refine fin _ ?_
        rw [ix_tI (x := 0) (by omega) (by rw [Int.toNat_natCast]; exact gt 0 []), hsl2]
        exact c_trim (ms := []) (fun x hx => (nomatch hx)) (by decide) q
      | cons a r =>
        rw [if_neg (by simp only [List.length_reverse, List.length_cons]; omega)]
        rw [hsl]
        walk_at "pl"
        rw [rv]
        refine fin _ ?_
        rw [ix_tI (x := a) (by omega) (by rw [Int.toNat_natCast]; exact gt a r), hsl2]
        refine c_trim (fun x hx => hcr0 x (List.mem_cons_of_mem _ hx)) (by simp only [List.length_cons] at hl2; show r.length < _; omega) ?_
        rw [show trimL (a :: r).tail = r from hcr.tail.tr]
        exact q
    · rw [if_neg (by decide)] at q
      have finR : ∀ (R : PQ), R (tI (push w cr)) M → sp_law_trim Γ [tI (w :: cr)] M R E := fun R h => c_trim (fun x hx => by
        rcases List.mem_cons.mp hx with e | e
        · rw [e]; exact hw0
        · exact hcr0 x e) (by simp only [List.length_cons]; omega) (by rw [trim_push hcr]; exact h)
      cases cl with
      | nil =>
        rw [if_pos (by simp only [List.length_nil]; decide)]
        simp only [List.reverse_nil, List.nil_append, List.length_cons, List.length_nil]
        walk_at "pl"
        refine ⟨line_lt (by omega), ?_⟩
        rw [if_neg (by omega), sl_tI_to (by decide)]
        walk_at "pl"
        refine c_trim (ms := []) (fun x hx => (nomatch hx)) (by decide) ?_
        rw [ix_tI (x := 0) (by decide) rfl]
        exact finR _ q
      | cons b l =>
        rw [if_neg (by simp only [List.length_cons]; omega)]
        have en : (((b :: l).length : Nat) : Int) + -1 = ((l.length : Nat) : Int) := by simp only [List.length_cons]; omega
        rw [en]
        walk_at "pl"
        rw [if_neg (by simp only [List.length_reverse, List.length_cons]; omega)]
        have et : (b :: l).reverse ++ w :: cr = l.reverse ++ b :: w :: cr := by simp
        have tk : (l.reverse ++ b :: w :: cr).take l.length = l.reverse := by
          rw [List.take_append, List.length_reverse, List.take_of_length_le (by rw [List.length_reverse]; omega)]
          simp
        have dr : (l.reverse ++ b :: w :: cr).drop l.length = b :: w :: cr := by
          rw [List.drop_append, List.length_reverse, List.drop_of_length_le (by rw [List.length_reverse]; omega)]
          simp
        have gt : (l.reverse ++ b :: w :: cr)[l.length]? = some b := by
          rw [← List.head?_drop, dr]
          rfl
        have dr2 : (l.reverse ++ b :: w :: cr).drop (l.length + 1) = w :: cr := by
          rw [← List.drop_drop, dr]
          rfl
        rw [et, sl_tI_to (by omega), Int.toNat_natCast, tk]
        walk_at "pl"
        rw [List.reverse_reverse]
        have htr : trimL l = l := hcl.tail.tr
        refine c_trim (fun x hx => hcl0 x (List.mem_cons_of_mem _ hx)) (by simp only [List.length_cons] at hl1; omega) ?_
        rw [htr, ix_tI (x := b) (by omega) (by rw [Int.toNat_natCast]; exact gt), sl_tI_from (by omega), show (((l.length : Nat) : Int) + 1).toNat = l.length + 1 from by omega, dr2]
        exact finR _ q
end My
set_option Elab.async false
set_option linter.all false
set_option maxRecDepth 100000
namespace My
open PySem PL TM
local macro_rules | `(tactic| walk_at "pl") => `(tactic| try simp only [pSeq, pNext, pSet, pRet, pRetN, pIfS, pVar, pC, pTest, pBin, pAnd, pOr, pNot, pAndV, pOrV, pNotV, pIsN, pNotN, pTIsN, pTNotN, pCons, pNil, pTup, pLst, pLstM, pCall, pCallB, pDrop, pAsg, gpName, kB_bl, need_some, need_none, pIf, pSl, pNoPart,
  piL, piT, pFor, pLc, pAug, pFldS, pForM, pMeth, pFld, fldOf_obj, objOf_obj, pApp, gpSub, pRetF, pRetFD, pRetD, dropSlots, pTupRev, pBreak, pCont,
  pstart, List.map_cons, List.map_nil, List.cons_append, List.nil_append, List.length_cons, List.length_nil, List.replicate, List.getElem?_cons_zero, List.getElem?_cons_succ, List.set_cons_zero, List.set_cons_succ, Nat.reduceSub, Nat.reduceAdd, Nat.zero_add, Nat.add_zero, Nat.sub_self,
  Bool.false_eq_true, if_false, if_true, ite_true, ite_false, reduceIte, Bool.not_true, Bool.not_false, Bool.true_eq_false, decide_eq_true_eq, Bool.not_eq_true', List.length_append, true_and, and_true, List.length_map,
  isi_int, isi_bl, isi_str, isi_non, isi_tup, isi_lst, kit_ib, kit_ii, kit_it, kit_il, kit_is, kit_bb, kit_bi, kit_bt, kit_bl, kit_bs, kit_tb, kit_ti, kit_tt, kit_tl, kit_ts, kit_lb, kit_li, kit_lt, kit_ll, kit_ls, kit_sb, kit_si, kit_st, kit_sl, kit_ss, kit_nb, kit_ni, kit_nt, kit_nl, kit_ns,
  PL.ix_tup, PL.ix_lst, ix_scr, at_0, at_1, at_2, at_3, at_4, at_5, len_tup, len_lst, len_scr, eq_int', ne_int', eq_bl', ne_bl', eq_str', ne_str', sl_tup, sl_lst, sl_scr, cutA_map, cutA_from1,
  r_add_int, r_add_str, r_add_tup, r_add_lst, r_mulA_int, r_mulA_tup, r_I0, r_I, r_neg, r_neg_int, r_chain, r_ch1, r_ch2, r_abs, r_int, r_min2, r_max2, r_list_lst, r_list_tup, r_list_scr, r_tup_lst, r_tup_tup, r_listM_lst, r_listM_tup, r_on1, r_on2, r_gtup, r_gcons, r_gnil,
  r_non_non, r_non_int, r_non_tup, r_non_lst, r_non_str, r_non_bl, r_non_ptr, r_non_obj, r_part, r_part_int, r_R1, r_R1_int, r_R2, r_R2_int, r_lstF, r_lstF_scr, r_tupF, cdiv_eq, Int.reduceLT, Int.reduceLE, Int.reduceNeg, Int.reduceAdd, Int.reduceSub, Int.reduceMul, Int.reduceEq, Int.reducePow, Nat.reducePow,
  eq_tI, eq_tI_nil, len_lI, tupF_tI, tI_rev, addR_tI, addL_tI, sl_tI_tail, len_tI, tup_tI, add_tI, lk_marks, lk_states, lk_rows, lk_row, lk_table, lk_begin, lk_step, lk_stopped, lk_run])
theorem k_law_run (Γ : Ctx) : Keeps (t_law_run Γ) 4 7 (sp_law_run Γ) := by
  rintro xs M Q E hl ⟨m, s, rows, c, n, rfl, hM, hc, hl1, hl2, q⟩
  unfold t_law_run
  walk_at "pl"
  refine ⟨⟨by omega, by omega⟩, ?_⟩
  rw [show ((n : Int)).toNat = n from Int.toNat_natCast n]
  refine for_rng (fun i σ M' => M' = M ∧ ∃ (d : Cf) (x y : Option PV), σ = [some (.lst (rows.map rowP)), some (.int m), some (cfP d), some (.int n), some (.int (i : Nat)), x, y] ∧ i ≤ n ∧ CfOk m s d ∧ d.l.length + (n - i) < 90000 ∧ d.r.length + (n - i) < 90000 ∧
    (runM rows m n c).1 = (runM rows m (n - i) d).1 ∧ (runM rows m n c).2 = i + (runM rows m (n - i) d).2) ⟨rfl, c, _, _, rfl, by omega, hc, hl1, hl2, rfl, by rw [Nat.sub_zero]; omega⟩ ?_ ?_
  · rintro i σ M' K hi ⟨rfl, d, x, y, rfl, hj, hd, hd1, hd2, r1, r2⟩ hK
    unfold b_law_run_1
    walk_at "pl"
    refine ⟨m, s, rows, d, rfl, hM, hd, by omega, by omega, ?_⟩
    obtain ⟨j, hj2⟩ : ∃ j, n - i = j + 1 := ⟨n - i - 1, by omega⟩
    rw [hj2] at r1 r2 hd1 hd2
    have er : runM rows m (j + 1) d = match stepM rows m d with | none => (d, 0) | some d' => let (e, k) := runM rows m j d'; (e, k + 1) := rfl
    cases e : stepM rows m d with
    | none =>
      rw [e] at er
      rw [er] at r1 r2
      rw [r1, r2] at q
      unfold optP
      walk_at "pl"
      exact q
    | some d' =>
      rw [e] at er
      rw [er] at r1 r2
      have ln := runM_len (m := m) (s := s) d d' e
      unfold optP
      have hn : isNon (cfP d') = false := rfl
      unfold cfP at hn ⊢
      walk_at "pl"
      have ej : n - (i + 1) = j := by omega
      refine hK _ _ ⟨rfl, d', some (.int (0 + (i : Nat))), some (cfP d'), ?_, by omega, stepM_ok hM hd e, by omega, by omega, by rw [ej]; exact r1, by rw [r2, ej]; show i + ((runM rows m j d').2 + 1) = _; omega⟩
      have e1 : ((i : Nat) : Int) + 1 = ((i + 1 : Nat) : Int) := by omega
      rw [e1]
      rfl
  · rintro σ M' ⟨rfl, d, x, y, rfl, hj, hd, hd1, hd2, r1, r2⟩
    rw [Nat.sub_self] at r1 r2
    have e1 : (runM rows m 0 d) = (d, 0) := rfl
    rw [e1] at r1 r2
    rw [r1, r2] at q
    walk_at "pl"
    exact q
theorem k_law_same (Γ : Ctx) (n : Nat) : Keeps (t_law_same Γ (spSame n)) 2 3 (spSame (n + 1)) := by
  rintro xs M Q E hl ⟨x, rfl, h, q⟩
  unfold t_law_same
  cases x with
  | tup xs =>
    obtain ⟨h1, h2⟩ : xs.length ≤ 1000 ∧ ∀ x ∈ xs, okD n x := h
    walk_at "pl"
    rw [if_neg (by decide)]
    refine ⟨⟨by omega, by omega⟩, ?_⟩
    rw [Int.toNat_natCast]
    refine for_rng (fun i σ M' => M' = M ∧ ∃ x, σ = [some (.tup xs), some (.tup xs), x]) ⟨rfl, _, rfl⟩ ?_ ?_
    · rintro i σ M' K hi ⟨rfl, x, rfl⟩ hK
      unfold b_law_same_1
      walk_at "pl"
      have hg : L2.atI xs (0 + (i : Int)) = some xs[i] := by
        rw [at_pos _ (by omega), show (0 + (i : Int)).toNat = i from by omega, List.getElem?_eq_getElem hi]
      rw [hg, need_some, need_some]
      refine ⟨_, rfl, h2 _ (List.getElem_mem hi), ?_⟩
      walk_at "pl"
      exact hK _ _ ⟨rfl, _, rfl⟩
    · rintro σ M' ⟨rfl, x, rfl⟩
      walk_at "pl"
      exact q
  | non =>
    walk_at "pl"
    exact q
  | int i =>
    walk_at "pl"
    rw [decide_eq_true trivial]
    exact q
  | str i =>
    walk_at "pl"
    rw [decide_eq_true trivial]
    exact q
  | _ => exact h.elim
/-! data -/
theorem okD_int (n : Nat) (i : Int) : okD (n + 1) (.int i) := trivial
theorem okD_non (n : Nat) : okD (n + 1) .non := trivial
theorem okD_tup {n : Nat} {xs : List PV} (h1 : xs.length ≤ 1000) (h2 : ∀ x ∈ xs, okD n x) : okD (n + 1) (.tup xs) := ⟨h1, h2⟩
theorem okD_tI {n : Nat} {xs : List Int} (h1 : xs.length ≤ 1000) : okD (n + 2) (tI xs) := ⟨by rw [List.length_map]; exact h1, fun x hx => by obtain ⟨i, _, rfl⟩ := List.mem_map.mp hx; exact trivial⟩
theorem okD_rowP (n : Nat) : ∀ r : TRow, okD (n + 2) (rowP r)
  | none => trivial
  | some (w, mv, t) => ⟨by simp only [List.length_cons, List.length_nil]; omega, fun x hx => by
      simp only [List.mem_cons, List.not_mem_nil, or_false] at hx
      rcases hx with rfl | rfl | rfl <;> exact trivial⟩
theorem okD_cfP {n : Nat} {c : Cf} (h1 : c.l.length ≤ 1000) (h2 : c.r.length ≤ 1000) : okD (n + 3) (cfP c) := ⟨by simp only [List.length_cons, List.length_nil]; omega, fun x hx => by
  simp only [List.mem_cons, List.not_mem_nil, or_false] at hx
  rcases hx with rfl | rfl | rfl | rfl
  · exact trivial
  · exact okD_tI h1
  · exact trivial
  · exact okD_tI h2⟩
theorem okD_optP {n : Nat} {m s : Int} {rows : List TRow} {c : Cf} (h1 : c.l.length < 1000) (h2 : c.r.length < 1000) : okD (n + 3) (optP (stepM rows m c)) := by
  cases e : stepM rows m c with
  | none => exact trivial
  | some d =>
    have := runM_len (m := m) (s := s) c d e
    exact okD_cfP (by omega) (by omega)
theorem runM_ln {m s : Int} {rows : List TRow} : ∀ (n : Nat) (c : Cf), (runM rows m n c).1.l.length ≤ c.l.length + n ∧ (runM rows m n c).1.r.length ≤ c.r.length + n
  | 0, c => ⟨Nat.le_refl _, Nat.le_refl _⟩
  | n + 1, c => by
    have er : runM rows m (n + 1) c = match stepM rows m c with | none => (c, 0) | some d' => let (e, k) := runM rows m n d'; (e, k + 1) := rfl
    cases e : stepM rows m c with
    | none =>
      rw [e] at er
      rw [er]
      exact ⟨Nat.le_add_right _ _, Nat.le_add_right _ _⟩
    | some d =>
      rw [e] at er
      have h1 := runM_len (m := m) (s := s) c d e
      have h2 := runM_ln (m := m) (s := s) (rows := rows) n d
      rw [er]
      exact ⟨by have := h2.1; show (runM rows m n d).1.l.length ≤ _; omega, by have := h2.2; show (runM rows m n d).1.r.length ≤ _; omega⟩
theorem c_same {Γ : Ctx} {x : PV} {M : Mem} {Q : PQ} {E : PXK} (h : okD 8 x) (q : Q (.bl true) M) : sp_law_same Γ [x, x] M Q E := ⟨x, rfl, h, q⟩
theorem k_law_right (Γ : Ctx) : Keeps (t_law_right Γ) 5 8 (sp_law_right Γ) := by
  rintro xs M Q E hl ⟨m, s, rows, c, n, rfl, hM, hc, hl1, hl2, q⟩
  unfold t_law_right tapeP
  walk_at "pl"
  refine c_same (okD_tup (by simp only [List.length_cons, List.length_nil]; omega) (fun x hx => by
    simp only [List.mem_cons, List.not_mem_nil, or_false] at hx
    rcases hx with rfl | rfl <;> exact trivial)) ?_
  walk_at "pl"
  refine ⟨m, s, rows, rfl, fun p hp => ?_⟩
  walk_at "pl"
  rw [isi_of (tyOf_ptr put_same)]
  walk_at "pl"
  rw [tupOf_of (seqOf_ptr put_same)]
  walk_at "pl"
  have hlr : rows.length ≤ 320 := by
    have e1 : m * s ≤ 8 * s := Int.mul_le_mul_of_nonneg_right hM.m8 (by have := hM.s1; omega)
    have := hM.s40
    have := hM.len
    omega
  refine c_same (okD_tup (by rw [List.length_map]; omega) (fun x hx => by
    obtain ⟨r, _, rfl⟩ := List.mem_map.mp hx
    exact okD_rowP _ r)) ?_
  walk_at "pl"
  refine ⟨by rw [lstOf_ptr put_same]; exact Option.some_ne_none _, ?_⟩
  rw [app_ptr put_same (line_lt' (by rw [List.length_map]; omega)), put_put]
  generalize hM1 : M.put p (.lst (rows.map rowP ++ [.non])) = M1
  have hd : M1.drop p = M := by rw [← hM1, put_drop hp]
  walk_at "pl"
  refine ⟨⟨by omega, by omega⟩, ?_⟩
  rw [Int.toNat_natCast]
  refine for_rng (fun i σ M' => M' = M1 ∧ ∃ x, σ = [some (.obj Γ.Tape (tapeF m s rows)), some (.tup [.int m, .int s]), some (.lst (rows.map rowP)), some (cfP c), some (.int n), some (.ptr p), x, none]) ⟨rfl, _, rfl⟩ ?_ ?_
  · rintro i σ M' K hi ⟨rfl, x, rfl⟩ hK
    unfold b_law_right_1
    walk_at "pl"
    have hm0 : 0 < m := by have := hM.m2; omega
    have hi2 : ((i : Nat) : Int) < m * s := by have := hM.len; omega
    have hdm : (i : Int) / m * m + (i : Int) % m = i := by rw [Int.mul_comm]; exact Int.mul_ediv_add_emod _ _
    have h1 : 0 ≤ (i : Int) % m := Int.emod_nonneg _ (by omega)
    have h2 : (i : Int) % m < m := Int.emod_lt_of_pos _ hm0
    have h3 : 0 ≤ (i : Int) / m := Int.ediv_nonneg (by omega) (by omega)
    have h4 : (i : Int) / m < s := Int.ediv_lt_of_lt_mul hm0 (by rw [Int.mul_comm]; exact hi2)
    have e0 : (0 : Int) + i = i := Int.zero_add _
    rw [e0]
    refine ⟨⟨hm0, by have := hM.m8; omega⟩, hm0, m, s, rows, _, _, rfl, hM, ⟨h3, h4⟩, ⟨h1, h2⟩, ?_⟩
    have hg : L2.atI (rows.map rowP) (i : Int) = some (rowP (rowAt rows m ((i : Int) / m) ((i : Int) % m))) := by
      have := at_rows hM h3 h4 h1 h2
      rw [hdm] at this
      exact this
    simp only [hg, need_some]
    refine c_same (okD_rowP _ _) ?_
    walk_at "pl"
    exact hK _ _ ⟨rfl, _, rfl⟩
  · rintro σ M' ⟨rfl, x, rfl⟩
    walk_at "pl"
    refine ⟨m, s, rows, c, rfl, hM, hc, by omega, by omega, ?_⟩
    walk_at "pl"
    refine ⟨m, s, rows, c, rfl, hM, hc, by omega, by omega, ?_⟩
    refine c_same (okD_optP (m := m) (s := s) (by omega) (by omega)) ?_
    walk_at "pl"
    refine ⟨m, s, rows, c, rfl, hM, hc, by omega, by omega, ?_⟩
    walk_at "pl"
    refine ⟨m, s, rows, c, rfl, hM, hc, by omega, by omega, ?_⟩
    have en : (stepM rows m c).isNone = isNon (optP (stepM rows m c)) := by cases stepM rows m c <;> rfl
    rw [en]
    walk_at "pl"
    rw [if_neg (by simp)]
    refine ⟨m, s, rows, c, n, rfl, hM, hc, by omega, by omega, ?_⟩
    refine ⟨m, s, rows, c, n, rfl, hM, hc, by omega, by omega, ?_⟩
    have ln := runM_ln (m := m) (s := s) (rows := rows) n c
    refine c_same (okD_tup (by simp only [List.length_cons, List.length_nil]; omega) (fun x hx => by
      simp only [List.mem_cons, List.not_mem_nil, or_false] at hx
      rcases hx with rfl | rfl
      · exact okD_cfP (by omega) (by omega)
      · exact trivial)) ?_
    walk_at "pl"
    rw [hd]
    exact q
end My
set_option Elab.async false
set_option linter.all false
set_option maxRecDepth 100000
namespace My
open PySem PL TM
local macro_rules | `(tactic| walk_at "pl") => `(tactic| try simp only [pSeq, pNext, pSet, pRet, pRetN, pIfS, pVar, pC, pTest, pBin, pAnd, pOr, pNot, pAndV, pOrV, pNotV, pIsN, pNotN, pTIsN, pTNotN, pCons, pNil, pTup, pLst, pLstM, pCall, pCallB, pDrop, pAsg, gpName, kB_bl, need_some, need_none, pIf, pSl, pNoPart,
  piL, piT, pFor, pLc, pAug, pFldS, pForM, pMeth, pFld, fldOf_obj, objOf_obj, pApp, gpSub, pRetF, pRetFD, pRetD, dropSlots, pTupRev, pBreak, pCont,
  pstart, List.map_cons, List.map_nil, List.cons_append, List.nil_append, List.length_cons, List.length_nil, List.replicate, List.getElem?_cons_zero, List.getElem?_cons_succ, List.set_cons_zero, List.set_cons_succ, Nat.reduceSub, Nat.reduceAdd, Nat.zero_add, Nat.add_zero, Nat.sub_self,
  Bool.false_eq_true, if_false, if_true, ite_true, ite_false, reduceIte, Bool.not_true, Bool.not_false, Bool.true_eq_false, decide_eq_true_eq, Bool.not_eq_true', List.length_append, true_and, and_true, List.length_map,
  isi_int, isi_bl, isi_str, isi_non, isi_tup, isi_lst, kit_ib, kit_ii, kit_it, kit_il, kit_is, kit_bb, kit_bi, kit_bt, kit_bl, kit_bs, kit_tb, kit_ti, kit_tt, kit_tl, kit_ts, kit_lb, kit_li, kit_lt, kit_ll, kit_ls, kit_sb, kit_si, kit_st, kit_sl, kit_ss, kit_nb, kit_ni, kit_nt, kit_nl, kit_ns,
  PL.ix_tup, PL.ix_lst, ix_scr, at_0, at_1, at_2, at_3, at_4, at_5, len_tup, len_lst, len_scr, eq_int', ne_int', eq_bl', ne_bl', eq_str', ne_str', sl_tup, sl_lst, sl_scr, cutA_map, cutA_from1,
  r_add_int, r_add_str, r_add_tup, r_add_lst, r_mulA_int, r_mulA_tup, r_I0, r_I, r_neg, r_neg_int, r_chain, r_ch1, r_ch2, r_abs, r_int, r_min2, r_max2, r_list_lst, r_list_tup, r_list_scr, r_tup_lst, r_tup_tup, r_listM_lst, r_listM_tup, r_on1, r_on2, r_gtup, r_gcons, r_gnil,
  r_non_non, r_non_int, r_non_tup, r_non_lst, r_non_str, r_non_bl, r_non_ptr, r_non_obj, r_part, r_part_int, r_R1, r_R1_int, r_R2, r_R2_int, r_lstF, r_lstF_scr, r_tupF, cdiv_eq, Int.reduceLT, Int.reduceLE, Int.reduceNeg, Int.reduceAdd, Int.reduceSub, Int.reduceMul, Int.reduceEq, Int.reducePow, Nat.reducePow,
  eq_tI, eq_tI_nil, len_lI, tupF_tI, tI_rev, addR_tI, addL_tI, sl_tI_tail, len_tI, tup_tI, add_tI, lk_marks, lk_states, lk_rows, lk_row, lk_table, lk_begin, lk_step, lk_stopped, lk_run])
theorem k_law_numbers (Γ : Ctx) : Keeps (t_law_numbers Γ) 2 7 (sp_law_numbers Γ) := by
  rintro xs M Q E hl ⟨zs, many, rfl, hz, hm, q⟩
  unfold t_law_numbers
  walk_at "pl"
  intro p hp
  walk_at "pl"
  refine ⟨⟨by omega, by omega⟩, ?_⟩
  rw [Int.toNat_natCast]
  refine for_rng (fun i σ M' => ∃ (ns : List Int) (x3 x4 x5 x6 : Option PV), σ = [some (.scr (zs.map .int)), some (.int many), some (.ptr p), x3, x4, x5, x6] ∧ (∀ n ∈ ns, 0 ≤ n ∧ n < 1000) ∧ ns.length ≤ 1000 + 5 * i ∧
    M' = M.put p (.lst (ns.map .int))) ⟨[], _, _, _, _, rfl, fun _ h => (nomatch h), by simp, rfl⟩ ?_ ?_
  · rintro i σ M' K hi ⟨ns, x3, x4, x5, x6, rfl, hns, hln, rfl⟩ hK
    unfold b_law_numbers_1
    walk_at "pl"
    have hg : L2.atI (zs.map PV.int) (0 + (i : Int)) = some (.int zs[i]) := by
      rw [at_pos _ (by omega), show (0 + (i : Int)).toNat = i from by omega, List.getElem?_map, List.getElem?_eq_getElem hi]
      rfl
    rw [hg]
    walk_at "pl"
    have hc0 : 0 ≤ (if zs[i] < 0 then -zs[i] else zs[i]) := by split <;> omega
    generalize (if zs[i] < 0 then -zs[i] else zs[i]) = cell at hc0 ⊢
    have ht : (10 : Int) ^ Int.toNat 18 = 1000000000000000000 := by decide
    refine ⟨⟨by decide, by decide, by decide⟩, ?_⟩
    rw [ht]
    walk_at "pl"
    have app : ∀ (ns : List Int) (n : Int) (R : PQ), (∀ n ∈ ns, 0 ≤ n ∧ n < 1000) → ns.length ≤ 2000 → (0 ≤ n ∧ n < 1000) →
        (∀ ns2 : List Int, (∀ n ∈ ns2, 0 ≤ n ∧ n < 1000) → ns2.length = ns.length + 1 → R .non (M.put p (.lst (ns2.map .int)))) →
        lstOf (M.put p (.lst (ns.map .int))) (.ptr p) ≠ none ∧ kApp (.ptr p) (.int n) (M.put p (.lst (ns.map .int))) R := fun ns n R h1 h2 h3 k => by
      refine ⟨by rw [lstOf_ptr put_same]; exact Option.some_ne_none _, ?_⟩
      rw [app_ptr put_same (line_lt' (by rw [List.length_map]; omega)), put_put]
      have := k (ns ++ [n]) (fun x hx => by
        rcases List.mem_append.mp hx with e | e
        · exact h1 x e
        · rw [List.mem_singleton.mp e]; exact h3) (by rw [List.length_append]; rfl)
      rw [List.map_append] at this
      exact this
    split
    · refine for_rng (fun j σ M' => ∃ (ns : List Int) (cell : Int) (x5 x6 : Option PV), σ = [some (.scr (zs.map .int)), some (.int many), some (.ptr p), some (.int (0 + (i : Nat))), some (.int cell), x5, x6] ∧ 0 ≤ cell ∧ (∀ n ∈ ns, 0 ≤ n ∧ n < 1000) ∧ ns.length ≤ 1000 + 5 * i ∧
        M' = M.put p (.lst (ns.map .int))) ⟨ns, cell, _, _, rfl, hc0, hns, hln, rfl⟩ ?_ ?_
      · rintro j σ M' K2 hj ⟨ns, cell, x5, x6, rfl, hc0, hns, hln, rfl⟩ hK2
        unfold b_law_numbers_2
        walk_at "pl"
        have go : ∀ x5, K2 [some (.scr (zs.map .int)), some (.int many), some (.ptr p), some (.int (0 + (i : Nat))), some (.int cell), x5, x6] (M.put p (.lst (ns.map .int))) := fun x5 => hK2 _ _ ⟨ns, cell, _, _, rfl, hc0, hns, hln, rfl⟩
        split
        · rw [PL.len_ptr put_same]
          walk_at "pl"
          split
          · rename_i h1 h2
            exact app ns _ _ hns (by omega) ⟨by omega, by omega⟩ (fun ns2 h3 h4 => hK2 _ _ ⟨ns2, cell / 1000, _, _, rfl, by omega, h3, by omega, rfl⟩)
          · exact go _
        · exact go _
      · rintro σ M' ⟨ns, cell, x5, x6, rfl, hc0, hns, hln, rfl⟩
        exact hK _ _ ⟨ns, _, _, _, _, rfl, hns, by omega, rfl⟩
    · refine for_rng (fun j σ M' => ∃ (ns : List Int) (x5 x6 : Option PV), σ = [some (.scr (zs.map .int)), some (.int many), some (.ptr p), some (.int (0 + (i : Nat))), some (.int cell), x5, x6] ∧ (∀ n ∈ ns, 0 ≤ n ∧ n < 1000) ∧ ns.length ≤ 1000 + 5 * i + j ∧
        M' = M.put p (.lst (ns.map .int))) ⟨ns, _, _, rfl, hns, hln, rfl⟩ ?_ ?_
      · rintro j σ M' K2 hj ⟨ns, x5, x6, rfl, hns, hln, rfl⟩ hK2
        unfold b_law_numbers_3
        walk_at "pl"
        have hi3 : i < 63 := by omega
        have hj3 : j < 5 := hj
        refine ⟨.inr ⟨by decide, by decide⟩, .inr ⟨by decide, by decide⟩, .inr ⟨by decide, by decide⟩, .inl ⟨by omega, by omega⟩, ?_⟩
        exact app ns _ _ hns (by omega) ⟨by omega, by omega⟩ (fun ns2 h3 h4 => hK2 _ _ ⟨ns2, _, _, rfl, h3, by omega, rfl⟩)
      · rintro σ M' ⟨ns, x5, x6, rfl, hns, hln, rfl⟩
        exact hK _ _ ⟨ns, _, _, _, _, rfl, hns, (by have : Int.toNat 5 = 5 := rfl; omega), rfl⟩
  · rintro σ M' ⟨ns, x3, x4, x5, x6, rfl, hns, hln, rfl⟩
    walk_at "pl"
    rw [sl_ptr put_same, put_drop hp, cutA_map, cutA_to _ hm.1]
    exact q _ ⟨fun n hn => hns n (List.mem_of_mem_take hn), by rw [List.length_take]; omega⟩
/-- what one making leaves -/
def madeP (Γ : Ctx) : Int × Int × List TRow × Cf × Nat → PV := fun (m, s, rows, c, n) => .tup [tapeP Γ m s rows, .tup [.int m, .int s], .lst (rows.map rowP), cfP c, .int (n : Nat)]
def MadeOk : Int × Int × List TRow × Cf × Nat → Prop := fun (m, s, rows, c, n) => Mach m s rows ∧ CfOk m s c ∧ c.l.length ≤ 6 ∧ c.r.length ≤ 6 ∧ n ≤ 60
theorem k_law (Γ : Ctx) : Keeps (t_law Γ) 1 13 (sp_law Γ) := by
  rintro xs M Q E hl ⟨zs, rfl, hz, q⟩
  unfold t_law
  walk_at "pl"
  refine ⟨zs, 110, rfl, hz, ⟨by decide, by decide⟩, fun ns hns => ?_⟩
  walk_at "pl"
  intro p hp r hr
  walk_at "pl"
  have pr : p ≠ r := fun e => by rw [← e, put_same] at hr; cases hr
  refine for_rng (fun i σ M' => ∃ (ds : List (Int × Int × List TRow × Cf × Nat)) (k : Int) (x4 x5 x6 x7 x8 x9 x10 : Option PV), σ = [some (.scr (zs.map .int)), some (lI ns), some (.ptr p), some (.ptr r), x4, x5, x6, x7, x8, x9, x10, none, none] ∧ ds.length = i ∧ (∀ d ∈ ds, MadeOk d) ∧ At M' p k ∧
    M' r = some (.lst (ds.map (madeP Γ)))) ⟨[], 0, _, _, _, _, _, _, _, rfl, rfl, fun _ h => (nomatch h), ⟨by rw [put_ne pr, put_same], by decide⟩, by rw [put_same]; rfl⟩ ?_ ?_
  · rintro i σ M' K hi ⟨ds, k, x4, x5, x6, x7, x8, x9, x10, rfl, hdl, hds, hk, hmr⟩ hK
    unfold b_law_1
    walk_at "pl"
    refine ⟨ns, p, k, rfl, hns, hk, fun m s k1 hm hs hk1 => ?_⟩
    walk_at "pl"
    refine ⟨ns, p, k1, m, s, rfl, hns, ⟨put_same, hk1⟩, hm, hs, fun rows k2 hM hk2 => ?_⟩
    rw [put_put]
    walk_at "pl"
    intro z hz0
    have zp : z ≠ p := fun e => by rw [e, put_same] at hz0; cases hz0
    have zr : z ≠ r := fun e => by rw [e, put_ne (Ne.symm pr), hmr] at hz0; cases hz0
    walk_at "pl"
    intro y hy
    have yp : y ≠ p := fun e => by rw [e, put_ne (Ne.symm zp), put_same] at hy; cases hy
    have yr : y ≠ r := fun e => by rw [e, put_ne (Ne.symm zr), put_ne (Ne.symm pr), hmr] at hy; cases hy
    have yz : y ≠ z := fun e => by rw [e, put_same] at hy; cases hy
    refine ⟨y, m, s, .ptr z, rows, rfl, hM, lstOf_ptr (by rw [put_ne (Ne.symm yz), put_same]), tyOf_ptr (by rw [put_ne (Ne.symm yz), put_same]), put_same, ?_⟩
    rw [put_put]
    refine ⟨rfl, ?_⟩
    simp only [put_same, true_and]
    rw [put_drop hy]
    refine ⟨by rw [lstOf_ptr put_same]; exact Option.some_ne_none _, ?_⟩
    have hlr : rows.length ≤ 320 := by
      have e1 : m * s ≤ 8 * s := Int.mul_le_mul_of_nonneg_right hm.2 (by omega)
      have := hM.len
      omega
    rw [app_ptr put_same (line_lt' (by rw [List.length_map]; omega)), put_put]
    refine ⟨ns, p, k2, m, s, 6, rfl, hns, ⟨by rw [put_ne (Ne.symm zp), put_same], hk2⟩, by omega, hs.1, ⟨by decide, by decide⟩, fun c k3 hc hc1 hc2 hk3 => ?_⟩
    refine ⟨ns, p, k3, rfl, hns, ⟨put_same, hk3⟩, fun n k4 hn hk4 => ?_⟩
    walk_at "pl"
    have mr : ((((M'.put p (.lst [.int k2])).put z (.lst (rows.map rowP ++ [.non]))).put p (.lst [.int k3])).put p (.lst [.int k4])) r = some (.lst (ds.map (madeP Γ))) := by
      rw [put_ne (Ne.symm pr), put_ne (Ne.symm pr), put_ne (Ne.symm zr), put_ne (Ne.symm pr), hmr]
    refine ⟨by rw [lstOf_ptr mr]; exact Option.some_ne_none _, ?_⟩
    have hi2 : i < 2 := hi
    rw [app_ptr mr (line_lt' (by rw [List.length_map]; omega))]
    have hn61 : n % 61 = ((n % 61).toNat : Nat) := by omega
    refine hK _ _ ⟨ds ++ [(m, s, rows, c, (n % 61).toNat)], k4, _, _, _, _, _, _, _, rfl, by rw [List.length_append, hdl]; rfl, fun d hd => ?_, ⟨by rw [put_ne pr, put_same], hk4⟩, ?_⟩
    · rcases List.mem_append.mp hd with e | e
      · exact hds d e
      · rw [List.mem_singleton.mp e]
        exact ⟨hM, hc, by omega, by omega, by omega⟩
    · rw [put_same, List.map_append]
      unfold madeP
      simp only [List.map_cons, List.map_nil]
      rw [← hn61]
      rfl
  · rintro σ M' ⟨ds, k, x4, x5, x6, x7, x8, x9, x10, rfl, hdl, hds, hk, hmr⟩
    have hdl2 : ds.length = 2 := hdl
    walk_at "pl"
    have mk : ∀ i : Nat, i < 2 → ∃ d, MadeOk d ∧ L2.atI (ds.map (madeP Γ)) (i : Int) = some (madeP Γ d) := fun i hi => by
      refine ⟨ds[i], hds _ (List.getElem_mem _), ?_⟩
      rw [at_pos _ (by omega), Int.toNat_natCast, List.getElem?_map, List.getElem?_eq_getElem (by omega)]
      rfl
    refine for_in (fun i σ M2 => M2 = M' ∧ ∃ x4, σ = [some (.scr (zs.map .int)), some (lI ns), some (.ptr p), some (.ptr r), x4, x5, x6, x7, x8, x9, x10, none, none]) ⟨rfl, _, rfl⟩ ?_ ?_
    · rintro i x σ M2 K hx ⟨rfl, x4, rfl⟩ hK
      have hx2 : ∃ j : Nat, j < 2 ∧ x = .int (j : Nat) := by
        match i, hx with
        | 0, hx => exact ⟨0, by omega, by cases hx; rfl⟩
        | 1, hx => exact ⟨1, by omega, by cases hx; rfl⟩
        | 2, hx => exact ⟨0, by omega, by cases hx; rfl⟩
      obtain ⟨j, hj, rfl⟩ := hx2
      obtain ⟨⟨m, s, rows, c, n⟩, hd, ha⟩ := mk j hj
      have hix : ∀ R : PQ, oIx (.ptr r) (.int (j : Nat)) M2 R = R (madeP Γ (m, s, rows, c, n)) M2 := fun R => by rw [ix_ptr hmr, ha]; rfl
      unfold b_law_2
      walk_at "pl"
      iterate 5 (rw [hix]; unfold madeP; walk_at "pl")
      refine ⟨m, s, rows, c, n, rfl, hd.1, hd.2.1, ?_, ?_, ?_⟩
      · have := hd.2.2.1; have := hd.2.2.2.2; omega
      · have := hd.2.2.2.1; have := hd.2.2.2.2; omega
      walk_at "pl"
      exact hK _ _ ⟨rfl, _, rfl⟩
    · rintro σ M2 ⟨rfl, x4, rfl⟩
      obtain ⟨⟨m, s, rows, c, n⟩, hd, ha⟩ := mk 0 (by omega)
      have hix : ∀ (M3 : Mem) (R : PQ), M3 r = some (.lst (ds.map (madeP Γ))) → oIx (.ptr r) (.int 0) M3 R = R (madeP Γ (m, s, rows, c, n)) M3 := fun M3 R h => by
        have ha2 : L2.atI (ds.map (madeP Γ)) 0 = some (madeP Γ (m, s, rows, c, n)) := ha
        rw [ix_ptr h, ha2]; rfl
      walk_at "pl"
      rw [hix _ _ hmr]
      unfold madeP
      walk_at "pl"
      have hM := hd.1
      refine ⟨ns, p, k, m, 7, rfl, hns, hk, by have := hM.m2; omega, ⟨by decide, by decide⟩, fun ms k1 hms hml hk1 => ?_⟩
      refine ⟨ns, p, k1, rfl, hns, ⟨put_same, hk1⟩, fun n0 k2 hn0 hk2 => ?_⟩
      rw [put_put]
      walk_at "pl"
      refine ⟨⟨by omega, by omega, by decide⟩, ?_⟩
      have ez : PV.tup (List.replicate (n0 % 3).toNat [PV.int 0]).flatten = tI (List.replicate (n0 % 3).toNat 0) := by
        unfold tI
        generalize (n0 % 3).toNat = t
        congr 1
        induction t with
        | zero => rfl
        | succ t ih => rw [List.replicate_succ, List.replicate_succ, List.flatten_cons, List.map_cons, ih]; rfl
      rw [ez, add_tI]
      refine ⟨line_lt (by rw [List.length_replicate]; omega), ?_⟩
      have hw : ∀ x ∈ ms ++ List.replicate (n0 % 3).toNat 0, 0 ≤ x ∧ x < m := fun x hx => by
        rcases List.mem_append.mp hx with e | e
        · exact hms.mm x e
        · rw [List.eq_of_mem_replicate e]; have := hM.m2; omega
      have hwl : (ms ++ List.replicate (n0 % 3).toNat 0).length ≤ 10 := by
        rw [List.length_append, List.length_replicate]; omega
      generalize ms ++ List.replicate (n0 % 3).toNat 0 = ws at hw hwl ⊢
      have hmr3 : (M2.put p (.lst [.int k2])) r = some (.lst (ds.map (madeP Γ))) := by rw [put_ne (Ne.symm pr), hmr]
      generalize M2.put p (.lst [.int k2]) = M3 at hmr3 ⊢
      have fin : ∀ R : PQ, R (.bl true) M3 → sp_trimmed Γ [tI ws] M3 (fun x M1 => sp_law_trim Γ [tI ws] M1 (fun y M1 => sp_law_same Γ [x, y] M1 R E) E) E := fun R h => by
        refine ⟨ws, rfl, c_trim (fun x hx => (hw x hx).1) (by omega) (c_same (okD_tI ?_) h)⟩
        have := trimL_len ws
        omega
      have dd : ∀ (a : Int) (b : List Int), b.length ≤ 1000 → okD 8 (.tup [.int 0, .tup [], .int a, tI b]) := fun a b h => okD_tup (by simp only [List.length_cons, List.length_nil]; omega) (fun x hx => by
        simp only [List.mem_cons, List.not_mem_nil, or_false] at hx
        rcases hx with rfl | rfl | rfl | rfl
        · exact trivial
        · exact okD_tup (Nat.zero_le _) (fun _ h => nomatch h)
        · exact trivial
        · exact okD_tI h)
      walk_at "pl"
      cases ws with
      | nil =>
        rw [if_neg (by simp)]
        walk_at "pl"
        rw [hix _ _ hmr3]
        unfold madeP tapeP
        walk_at "pl"
        refine ⟨m, s, rows, [], rfl, by decide, hw, c_same (dd 0 [] (by simp)) ?_⟩
        walk_at "pl"
        exact fin _ (q _)
      | cons a b =>
        rw [if_pos (by simp only [List.length_cons]; omega)]
        rw [ix_tI0 (by simp)]
        walk_at "pl"
        refine c_trim (fun x hx => (hw x (List.mem_cons_of_mem _ hx)).1) (by simp only [List.length_cons] at hwl; show b.length < _; omega) ?_
        walk_at "pl"
        rw [hix _ _ hmr3]
        unfold madeP tapeP
        walk_at "pl"
        refine ⟨m, s, rows, a :: b, rfl, by omega, hw, c_same (dd _ _ ?_) ?_⟩
        · have := trimL_len b
          simp only [List.length_cons] at hwl
          show (trimL b).length ≤ _
          omega
        walk_at "pl"
        exact fin _ (q _)
end My
set_option Elab.async false
set_option linter.all false
set_option maxRecDepth 100000
namespace My
open PySem PySem.Spec PyProof.Rows L2 PL
open TM
theorem base_law_same {xs : List PV} {M : Mem} {Q : PQ} {E : PXK} (h : spSame 0 xs M Q E) : False := by
  obtain ⟨_, _, h, _⟩ := h
  exact h
def sp_top : PSp := sp_law ⟨0⟩
theorem rall_ints {K : PySem.W.Frag} {F : Hp} : ∀ ns : List Int, RAll K F (ns.map PV.int) (ns.map V.int)
  | [] => .nil
  | n :: r => .cons (.int n) (rall_ints r)
theorem top_law {K : PySem.W.Frag} {H : Hp} {a : Addr} {ns : List Int} (hl : ns.length ≤ 63) (hS : SqL K H a (ns.map V.int)) : lift K 1 sp_top [V.ref a] H (fun v _ => v = V.bl true) fun _ _ _ => False := by
  refine lift_of rfl (F := H) (M := fun _ => none) (xs := [.scr (ns.map .int)]) (Qp := fun x _ => x = .bl true) (Ep := fun _ _ _ => False) ⟨fun _ _ e => e, fun _ h => absurd rfl h, fun _ _ h => nomatch h⟩ (.cons (.scr hS (rall_ints ns)) .nil) ⟨ns, rfl, hl, fun _ => rfl⟩ ?_ ?_
  · rintro v H' ⟨F', M', x, _, r, rfl⟩
    cases r
    rfl
  · rintro cls d H' ⟨_, _, _, _, _, _, _, z⟩
    exact z
theorem top_cx {P : Program} {w : World} {H : Hp} {s s' : Shared} {e : Value} (z : L2.CX P w [] H s (fun _ _ _ => False) e s') : False := by
  obtain ⟨_, _, _, _, _, _, _, _, _, _, _, _, z⟩ := z
  exact z
section
variable {P : Program} {w : World} {K : PySem.W.Frag} {mg : Str → Option Value} {base : Heap} {Γ : Ctx}
theorem ok_law_numbers {f : Addr} {fd : FuncData} (F : Fun K (PySem.Str.ofString "_law_numbers") "_law_numbers" s_law_numbers f fd) (T : Txt K mg Γ)  : FnOk P w K mg base (L2.CX P w) 1 f fd ["script", "many"] (lift K 2 (sp_law_numbers Γ)) :=
  Fn.ok F sc_law_numbers rfl fun cdv A outer s H E hr => ⟨_, d_law_numbers T  hr, k_law_numbers Γ⟩
theorem ok_law_take {f : Addr} {fd : FuncData} (F : Fun K (PySem.Str.ofString "_law_take") "_law_take" s_law_take f fd) (T : Txt K mg Γ)  : FnOk P w K mg base (L2.CX P w) 1 f fd ["numbers", "place"] (lift K 2 (sp_law_take Γ)) :=
  Fn.ok F sc_law_take rfl fun cdv A outer s H E hr => ⟨_, d_law_take T  hr, k_law_take Γ⟩
theorem ok_law_sizes {f : Addr} {fd : FuncData} (F : Fun K (PySem.Str.ofString "_law_sizes") "_law_sizes" s_law_sizes f fd) (T : Txt K mg Γ) (G_law_take : GFn P w K mg base (PySem.Str.ofString "_law_take") 1 ["numbers", "place"] (sp_law_take Γ)) : FnOk P w K mg base (L2.CX P w) 2 f fd ["numbers", "place"] (lift K 2 (sp_law_sizes Γ)) :=
  Fn.ok F sc_law_sizes rfl fun cdv A outer s H E hr => ⟨_, d_law_sizes T G_law_take hr, k_law_sizes Γ⟩
theorem ok_law_machine {f : Addr} {fd : FuncData} (F : Fun K (PySem.Str.ofString "_law_machine") "_law_machine" s_law_machine f fd) (T : Txt K mg Γ) (G_law_take : GFn P w K mg base (PySem.Str.ofString "_law_take") 1 ["numbers", "place"] (sp_law_take Γ)) : FnOk P w K mg base (L2.CX P w) 2 f fd ["numbers", "place", "marks", "states"] (lift K 4 (sp_law_machine Γ)) :=
  Fn.ok F sc_law_machine rfl fun cdv A outer s H E hr => ⟨_, d_law_machine T G_law_take hr, k_law_machine Γ⟩
theorem ok_is_whole {f : Addr} {fd : FuncData} (F : Fun K (PySem.Str.ofString "is_whole") "is_whole" s_is_whole f fd) (T : Txt K mg Γ)  : FnOk P w K mg base (L2.CX P w) 1 f fd ["value"] (lift K 1 (sp_is_whole Γ)) :=
  Fn.ok F sc_is_whole rfl fun cdv A outer s H E hr => ⟨_, d_is_whole T  hr, k_is_whole Γ⟩
theorem ok_is_number {f : Addr} {fd : FuncData} (F : Fun K (PySem.Str.ofString "is_number") "is_number" s_is_number f fd) (T : Txt K mg Γ) (G_is_whole : GFn P w K mg base (PySem.Str.ofString "is_whole") 1 ["value"] (sp_is_whole Γ)) : FnOk P w K mg base (L2.CX P w) 2 f fd ["value", "low", "high"] (lift K 3 (sp_is_number Γ)) :=
  Fn.ok F sc_is_number rfl fun cdv A outer s H E hr => ⟨_, d_is_number T G_is_whole hr, k_is_number Γ⟩
theorem ok_is_row {f : Addr} {fd : FuncData} (F : Fun K (PySem.Str.ofString "is_row") "is_row" s_is_row f fd) (T : Txt K mg Γ) (G_is_number : GFn P w K mg base (PySem.Str.ofString "is_number") 2 ["value", "low", "high"] (sp_is_number Γ)) : FnOk P w K mg base (L2.CX P w) 3 f fd ["row", "marks", "states"] (lift K 3 (sp_is_row Γ)) :=
  Fn.ok F sc_is_row rfl fun cdv A outer s H E hr => ⟨_, d_is_row T G_is_number hr, k_is_row Γ⟩
theorem ok_Tape_init {f : Addr} {fd : FuncData} (F : Fun K (PySem.Str.ofString "__init__") "Tape.__init__" s_Tape_init f fd) (T : Txt K mg Γ) (G_is_number : GFn P w K mg base (PySem.Str.ofString "is_number") 2 ["value", "low", "high"] (sp_is_number Γ)) (G_is_row : GFn P w K mg base (PySem.Str.ofString "is_row") 3 ["row", "marks", "states"] (sp_is_row Γ)) : FnOk P w K mg base (L2.CX P w) 4 f fd ["self", "marks", "states", "rows"] (lift K 4 (sp_Tape_init Γ)) :=
  Fn.ok F sc_Tape_init rfl fun cdv A outer s H E hr => ⟨_, d_Tape_init T G_is_number G_is_row hr, k_Tape_init Γ⟩
theorem ok_law_trim {f : Addr} {fd : FuncData} (F : Fun K (PySem.Str.ofString "_law_trim") "_law_trim" s_law_trim f fd) (T : Txt K mg Γ)  : FnOk P w K mg base (L2.CX P w) 1 f fd ["marks"] (lift K 1 (sp_law_trim Γ)) :=
  Fn.ok F sc_law_trim rfl fun cdv A outer s H E hr => ⟨_, d_law_trim T  hr, k_law_trim Γ⟩
theorem ok_law_side {f : Addr} {fd : FuncData} (F : Fun K (PySem.Str.ofString "_law_side") "_law_side" s_law_side f fd) (T : Txt K mg Γ) (G_law_trim : GFn P w K mg base (PySem.Str.ofString "_law_trim") 1 ["marks"] (sp_law_trim Γ)) (G_law_take : GFn P w K mg base (PySem.Str.ofString "_law_take") 1 ["numbers", "place"] (sp_law_take Γ)) : FnOk P w K mg base (L2.CX P w) 2 f fd ["numbers", "place", "marks", "most"] (lift K 4 (sp_law_side Γ)) :=
  Fn.ok F sc_law_side rfl fun cdv A outer s H E hr => ⟨_, d_law_side T G_law_trim G_law_take hr, k_law_side Γ⟩
theorem ok_law_configuration {f : Addr} {fd : FuncData} (F : Fun K (PySem.Str.ofString "_law_configuration") "_law_configuration" s_law_configuration f fd) (T : Txt K mg Γ) (G_law_side : GFn P w K mg base (PySem.Str.ofString "_law_side") 2 ["numbers", "place", "marks", "most"] (sp_law_side Γ)) (G_law_take : GFn P w K mg base (PySem.Str.ofString "_law_take") 1 ["numbers", "place"] (sp_law_take Γ)) : FnOk P w K mg base (L2.CX P w) 3 f fd ["numbers", "place", "marks", "states", "most"] (lift K 5 (sp_law_configuration Γ)) :=
  Fn.ok F sc_law_configuration rfl fun cdv A outer s H E hr => ⟨_, d_law_configuration T G_law_side G_law_take hr, k_law_configuration Γ⟩
theorem ok_law_same {f : Addr} {fd : FuncData} (F : Fun K (PySem.Str.ofString "_law_same") "_law_same" s_law_same f fd) (T : Txt K mg Γ)  (hm : mg (PySem.Str.ofString "_law_same") = some (.ref f)) (hk : PySem.W.keepIn K (.ref f) = true) (hb : Binds K fd ["actual", "expected"] []) : ∀ n : Nat, FnOk P w K mg base (L2.CX P w) (n + 0 + 1) f fd ["actual", "expected"] (lift K 2 (spSame n))
  | 0 => F.okX sc_law_same (fun vs H Q E h => h.1) fun _ _ _ _ _ _ _ _ _ h => by
      obtain ⟨_, _, M, xs, Qp, Ep, _, _, h, _⟩ := h
      exact (base_law_same h).elim
  | n + 1 => Fn.ok F sc_law_same rfl fun cdv A outer s H E hr => ⟨_, d_law_same (kk := n + 0 + 1) T  ⟨⟨f, fd, ok_law_same F T  hm hk hb n, hm, hk, hb⟩⟩ (by rw [show n + 0 + 1 = n + 1 + 0 from by omega]; exact hr), k_law_same Γ n⟩
theorem ok_Tape_table {f : Addr} {fd : FuncData} (F : Fun K (PySem.Str.ofString "table") "Tape.table" s_Tape_table f fd) (T : Txt K mg Γ)  : FnOk P w K mg base (L2.CX P w) 1 f fd ["self"] (lift K 1 (sp_Tape_table Γ)) :=
  Fn.ok F sc_Tape_table rfl fun cdv A outer s H E hr => ⟨_, d_Tape_table T  hr, k_Tape_table Γ⟩
theorem ok_law_step {f : Addr} {fd : FuncData} (F : Fun K (PySem.Str.ofString "_law_step") "_law_step" s_law_step f fd) (T : Txt K mg Γ) (G_law_trim : GFn P w K mg base (PySem.Str.ofString "_law_trim") 1 ["marks"] (sp_law_trim Γ)) : FnOk P w K mg base (L2.CX P w) 2 f fd ["rows", "marks", "spot"] (lift K 3 (sp_law_step Γ)) :=
  Fn.ok F sc_law_step rfl fun cdv A outer s H E hr => ⟨_, d_law_step T G_law_trim hr, k_law_step Γ⟩
theorem ok_pushed {f : Addr} {fd : FuncData} (F : Fun K (PySem.Str.ofString "pushed") "pushed" s_pushed f fd) (T : Txt K mg Γ)  : FnOk P w K mg base (L2.CX P w) 1 f fd ["mark", "side"] (lift K 2 (sp_pushed Γ)) :=
  Fn.ok F sc_pushed rfl fun cdv A outer s H E hr => ⟨_, d_pushed T  hr, k_pushed Γ⟩
theorem ok_nearest {f : Addr} {fd : FuncData} (F : Fun K (PySem.Str.ofString "nearest") "nearest" s_nearest f fd) (T : Txt K mg Γ)  : FnOk P w K mg base (L2.CX P w) 1 f fd ["side"] (lift K 1 (sp_nearest Γ)) :=
  Fn.ok F sc_nearest rfl fun cdv A outer s H E hr => ⟨_, d_nearest T  hr, k_nearest Γ⟩
theorem ok_moved {f : Addr} {fd : FuncData} (F : Fun K (PySem.Str.ofString "moved") "moved" s_moved f fd) (T : Txt K mg Γ) (G_pushed : GFn P w K mg base (PySem.Str.ofString "pushed") 1 ["mark", "side"] (sp_pushed Γ)) (G_nearest : GFn P w K mg base (PySem.Str.ofString "nearest") 1 ["side"] (sp_nearest Γ)) : FnOk P w K mg base (L2.CX P w) 2 f fd ["tape", "move"] (lift K 2 (sp_moved Γ)) :=
  Fn.ok F sc_moved rfl fun cdv A outer s H E hr => ⟨_, d_moved T G_pushed G_nearest hr, k_moved Γ⟩
theorem ok_Tape_step {f : Addr} {fd : FuncData} (F : Fun K (PySem.Str.ofString "step") "Tape.step" s_Tape_step f fd) (T : Txt K mg Γ) (G_moved : GFn P w K mg base (PySem.Str.ofString "moved") 2 ["tape", "move"] (sp_moved Γ)) : FnOk P w K mg base (L2.CX P w) 3 f fd ["self", "configuration"] (lift K 2 (sp_Tape_step Γ)) :=
  Fn.ok F sc_Tape_step rfl fun cdv A outer s H E hr => ⟨_, d_Tape_step T G_moved hr, k_Tape_step Γ⟩
theorem ok_Tape_stopped {f : Addr} {fd : FuncData} (F : Fun K (PySem.Str.ofString "stopped") "Tape.stopped" s_Tape_stopped f fd) (T : Txt K mg Γ) (G_Tape_step : GMt P w K mg base Γ.Tape (PySem.Str.ofString "step") 3 ["self", "configuration"] (sp_Tape_step Γ)) : FnOk P w K mg base (L2.CX P w) 4 f fd ["self", "configuration"] (lift K 2 (sp_Tape_stopped Γ)) :=
  Fn.ok F sc_Tape_stopped rfl fun cdv A outer s H E hr => ⟨_, d_Tape_stopped T G_Tape_step hr, k_Tape_stopped Γ⟩
theorem ok_Tape_run {f : Addr} {fd : FuncData} (F : Fun K (PySem.Str.ofString "run") "Tape.run" s_Tape_run f fd) (T : Txt K mg Γ) (G_Tape_step : GMt P w K mg base Γ.Tape (PySem.Str.ofString "step") 3 ["self", "configuration"] (sp_Tape_step Γ)) : FnOk P w K mg base (L2.CX P w) 4 f fd ["self", "configuration", "steps"] (lift K 3 (sp_Tape_run Γ)) :=
  Fn.ok F sc_Tape_run rfl fun cdv A outer s H E hr => ⟨_, d_Tape_run T G_Tape_step hr, k_Tape_run Γ⟩
theorem ok_law_run {f : Addr} {fd : FuncData} (F : Fun K (PySem.Str.ofString "_law_run") "_law_run" s_law_run f fd) (T : Txt K mg Γ) (G_law_step : GFn P w K mg base (PySem.Str.ofString "_law_step") 2 ["rows", "marks", "spot"] (sp_law_step Γ)) : FnOk P w K mg base (L2.CX P w) 3 f fd ["rows", "marks", "spot", "steps"] (lift K 4 (sp_law_run Γ)) :=
  Fn.ok F sc_law_run rfl fun cdv A outer s H E hr => ⟨_, d_law_run T G_law_step hr, k_law_run Γ⟩
theorem ok_Tape_row {f : Addr} {fd : FuncData} (F : Fun K (PySem.Str.ofString "row") "Tape.row" s_Tape_row f fd) (T : Txt K mg Γ) (G_is_number : GFn P w K mg base (PySem.Str.ofString "is_number") 2 ["value", "low", "high"] (sp_is_number Γ)) : FnOk P w K mg base (L2.CX P w) 3 f fd ["self", "state", "mark"] (lift K 3 (sp_Tape_row Γ)) :=
  Fn.ok F sc_Tape_row rfl fun cdv A outer s H E hr => ⟨_, d_Tape_row T G_is_number hr, k_Tape_row Γ⟩
theorem ok_law_right {f : Addr} {fd : FuncData} (F : Fun K (PySem.Str.ofString "_law_right") "_law_right" s_law_right f fd) (T : Txt K mg Γ) (G_Tape_table : GMt P w K mg base Γ.Tape (PySem.Str.ofString "table") 1 ["self"] (sp_Tape_table Γ)) (G_law_step : GFn P w K mg base (PySem.Str.ofString "_law_step") 2 ["rows", "marks", "spot"] (sp_law_step Γ)) (G_law_same : GFn P w K mg base (PySem.Str.ofString "_law_same") 9 ["actual", "expected"] (sp_law_same Γ)) (G_Tape_stopped : GMt P w K mg base Γ.Tape (PySem.Str.ofString "stopped") 4 ["self", "configuration"] (sp_Tape_stopped Γ)) (G_Tape_run : GMt P w K mg base Γ.Tape (PySem.Str.ofString "run") 4 ["self", "configuration", "steps"] (sp_Tape_run Γ)) (G_law_run : GFn P w K mg base (PySem.Str.ofString "_law_run") 3 ["rows", "marks", "spot", "steps"] (sp_law_run Γ)) (G_Tape_row : GMt P w K mg base Γ.Tape (PySem.Str.ofString "row") 3 ["self", "state", "mark"] (sp_Tape_row Γ)) (G_Tape_step : GMt P w K mg base Γ.Tape (PySem.Str.ofString "step") 3 ["self", "configuration"] (sp_Tape_step Γ)) : FnOk P w K mg base (L2.CX P w) 10 f fd ["machine", "sizes", "rows", "spot", "steps"] (lift K 5 (sp_law_right Γ)) :=
  Fn.ok F sc_law_right rfl fun cdv A outer s H E hr => ⟨_, d_law_right T G_Tape_table G_law_step G_law_same G_Tape_stopped G_Tape_run G_law_run G_Tape_row G_Tape_step hr, k_law_right Γ⟩
theorem ok_are_numbers {f : Addr} {fd : FuncData} (F : Fun K (PySem.Str.ofString "are_numbers") "are_numbers" s_are_numbers f fd) (T : Txt K mg Γ) (G_is_number : GFn P w K mg base (PySem.Str.ofString "is_number") 2 ["value", "low", "high"] (sp_is_number Γ)) : FnOk P w K mg base (L2.CX P w) 3 f fd ["value", "low", "high"] (lift K 3 (sp_are_numbers Γ)) :=
  Fn.ok F sc_are_numbers rfl fun cdv A outer s H E hr => ⟨_, d_are_numbers T G_is_number hr, k_are_numbers Γ⟩
theorem ok_trimmed {f : Addr} {fd : FuncData} (F : Fun K (PySem.Str.ofString "trimmed") "trimmed" s_trimmed f fd) (T : Txt K mg Γ)  : FnOk P w K mg base (L2.CX P w) 1 f fd ["marks"] (lift K 1 (sp_trimmed Γ)) :=
  Fn.ok F sc_trimmed rfl fun cdv A outer s H E hr => ⟨_, d_trimmed T  hr, k_trimmed Γ⟩
theorem ok_laid {f : Addr} {fd : FuncData} (F : Fun K (PySem.Str.ofString "laid") "laid" s_laid f fd) (T : Txt K mg Γ) (G_trimmed : GFn P w K mg base (PySem.Str.ofString "trimmed") 1 ["marks"] (sp_trimmed Γ)) : FnOk P w K mg base (L2.CX P w) 2 f fd ["word"] (lift K 1 (sp_laid Γ)) :=
  Fn.ok F sc_laid rfl fun cdv A outer s H E hr => ⟨_, d_laid T G_trimmed hr, k_laid Γ⟩
theorem ok_Tape_begin {f : Addr} {fd : FuncData} (F : Fun K (PySem.Str.ofString "begin") "Tape.begin" s_Tape_begin f fd) (T : Txt K mg Γ) (G_are_numbers : GFn P w K mg base (PySem.Str.ofString "are_numbers") 3 ["value", "low", "high"] (sp_are_numbers Γ)) (G_laid : GFn P w K mg base (PySem.Str.ofString "laid") 2 ["word"] (sp_laid Γ)) : FnOk P w K mg base (L2.CX P w) 4 f fd ["self", "word"] (lift K 2 (sp_Tape_begin Γ)) :=
  Fn.ok F sc_Tape_begin rfl fun cdv A outer s H E hr => ⟨_, d_Tape_begin T G_are_numbers G_laid hr, k_Tape_begin Γ⟩
theorem ok_law {f : Addr} {fd : FuncData} (F : Fun K (PySem.Str.ofString "law") "law" s_law f fd) (T : Txt K mg Γ) (G_law_numbers : GFn P w K mg base (PySem.Str.ofString "_law_numbers") 1 ["script", "many"] (sp_law_numbers Γ)) (G_law_sizes : GFn P w K mg base (PySem.Str.ofString "_law_sizes") 2 ["numbers", "place"] (sp_law_sizes Γ)) (G_law_machine : GFn P w K mg base (PySem.Str.ofString "_law_machine") 2 ["numbers", "place", "marks", "states"] (sp_law_machine Γ)) (G_Tape_init : GMk P w K mg base (PySem.Str.ofString "Tape") Γ.Tape 4 ["self", "marks", "states", "rows"] (sp_Tape_init Γ)) (G_law_configuration : GFn P w K mg base (PySem.Str.ofString "_law_configuration") 3 ["numbers", "place", "marks", "states", "most"] (sp_law_configuration Γ)) (G_law_side : GFn P w K mg base (PySem.Str.ofString "_law_side") 2 ["numbers", "place", "marks", "most"] (sp_law_side Γ)) (G_law_same : GFn P w K mg base (PySem.Str.ofString "_law_same") 9 ["actual", "expected"] (sp_law_same Γ)) (G_law_take : GFn P w K mg base (PySem.Str.ofString "_law_take") 1 ["numbers", "place"] (sp_law_take Γ)) (G_law_right : GFn P w K mg base (PySem.Str.ofString "_law_right") 10 ["machine", "sizes", "rows", "spot", "steps"] (sp_law_right Γ)) (G_law_trim : GFn P w K mg base (PySem.Str.ofString "_law_trim") 1 ["marks"] (sp_law_trim Γ)) (G_Tape_begin : GMt P w K mg base Γ.Tape (PySem.Str.ofString "begin") 4 ["self", "word"] (sp_Tape_begin Γ)) (G_trimmed : GFn P w K mg base (PySem.Str.ofString "trimmed") 1 ["marks"] (sp_trimmed Γ)) : FnOk P w K mg base (L2.CX P w) 11 f fd ["script"] (lift K 1 (sp_law Γ)) :=
  Fn.ok F sc_law rfl fun cdv A outer s H E hr => ⟨_, d_law T G_law_numbers G_law_sizes G_law_machine G_Tape_init G_law_configuration G_law_side G_law_same G_law_take G_law_right G_law_trim G_Tape_begin G_trimmed hr, k_law Γ⟩
end
theorem all_mk {l : PySem.W.OpenLaw} {w : World} {K : PySem.W.Frag} {h : Heap} {mg : Str → Option Value} {fa f_law_numbers f_law_take f_law_sizes f_law_machine f_is_whole f_is_number f_is_row f_Tape_init f_law_trim f_law_side f_law_configuration f_law_same f_Tape_table f_law_step f_pushed f_nearest f_moved f_Tape_step f_Tape_stopped f_Tape_run f_law_run f_Tape_row f_law_right f_are_numbers f_trimmed f_laid f_Tape_begin f_law C_Tape : Addr} (X : K.In h) (G : h.Ns mainGlobals mg) (hfa : mg "law" = some (.ref fa))
    {od_law_numbers an_law_numbers : Option Addr}
    {sl_law_numbers : Array (Option Value)}
    {oc_law_numbers kV_law_numbers dc_law_numbers pm_law_numbers cd_law_numbers ct_law_numbers : Value}
    {od_law_take an_law_take : Option Addr}
    {sl_law_take : Array (Option Value)}
    {oc_law_take kV_law_take dc_law_take pm_law_take cd_law_take ct_law_take : Value}
    {od_law_sizes an_law_sizes : Option Addr}
    {sl_law_sizes : Array (Option Value)}
    {oc_law_sizes kV_law_sizes dc_law_sizes pm_law_sizes cd_law_sizes ct_law_sizes : Value}
    {od_law_machine an_law_machine : Option Addr}
    {sl_law_machine : Array (Option Value)}
    {oc_law_machine kV_law_machine dc_law_machine pm_law_machine cd_law_machine ct_law_machine : Value}
    {od_is_whole an_is_whole : Option Addr}
    {sl_is_whole : Array (Option Value)}
    {oc_is_whole kV_is_whole dc_is_whole pm_is_whole cd_is_whole ct_is_whole : Value}
    {od_is_number an_is_number : Option Addr}
    {sl_is_number : Array (Option Value)}
    {oc_is_number kV_is_number dc_is_number pm_is_number cd_is_number ct_is_number : Value}
    {od_is_row an_is_row : Option Addr}
    {sl_is_row : Array (Option Value)}
    {oc_is_row kV_is_row dc_is_row pm_is_row cd_is_row ct_is_row : Value}
    {od_Tape_init an_Tape_init : Option Addr}
    {sl_Tape_init : Array (Option Value)}
    {oc_Tape_init kV_Tape_init dc_Tape_init pm_Tape_init cd_Tape_init ct_Tape_init : Value}
    {od_law_trim an_law_trim : Option Addr}
    {sl_law_trim : Array (Option Value)}
    {oc_law_trim kV_law_trim dc_law_trim pm_law_trim cd_law_trim ct_law_trim : Value}
    {od_law_side an_law_side : Option Addr}
    {sl_law_side : Array (Option Value)}
    {oc_law_side kV_law_side dc_law_side pm_law_side cd_law_side ct_law_side : Value}
    {od_law_configuration an_law_configuration : Option Addr}
    {sl_law_configuration : Array (Option Value)}
    {oc_law_configuration kV_law_configuration dc_law_configuration pm_law_configuration cd_law_configuration ct_law_configuration : Value}
    {od_law_same an_law_same : Option Addr}
    {sl_law_same : Array (Option Value)}
    {oc_law_same kV_law_same dc_law_same pm_law_same cd_law_same ct_law_same : Value}
    {od_Tape_table an_Tape_table : Option Addr}
    {sl_Tape_table : Array (Option Value)}
    {oc_Tape_table kV_Tape_table dc_Tape_table pm_Tape_table cd_Tape_table ct_Tape_table : Value}
    {od_law_step an_law_step : Option Addr}
    {sl_law_step : Array (Option Value)}
    {oc_law_step kV_law_step dc_law_step pm_law_step cd_law_step ct_law_step : Value}
    {od_pushed an_pushed : Option Addr}
    {sl_pushed : Array (Option Value)}
    {oc_pushed kV_pushed dc_pushed pm_pushed cd_pushed ct_pushed : Value}
    {od_nearest an_nearest : Option Addr}
    {sl_nearest : Array (Option Value)}
    {oc_nearest kV_nearest dc_nearest pm_nearest cd_nearest ct_nearest : Value}
    {od_moved an_moved : Option Addr}
    {sl_moved : Array (Option Value)}
    {oc_moved kV_moved dc_moved pm_moved cd_moved ct_moved : Value}
    {od_Tape_step an_Tape_step : Option Addr}
    {sl_Tape_step : Array (Option Value)}
    {oc_Tape_step kV_Tape_step dc_Tape_step pm_Tape_step cd_Tape_step ct_Tape_step : Value}
    {od_Tape_stopped an_Tape_stopped : Option Addr}
    {sl_Tape_stopped : Array (Option Value)}
    {oc_Tape_stopped kV_Tape_stopped dc_Tape_stopped pm_Tape_stopped cd_Tape_stopped ct_Tape_stopped : Value}
    {od_Tape_run an_Tape_run : Option Addr}
    {sl_Tape_run : Array (Option Value)}
    {oc_Tape_run kV_Tape_run dc_Tape_run pm_Tape_run cd_Tape_run ct_Tape_run : Value}
    {od_law_run an_law_run : Option Addr}
    {sl_law_run : Array (Option Value)}
    {oc_law_run kV_law_run dc_law_run pm_law_run cd_law_run ct_law_run : Value}
    {od_Tape_row an_Tape_row : Option Addr}
    {sl_Tape_row : Array (Option Value)}
    {oc_Tape_row kV_Tape_row dc_Tape_row pm_Tape_row cd_Tape_row ct_Tape_row : Value}
    {od_law_right an_law_right : Option Addr}
    {sl_law_right : Array (Option Value)}
    {oc_law_right kV_law_right dc_law_right pm_law_right cd_law_right ct_law_right : Value}
    {od_are_numbers an_are_numbers : Option Addr}
    {sl_are_numbers : Array (Option Value)}
    {oc_are_numbers kV_are_numbers dc_are_numbers pm_are_numbers cd_are_numbers ct_are_numbers : Value}
    {od_trimmed an_trimmed : Option Addr}
    {sl_trimmed : Array (Option Value)}
    {oc_trimmed kV_trimmed dc_trimmed pm_trimmed cd_trimmed ct_trimmed : Value}
    {od_laid an_laid : Option Addr}
    {sl_laid : Array (Option Value)}
    {oc_laid kV_laid dc_laid pm_laid cd_laid ct_laid : Value}
    {od_Tape_begin an_Tape_begin : Option Addr}
    {sl_Tape_begin : Array (Option Value)}
    {oc_Tape_begin kV_Tape_begin dc_Tape_begin pm_Tape_begin cd_Tape_begin ct_Tape_begin : Value}
    {od_law an_law : Option Addr}
    {sl_law : Array (Option Value)}
    {oc_law kV_law dc_law pm_law cd_law ct_law : Value}
    (A_Tape : PySem.W.nsIn K mainGlobals (PySem.Str.ofString "Tape") = some (some (.ref C_Tape)))
    (a_law_numbers : PySem.W.nsIn K mainGlobals (PySem.Str.ofString "_law_numbers") = some (some (.ref f_law_numbers)))
    (l_law_numbers : K.lookup f_law_numbers = some ⟨oc_law_numbers, od_law_numbers, .func (PySem.W.fnOf (PySem.Str.ofString "_law_numbers") "_law_numbers" (defArgs s_law_numbers) (defBody s_law_numbers) (defScope s_law_numbers) .none kV_law_numbers dc_law_numbers pm_law_numbers an_law_numbers cd_law_numbers ct_law_numbers), sl_law_numbers⟩)
    (c_law_numbers : PySem.W.codeIn K cd_law_numbers "_law_numbers" = true)
    (k_law_numbers : PySem.W.keepIn K (.ref f_law_numbers) = true)
    (a_law_take : PySem.W.nsIn K mainGlobals (PySem.Str.ofString "_law_take") = some (some (.ref f_law_take)))
    (l_law_take : K.lookup f_law_take = some ⟨oc_law_take, od_law_take, .func (PySem.W.fnOf (PySem.Str.ofString "_law_take") "_law_take" (defArgs s_law_take) (defBody s_law_take) (defScope s_law_take) .none kV_law_take dc_law_take pm_law_take an_law_take cd_law_take ct_law_take), sl_law_take⟩)
    (c_law_take : PySem.W.codeIn K cd_law_take "_law_take" = true)
    (k_law_take : PySem.W.keepIn K (.ref f_law_take) = true)
    (a_law_sizes : PySem.W.nsIn K mainGlobals (PySem.Str.ofString "_law_sizes") = some (some (.ref f_law_sizes)))
    (l_law_sizes : K.lookup f_law_sizes = some ⟨oc_law_sizes, od_law_sizes, .func (PySem.W.fnOf (PySem.Str.ofString "_law_sizes") "_law_sizes" (defArgs s_law_sizes) (defBody s_law_sizes) (defScope s_law_sizes) .none kV_law_sizes dc_law_sizes pm_law_sizes an_law_sizes cd_law_sizes ct_law_sizes), sl_law_sizes⟩)
    (c_law_sizes : PySem.W.codeIn K cd_law_sizes "_law_sizes" = true)
    (k_law_sizes : PySem.W.keepIn K (.ref f_law_sizes) = true)
    (a_law_machine : PySem.W.nsIn K mainGlobals (PySem.Str.ofString "_law_machine") = some (some (.ref f_law_machine)))
    (l_law_machine : K.lookup f_law_machine = some ⟨oc_law_machine, od_law_machine, .func (PySem.W.fnOf (PySem.Str.ofString "_law_machine") "_law_machine" (defArgs s_law_machine) (defBody s_law_machine) (defScope s_law_machine) .none kV_law_machine dc_law_machine pm_law_machine an_law_machine cd_law_machine ct_law_machine), sl_law_machine⟩)
    (c_law_machine : PySem.W.codeIn K cd_law_machine "_law_machine" = true)
    (k_law_machine : PySem.W.keepIn K (.ref f_law_machine) = true)
    (a_is_whole : PySem.W.nsIn K mainGlobals (PySem.Str.ofString "is_whole") = some (some (.ref f_is_whole)))
    (l_is_whole : K.lookup f_is_whole = some ⟨oc_is_whole, od_is_whole, .func (PySem.W.fnOf (PySem.Str.ofString "is_whole") "is_whole" (defArgs s_is_whole) (defBody s_is_whole) (defScope s_is_whole) .none kV_is_whole dc_is_whole pm_is_whole an_is_whole cd_is_whole ct_is_whole), sl_is_whole⟩)
    (c_is_whole : PySem.W.codeIn K cd_is_whole "is_whole" = true)
    (k_is_whole : PySem.W.keepIn K (.ref f_is_whole) = true)
    (a_is_number : PySem.W.nsIn K mainGlobals (PySem.Str.ofString "is_number") = some (some (.ref f_is_number)))
    (l_is_number : K.lookup f_is_number = some ⟨oc_is_number, od_is_number, .func (PySem.W.fnOf (PySem.Str.ofString "is_number") "is_number" (defArgs s_is_number) (defBody s_is_number) (defScope s_is_number) .none kV_is_number dc_is_number pm_is_number an_is_number cd_is_number ct_is_number), sl_is_number⟩)
    (c_is_number : PySem.W.codeIn K cd_is_number "is_number" = true)
    (k_is_number : PySem.W.keepIn K (.ref f_is_number) = true)
    (a_is_row : PySem.W.nsIn K mainGlobals (PySem.Str.ofString "is_row") = some (some (.ref f_is_row)))
    (l_is_row : K.lookup f_is_row = some ⟨oc_is_row, od_is_row, .func (PySem.W.fnOf (PySem.Str.ofString "is_row") "is_row" (defArgs s_is_row) (defBody s_is_row) (defScope s_is_row) .none kV_is_row dc_is_row pm_is_row an_is_row cd_is_row ct_is_row), sl_is_row⟩)
    (c_is_row : PySem.W.codeIn K cd_is_row "is_row" = true)
    (k_is_row : PySem.W.keepIn K (.ref f_is_row) = true)
    (a_Tape_init : PySem.W.findIn K (.ref C_Tape) (PySem.Str.ofString "__init__") = some (some (.ref f_Tape_init)))
    (i_Tape_init : PySem.W.isFn K (.ref f_Tape_init) = true)
    (l_Tape_init : K.lookup f_Tape_init = some ⟨oc_Tape_init, od_Tape_init, .func (PySem.W.fnOf (PySem.Str.ofString "__init__") "Tape.__init__" (defArgs s_Tape_init) (defBody s_Tape_init) (defScope s_Tape_init) .none kV_Tape_init dc_Tape_init pm_Tape_init an_Tape_init cd_Tape_init ct_Tape_init), sl_Tape_init⟩)
    (c_Tape_init : PySem.W.codeIn K cd_Tape_init "Tape.__init__" = true)
    (k_Tape_init : PySem.W.keepIn K (.ref f_Tape_init) = true)
    (a_law_trim : PySem.W.nsIn K mainGlobals (PySem.Str.ofString "_law_trim") = some (some (.ref f_law_trim)))
    (l_law_trim : K.lookup f_law_trim = some ⟨oc_law_trim, od_law_trim, .func (PySem.W.fnOf (PySem.Str.ofString "_law_trim") "_law_trim" (defArgs s_law_trim) (defBody s_law_trim) (defScope s_law_trim) .none kV_law_trim dc_law_trim pm_law_trim an_law_trim cd_law_trim ct_law_trim), sl_law_trim⟩)
    (c_law_trim : PySem.W.codeIn K cd_law_trim "_law_trim" = true)
    (k_law_trim : PySem.W.keepIn K (.ref f_law_trim) = true)
    (a_law_side : PySem.W.nsIn K mainGlobals (PySem.Str.ofString "_law_side") = some (some (.ref f_law_side)))
    (l_law_side : K.lookup f_law_side = some ⟨oc_law_side, od_law_side, .func (PySem.W.fnOf (PySem.Str.ofString "_law_side") "_law_side" (defArgs s_law_side) (defBody s_law_side) (defScope s_law_side) .none kV_law_side dc_law_side pm_law_side an_law_side cd_law_side ct_law_side), sl_law_side⟩)
    (c_law_side : PySem.W.codeIn K cd_law_side "_law_side" = true)
    (k_law_side : PySem.W.keepIn K (.ref f_law_side) = true)
    (a_law_configuration : PySem.W.nsIn K mainGlobals (PySem.Str.ofString "_law_configuration") = some (some (.ref f_law_configuration)))
    (l_law_configuration : K.lookup f_law_configuration = some ⟨oc_law_configuration, od_law_configuration, .func (PySem.W.fnOf (PySem.Str.ofString "_law_configuration") "_law_configuration" (defArgs s_law_configuration) (defBody s_law_configuration) (defScope s_law_configuration) .none kV_law_configuration dc_law_configuration pm_law_configuration an_law_configuration cd_law_configuration ct_law_configuration), sl_law_configuration⟩)
    (c_law_configuration : PySem.W.codeIn K cd_law_configuration "_law_configuration" = true)
    (k_law_configuration : PySem.W.keepIn K (.ref f_law_configuration) = true)
    (a_law_same : PySem.W.nsIn K mainGlobals (PySem.Str.ofString "_law_same") = some (some (.ref f_law_same)))
    (l_law_same : K.lookup f_law_same = some ⟨oc_law_same, od_law_same, .func (PySem.W.fnOf (PySem.Str.ofString "_law_same") "_law_same" (defArgs s_law_same) (defBody s_law_same) (defScope s_law_same) .none kV_law_same dc_law_same pm_law_same an_law_same cd_law_same ct_law_same), sl_law_same⟩)
    (c_law_same : PySem.W.codeIn K cd_law_same "_law_same" = true)
    (k_law_same : PySem.W.keepIn K (.ref f_law_same) = true)
    (a_Tape_table : PySem.W.findIn K (.ref C_Tape) (PySem.Str.ofString "table") = some (some (.ref f_Tape_table)))
    (i_Tape_table : PySem.W.isFn K (.ref f_Tape_table) = true)
    (l_Tape_table : K.lookup f_Tape_table = some ⟨oc_Tape_table, od_Tape_table, .func (PySem.W.fnOf (PySem.Str.ofString "table") "Tape.table" (defArgs s_Tape_table) (defBody s_Tape_table) (defScope s_Tape_table) .none kV_Tape_table dc_Tape_table pm_Tape_table an_Tape_table cd_Tape_table ct_Tape_table), sl_Tape_table⟩)
    (c_Tape_table : PySem.W.codeIn K cd_Tape_table "Tape.table" = true)
    (k_Tape_table : PySem.W.keepIn K (.ref f_Tape_table) = true)
    (a_law_step : PySem.W.nsIn K mainGlobals (PySem.Str.ofString "_law_step") = some (some (.ref f_law_step)))
    (l_law_step : K.lookup f_law_step = some ⟨oc_law_step, od_law_step, .func (PySem.W.fnOf (PySem.Str.ofString "_law_step") "_law_step" (defArgs s_law_step) (defBody s_law_step) (defScope s_law_step) .none kV_law_step dc_law_step pm_law_step an_law_step cd_law_step ct_law_step), sl_law_step⟩)
    (c_law_step : PySem.W.codeIn K cd_law_step "_law_step" = true)
    (k_law_step : PySem.W.keepIn K (.ref f_law_step) = true)
    (a_pushed : PySem.W.nsIn K mainGlobals (PySem.Str.ofString "pushed") = some (some (.ref f_pushed)))
    (l_pushed : K.lookup f_pushed = some ⟨oc_pushed, od_pushed, .func (PySem.W.fnOf (PySem.Str.ofString "pushed") "pushed" (defArgs s_pushed) (defBody s_pushed) (defScope s_pushed) .none kV_pushed dc_pushed pm_pushed an_pushed cd_pushed ct_pushed), sl_pushed⟩)
    (c_pushed : PySem.W.codeIn K cd_pushed "pushed" = true)
    (k_pushed : PySem.W.keepIn K (.ref f_pushed) = true)
    (a_nearest : PySem.W.nsIn K mainGlobals (PySem.Str.ofString "nearest") = some (some (.ref f_nearest)))
    (l_nearest : K.lookup f_nearest = some ⟨oc_nearest, od_nearest, .func (PySem.W.fnOf (PySem.Str.ofString "nearest") "nearest" (defArgs s_nearest) (defBody s_nearest) (defScope s_nearest) .none kV_nearest dc_nearest pm_nearest an_nearest cd_nearest ct_nearest), sl_nearest⟩)
    (c_nearest : PySem.W.codeIn K cd_nearest "nearest" = true)
    (k_nearest : PySem.W.keepIn K (.ref f_nearest) = true)
    (a_moved : PySem.W.nsIn K mainGlobals (PySem.Str.ofString "moved") = some (some (.ref f_moved)))
    (l_moved : K.lookup f_moved = some ⟨oc_moved, od_moved, .func (PySem.W.fnOf (PySem.Str.ofString "moved") "moved" (defArgs s_moved) (defBody s_moved) (defScope s_moved) .none kV_moved dc_moved pm_moved an_moved cd_moved ct_moved), sl_moved⟩)
    (c_moved : PySem.W.codeIn K cd_moved "moved" = true)
    (k_moved : PySem.W.keepIn K (.ref f_moved) = true)
    (a_Tape_step : PySem.W.findIn K (.ref C_Tape) (PySem.Str.ofString "step") = some (some (.ref f_Tape_step)))
    (i_Tape_step : PySem.W.isFn K (.ref f_Tape_step) = true)
    (l_Tape_step : K.lookup f_Tape_step = some ⟨oc_Tape_step, od_Tape_step, .func (PySem.W.fnOf (PySem.Str.ofString "step") "Tape.step" (defArgs s_Tape_step) (defBody s_Tape_step) (defScope s_Tape_step) .none kV_Tape_step dc_Tape_step pm_Tape_step an_Tape_step cd_Tape_step ct_Tape_step), sl_Tape_step⟩)
    (c_Tape_step : PySem.W.codeIn K cd_Tape_step "Tape.step" = true)
    (k_Tape_step : PySem.W.keepIn K (.ref f_Tape_step) = true)
    (a_Tape_stopped : PySem.W.findIn K (.ref C_Tape) (PySem.Str.ofString "stopped") = some (some (.ref f_Tape_stopped)))
    (i_Tape_stopped : PySem.W.isFn K (.ref f_Tape_stopped) = true)
    (l_Tape_stopped : K.lookup f_Tape_stopped = some ⟨oc_Tape_stopped, od_Tape_stopped, .func (PySem.W.fnOf (PySem.Str.ofString "stopped") "Tape.stopped" (defArgs s_Tape_stopped) (defBody s_Tape_stopped) (defScope s_Tape_stopped) .none kV_Tape_stopped dc_Tape_stopped pm_Tape_stopped an_Tape_stopped cd_Tape_stopped ct_Tape_stopped), sl_Tape_stopped⟩)
    (c_Tape_stopped : PySem.W.codeIn K cd_Tape_stopped "Tape.stopped" = true)
    (k_Tape_stopped : PySem.W.keepIn K (.ref f_Tape_stopped) = true)
    (a_Tape_run : PySem.W.findIn K (.ref C_Tape) (PySem.Str.ofString "run") = some (some (.ref f_Tape_run)))
    (i_Tape_run : PySem.W.isFn K (.ref f_Tape_run) = true)
    (l_Tape_run : K.lookup f_Tape_run = some ⟨oc_Tape_run, od_Tape_run, .func (PySem.W.fnOf (PySem.Str.ofString "run") "Tape.run" (defArgs s_Tape_run) (defBody s_Tape_run) (defScope s_Tape_run) .none kV_Tape_run dc_Tape_run pm_Tape_run an_Tape_run cd_Tape_run ct_Tape_run), sl_Tape_run⟩)
    (c_Tape_run : PySem.W.codeIn K cd_Tape_run "Tape.run" = true)
    (k_Tape_run : PySem.W.keepIn K (.ref f_Tape_run) = true)
    (a_law_run : PySem.W.nsIn K mainGlobals (PySem.Str.ofString "_law_run") = some (some (.ref f_law_run)))
    (l_law_run : K.lookup f_law_run = some ⟨oc_law_run, od_law_run, .func (PySem.W.fnOf (PySem.Str.ofString "_law_run") "_law_run" (defArgs s_law_run) (defBody s_law_run) (defScope s_law_run) .none kV_law_run dc_law_run pm_law_run an_law_run cd_law_run ct_law_run), sl_law_run⟩)
    (c_law_run : PySem.W.codeIn K cd_law_run "_law_run" = true)
    (k_law_run : PySem.W.keepIn K (.ref f_law_run) = true)
    (a_Tape_row : PySem.W.findIn K (.ref C_Tape) (PySem.Str.ofString "row") = some (some (.ref f_Tape_row)))
    (i_Tape_row : PySem.W.isFn K (.ref f_Tape_row) = true)
    (l_Tape_row : K.lookup f_Tape_row = some ⟨oc_Tape_row, od_Tape_row, .func (PySem.W.fnOf (PySem.Str.ofString "row") "Tape.row" (defArgs s_Tape_row) (defBody s_Tape_row) (defScope s_Tape_row) .none kV_Tape_row dc_Tape_row pm_Tape_row an_Tape_row cd_Tape_row ct_Tape_row), sl_Tape_row⟩)
    (c_Tape_row : PySem.W.codeIn K cd_Tape_row "Tape.row" = true)
    (k_Tape_row : PySem.W.keepIn K (.ref f_Tape_row) = true)
    (a_law_right : PySem.W.nsIn K mainGlobals (PySem.Str.ofString "_law_right") = some (some (.ref f_law_right)))
    (l_law_right : K.lookup f_law_right = some ⟨oc_law_right, od_law_right, .func (PySem.W.fnOf (PySem.Str.ofString "_law_right") "_law_right" (defArgs s_law_right) (defBody s_law_right) (defScope s_law_right) .none kV_law_right dc_law_right pm_law_right an_law_right cd_law_right ct_law_right), sl_law_right⟩)
    (c_law_right : PySem.W.codeIn K cd_law_right "_law_right" = true)
    (k_law_right : PySem.W.keepIn K (.ref f_law_right) = true)
    (a_are_numbers : PySem.W.nsIn K mainGlobals (PySem.Str.ofString "are_numbers") = some (some (.ref f_are_numbers)))
    (l_are_numbers : K.lookup f_are_numbers = some ⟨oc_are_numbers, od_are_numbers, .func (PySem.W.fnOf (PySem.Str.ofString "are_numbers") "are_numbers" (defArgs s_are_numbers) (defBody s_are_numbers) (defScope s_are_numbers) .none kV_are_numbers dc_are_numbers pm_are_numbers an_are_numbers cd_are_numbers ct_are_numbers), sl_are_numbers⟩)
    (c_are_numbers : PySem.W.codeIn K cd_are_numbers "are_numbers" = true)
    (k_are_numbers : PySem.W.keepIn K (.ref f_are_numbers) = true)
    (a_trimmed : PySem.W.nsIn K mainGlobals (PySem.Str.ofString "trimmed") = some (some (.ref f_trimmed)))
    (l_trimmed : K.lookup f_trimmed = some ⟨oc_trimmed, od_trimmed, .func (PySem.W.fnOf (PySem.Str.ofString "trimmed") "trimmed" (defArgs s_trimmed) (defBody s_trimmed) (defScope s_trimmed) .none kV_trimmed dc_trimmed pm_trimmed an_trimmed cd_trimmed ct_trimmed), sl_trimmed⟩)
    (c_trimmed : PySem.W.codeIn K cd_trimmed "trimmed" = true)
    (k_trimmed : PySem.W.keepIn K (.ref f_trimmed) = true)
    (a_laid : PySem.W.nsIn K mainGlobals (PySem.Str.ofString "laid") = some (some (.ref f_laid)))
    (l_laid : K.lookup f_laid = some ⟨oc_laid, od_laid, .func (PySem.W.fnOf (PySem.Str.ofString "laid") "laid" (defArgs s_laid) (defBody s_laid) (defScope s_laid) .none kV_laid dc_laid pm_laid an_laid cd_laid ct_laid), sl_laid⟩)
    (c_laid : PySem.W.codeIn K cd_laid "laid" = true)
    (k_laid : PySem.W.keepIn K (.ref f_laid) = true)
    (a_Tape_begin : PySem.W.findIn K (.ref C_Tape) (PySem.Str.ofString "begin") = some (some (.ref f_Tape_begin)))
    (i_Tape_begin : PySem.W.isFn K (.ref f_Tape_begin) = true)
    (l_Tape_begin : K.lookup f_Tape_begin = some ⟨oc_Tape_begin, od_Tape_begin, .func (PySem.W.fnOf (PySem.Str.ofString "begin") "Tape.begin" (defArgs s_Tape_begin) (defBody s_Tape_begin) (defScope s_Tape_begin) .none kV_Tape_begin dc_Tape_begin pm_Tape_begin an_Tape_begin cd_Tape_begin ct_Tape_begin), sl_Tape_begin⟩)
    (c_Tape_begin : PySem.W.codeIn K cd_Tape_begin "Tape.begin" = true)
    (k_Tape_begin : PySem.W.keepIn K (.ref f_Tape_begin) = true)
    (a_law : PySem.W.nsIn K mainGlobals (PySem.Str.ofString "law") = some (some (.ref f_law)))
    (l_law : K.lookup f_law = some ⟨oc_law, od_law, .func (PySem.W.fnOf (PySem.Str.ofString "law") "law" (defArgs s_law) (defBody s_law) (defScope s_law) .none kV_law dc_law pm_law an_law cd_law ct_law), sl_law⟩)
    (c_law : PySem.W.codeIn K cd_law "law" = true)
    (k_law : PySem.W.keepIn K (.ref f_law) = true)
    (pg_Tape : PySem.W.plainGet K C_Tape Str.empty = true)
    (hd_Tape : PySem.W.hasDictIn K C_Tape = true)
    (po_Tape : PySem.W.plainOver K C_Tape = true)
    (sa_Tape : PySem.W.findIn K (.ref C_Tape) (PySem.Str.ofString "__setattr__") = some (some (.builtin "object.__setattr__")))
    (mk_Tape : PySem.W.makesIn K C_Tape = true)
    (kc_Tape : PySem.W.keepIn K (.ref C_Tape) = true)
    (n_Tape_rows : PySem.W.findIn K (.ref C_Tape) (PySem.Str.ofString "_rows") = some none)
    (n_Tape_marks : PySem.W.findIn K (.ref C_Tape) (PySem.Str.ofString "marks") = some none)
    (n_Tape_states : PySem.W.findIn K (.ref C_Tape) (PySem.Str.ofString "states") = some none)
    (z_abs : PySem.W.nsIn K mainGlobals (PySem.Str.ofString "abs") = some none)
    (z_all : PySem.W.nsIn K mainGlobals (PySem.Str.ofString "all") = some none)
    (z_bool : PySem.W.nsIn K mainGlobals (PySem.Str.ofString "bool") = some none)
    (z_int : PySem.W.nsIn K mainGlobals (PySem.Str.ofString "int") = some none)
    (z_isinstance : PySem.W.nsIn K mainGlobals (PySem.Str.ofString "isinstance") = some none)
    (z_len : PySem.W.nsIn K mainGlobals (PySem.Str.ofString "len") = some none)
    (z_list : PySem.W.nsIn K mainGlobals (PySem.Str.ofString "list") = some none)
    (z_max : PySem.W.nsIn K mainGlobals (PySem.Str.ofString "max") = some none)
    (z_range : PySem.W.nsIn K mainGlobals (PySem.Str.ofString "range") = some none)
    (z_reversed : PySem.W.nsIn K mainGlobals (PySem.Str.ofString "reversed") = some none)
    (z_str : PySem.W.nsIn K mainGlobals (PySem.Str.ofString "str") = some none)
    (z_tuple : PySem.W.nsIn K mainGlobals (PySem.Str.ofString "tuple") = some none)
    : ∃ fd : FuncData, (∀ (s : Shared) (v : Value), BindsTo s fd ⟨[v], []⟩ [("script", v)]) ∧ ∀ base : Heap, K.In base → base.Ns mainGlobals mg → FnOk l.prog w K mg base (L2.CX l.prog w) 11 fa fd ["script"] (lift K 1 sp_top) := by
  have e := hfa.symm.trans (PySem.W.mg_of X G a_law)
  cases e
  let Γ : Ctx := ⟨C_Tape⟩
  have b_abs : mg (PySem.Str.ofString "abs") = none := PySem.W.mg_none_of X G z_abs
  have b_all : mg (PySem.Str.ofString "all") = none := PySem.W.mg_none_of X G z_all
  have b_bool : mg (PySem.Str.ofString "bool") = none := PySem.W.mg_none_of X G z_bool
  have b_int : mg (PySem.Str.ofString "int") = none := PySem.W.mg_none_of X G z_int
  have b_isinstance : mg (PySem.Str.ofString "isinstance") = none := PySem.W.mg_none_of X G z_isinstance
  have b_len : mg (PySem.Str.ofString "len") = none := PySem.W.mg_none_of X G z_len
  have b_list : mg (PySem.Str.ofString "list") = none := PySem.W.mg_none_of X G z_list
  have b_max : mg (PySem.Str.ofString "max") = none := PySem.W.mg_none_of X G z_max
  have b_range : mg (PySem.Str.ofString "range") = none := PySem.W.mg_none_of X G z_range
  have b_reversed : mg (PySem.Str.ofString "reversed") = none := PySem.W.mg_none_of X G z_reversed
  have b_str : mg (PySem.Str.ofString "str") = none := PySem.W.mg_none_of X G z_str
  have b_tuple : mg (PySem.Str.ofString "tuple") = none := PySem.W.mg_none_of X G z_tuple
  have cl_Tape : ClTape K Γ.Tape := ⟨⟨pg_Tape, hd_Tape, po_Tape, sa_Tape⟩, n_Tape_rows, n_Tape_marks, n_Tape_states⟩
  have T : Txt K mg Γ := ⟨b_abs, b_all, b_bool, b_int, b_isinstance, b_len, b_list, b_max, b_range, b_reversed, b_str, b_tuple, cl_Tape⟩
  have F_law_numbers := fun_mk (st := s_law_numbers) l_law_numbers c_law_numbers k_law_numbers
  have B_law_numbers := F_law_numbers.binds (ps := ["script", "many"]) fun _ _ _ _ _ _ us hl => match us, hl with | [_, _], _ => rfl
  have F_law_take := fun_mk (st := s_law_take) l_law_take c_law_take k_law_take
  have B_law_take := F_law_take.binds (ps := ["numbers", "place"]) fun _ _ _ _ _ _ us hl => match us, hl with | [_, _], _ => rfl
  have F_law_sizes := fun_mk (st := s_law_sizes) l_law_sizes c_law_sizes k_law_sizes
  have B_law_sizes := F_law_sizes.binds (ps := ["numbers", "place"]) fun _ _ _ _ _ _ us hl => match us, hl with | [_, _], _ => rfl
  have F_law_machine := fun_mk (st := s_law_machine) l_law_machine c_law_machine k_law_machine
  have B_law_machine := F_law_machine.binds (ps := ["numbers", "place", "marks", "states"]) fun _ _ _ _ _ _ us hl => match us, hl with | [_, _, _, _], _ => rfl
  have F_is_whole := fun_mk (st := s_is_whole) l_is_whole c_is_whole k_is_whole
  have B_is_whole := F_is_whole.binds (ps := ["value"]) fun _ _ _ _ _ _ us hl => match us, hl with | [_], _ => rfl
  have F_is_number := fun_mk (st := s_is_number) l_is_number c_is_number k_is_number
  have B_is_number := F_is_number.binds (ps := ["value", "low", "high"]) fun _ _ _ _ _ _ us hl => match us, hl with | [_, _, _], _ => rfl
  have F_is_row := fun_mk (st := s_is_row) l_is_row c_is_row k_is_row
  have B_is_row := F_is_row.binds (ps := ["row", "marks", "states"]) fun _ _ _ _ _ _ us hl => match us, hl with | [_, _, _], _ => rfl
  have F_Tape_init := fun_mk (st := s_Tape_init) l_Tape_init c_Tape_init k_Tape_init
  have B_Tape_init := F_Tape_init.binds (ps := ["self", "marks", "states", "rows"]) fun _ _ _ _ _ _ us hl => match us, hl with | [_, _, _, _], _ => rfl
  have F_law_trim := fun_mk (st := s_law_trim) l_law_trim c_law_trim k_law_trim
  have B_law_trim := F_law_trim.binds (ps := ["marks"]) fun _ _ _ _ _ _ us hl => match us, hl with | [_], _ => rfl
  have F_law_side := fun_mk (st := s_law_side) l_law_side c_law_side k_law_side
  have B_law_side := F_law_side.binds (ps := ["numbers", "place", "marks", "most"]) fun _ _ _ _ _ _ us hl => match us, hl with | [_, _, _, _], _ => rfl
  have F_law_configuration := fun_mk (st := s_law_configuration) l_law_configuration c_law_configuration k_law_configuration
  have B_law_configuration := F_law_configuration.binds (ps := ["numbers", "place", "marks", "states", "most"]) fun _ _ _ _ _ _ us hl => match us, hl with | [_, _, _, _, _], _ => rfl
  have F_law_same := fun_mk (st := s_law_same) l_law_same c_law_same k_law_same
  have B_law_same := F_law_same.binds (ps := ["actual", "expected"]) fun _ _ _ _ _ _ us hl => match us, hl with | [_, _], _ => rfl
  have F_Tape_table := fun_mk (st := s_Tape_table) l_Tape_table c_Tape_table k_Tape_table
  have B_Tape_table := F_Tape_table.binds (ps := ["self"]) fun _ _ _ _ _ _ us hl => match us, hl with | [_], _ => rfl
  have F_law_step := fun_mk (st := s_law_step) l_law_step c_law_step k_law_step
  have B_law_step := F_law_step.binds (ps := ["rows", "marks", "spot"]) fun _ _ _ _ _ _ us hl => match us, hl with | [_, _, _], _ => rfl
  have F_pushed := fun_mk (st := s_pushed) l_pushed c_pushed k_pushed
  have B_pushed := F_pushed.binds (ps := ["mark", "side"]) fun _ _ _ _ _ _ us hl => match us, hl with | [_, _], _ => rfl
  have F_nearest := fun_mk (st := s_nearest) l_nearest c_nearest k_nearest
  have B_nearest := F_nearest.binds (ps := ["side"]) fun _ _ _ _ _ _ us hl => match us, hl with | [_], _ => rfl
  have F_moved := fun_mk (st := s_moved) l_moved c_moved k_moved
  have B_moved := F_moved.binds (ps := ["tape", "move"]) fun _ _ _ _ _ _ us hl => match us, hl with | [_, _], _ => rfl
  have F_Tape_step := fun_mk (st := s_Tape_step) l_Tape_step c_Tape_step k_Tape_step
  have B_Tape_step := F_Tape_step.binds (ps := ["self", "configuration"]) fun _ _ _ _ _ _ us hl => match us, hl with | [_, _], _ => rfl
  have F_Tape_stopped := fun_mk (st := s_Tape_stopped) l_Tape_stopped c_Tape_stopped k_Tape_stopped
  have B_Tape_stopped := F_Tape_stopped.binds (ps := ["self", "configuration"]) fun _ _ _ _ _ _ us hl => match us, hl with | [_, _], _ => rfl
  have F_Tape_run := fun_mk (st := s_Tape_run) l_Tape_run c_Tape_run k_Tape_run
  have B_Tape_run := F_Tape_run.binds (ps := ["self", "configuration", "steps"]) fun _ _ _ _ _ _ us hl => match us, hl with | [_, _, _], _ => rfl
  have F_law_run := fun_mk (st := s_law_run) l_law_run c_law_run k_law_run
  have B_law_run := F_law_run.binds (ps := ["rows", "marks", "spot", "steps"]) fun _ _ _ _ _ _ us hl => match us, hl with | [_, _, _, _], _ => rfl
  have F_Tape_row := fun_mk (st := s_Tape_row) l_Tape_row c_Tape_row k_Tape_row
  have B_Tape_row := F_Tape_row.binds (ps := ["self", "state", "mark"]) fun _ _ _ _ _ _ us hl => match us, hl with | [_, _, _], _ => rfl
  have F_law_right := fun_mk (st := s_law_right) l_law_right c_law_right k_law_right
  have B_law_right := F_law_right.binds (ps := ["machine", "sizes", "rows", "spot", "steps"]) fun _ _ _ _ _ _ us hl => match us, hl with | [_, _, _, _, _], _ => rfl
  have F_are_numbers := fun_mk (st := s_are_numbers) l_are_numbers c_are_numbers k_are_numbers
  have B_are_numbers := F_are_numbers.binds (ps := ["value", "low", "high"]) fun _ _ _ _ _ _ us hl => match us, hl with | [_, _, _], _ => rfl
  have F_trimmed := fun_mk (st := s_trimmed) l_trimmed c_trimmed k_trimmed
  have B_trimmed := F_trimmed.binds (ps := ["marks"]) fun _ _ _ _ _ _ us hl => match us, hl with | [_], _ => rfl
  have F_laid := fun_mk (st := s_laid) l_laid c_laid k_laid
  have B_laid := F_laid.binds (ps := ["word"]) fun _ _ _ _ _ _ us hl => match us, hl with | [_], _ => rfl
  have F_Tape_begin := fun_mk (st := s_Tape_begin) l_Tape_begin c_Tape_begin k_Tape_begin
  have B_Tape_begin := F_Tape_begin.binds (ps := ["self", "word"]) fun _ _ _ _ _ _ us hl => match us, hl with | [_, _], _ => rfl
  have F_law := fun_mk (st := s_law) l_law c_law k_law
  have B_law := F_law.binds (ps := ["script"]) fun _ _ _ _ _ _ us hl => match us, hl with | [_], _ => rfl
  refine ⟨PySem.W.fnOf "law" "law" (defArgs s_law) (defBody s_law) (defScope s_law) .none kV_law dc_law pm_law an_law cd_law ct_law, fun s v => .of_eq rfl, fun base _ _ => ?_⟩
  have G_law_numbers : GFn l.prog w K mg base (PySem.Str.ofString "_law_numbers") 1 ["script", "many"] (sp_law_numbers Γ) := ⟨⟨f_law_numbers, _, ok_law_numbers F_law_numbers T , PySem.W.mg_of X G a_law_numbers, k_law_numbers, B_law_numbers⟩⟩
  have G_law_take : GFn l.prog w K mg base (PySem.Str.ofString "_law_take") 1 ["numbers", "place"] (sp_law_take Γ) := ⟨⟨f_law_take, _, ok_law_take F_law_take T , PySem.W.mg_of X G a_law_take, k_law_take, B_law_take⟩⟩
  have G_law_sizes : GFn l.prog w K mg base (PySem.Str.ofString "_law_sizes") 2 ["numbers", "place"] (sp_law_sizes Γ) := ⟨⟨f_law_sizes, _, ok_law_sizes F_law_sizes T G_law_take, PySem.W.mg_of X G a_law_sizes, k_law_sizes, B_law_sizes⟩⟩
  have G_law_machine : GFn l.prog w K mg base (PySem.Str.ofString "_law_machine") 2 ["numbers", "place", "marks", "states"] (sp_law_machine Γ) := ⟨⟨f_law_machine, _, ok_law_machine F_law_machine T G_law_take, PySem.W.mg_of X G a_law_machine, k_law_machine, B_law_machine⟩⟩
  have G_is_whole : GFn l.prog w K mg base (PySem.Str.ofString "is_whole") 1 ["value"] (sp_is_whole Γ) := ⟨⟨f_is_whole, _, ok_is_whole F_is_whole T , PySem.W.mg_of X G a_is_whole, k_is_whole, B_is_whole⟩⟩
  have G_is_number : GFn l.prog w K mg base (PySem.Str.ofString "is_number") 2 ["value", "low", "high"] (sp_is_number Γ) := ⟨⟨f_is_number, _, ok_is_number F_is_number T G_is_whole, PySem.W.mg_of X G a_is_number, k_is_number, B_is_number⟩⟩
  have G_is_row : GFn l.prog w K mg base (PySem.Str.ofString "is_row") 3 ["row", "marks", "states"] (sp_is_row Γ) := ⟨⟨f_is_row, _, ok_is_row F_is_row T G_is_number, PySem.W.mg_of X G a_is_row, k_is_row, B_is_row⟩⟩
  have G_Tape_init : GMk l.prog w K mg base (PySem.Str.ofString "Tape") Γ.Tape 4 ["self", "marks", "states", "rows"] (sp_Tape_init Γ) := ⟨⟨f_Tape_init, _, ok_Tape_init F_Tape_init T G_is_number G_is_row, PySem.W.mg_of X G A_Tape, ⟨mk_Tape, a_Tape_init, i_Tape_init, kc_Tape⟩, B_Tape_init⟩⟩
  have G_law_trim : GFn l.prog w K mg base (PySem.Str.ofString "_law_trim") 1 ["marks"] (sp_law_trim Γ) := ⟨⟨f_law_trim, _, ok_law_trim F_law_trim T , PySem.W.mg_of X G a_law_trim, k_law_trim, B_law_trim⟩⟩
  have G_law_side : GFn l.prog w K mg base (PySem.Str.ofString "_law_side") 2 ["numbers", "place", "marks", "most"] (sp_law_side Γ) := ⟨⟨f_law_side, _, ok_law_side F_law_side T G_law_trim G_law_take, PySem.W.mg_of X G a_law_side, k_law_side, B_law_side⟩⟩
  have G_law_configuration : GFn l.prog w K mg base (PySem.Str.ofString "_law_configuration") 3 ["numbers", "place", "marks", "states", "most"] (sp_law_configuration Γ) := ⟨⟨f_law_configuration, _, ok_law_configuration F_law_configuration T G_law_side G_law_take, PySem.W.mg_of X G a_law_configuration, k_law_configuration, B_law_configuration⟩⟩
  have G_law_same : GFn l.prog w K mg base (PySem.Str.ofString "_law_same") 9 ["actual", "expected"] (sp_law_same Γ) := ⟨⟨f_law_same, _, ok_law_same F_law_same T  (PySem.W.mg_of X G a_law_same) k_law_same B_law_same 8, PySem.W.mg_of X G a_law_same, k_law_same, B_law_same⟩⟩
  have G_Tape_table : GMt l.prog w K mg base Γ.Tape (PySem.Str.ofString "table") 1 ["self"] (sp_Tape_table Γ) := ⟨⟨f_Tape_table, _, ok_Tape_table F_Tape_table T , ⟨a_Tape_table, i_Tape_table, k_Tape_table⟩, B_Tape_table⟩⟩
  have G_law_step : GFn l.prog w K mg base (PySem.Str.ofString "_law_step") 2 ["rows", "marks", "spot"] (sp_law_step Γ) := ⟨⟨f_law_step, _, ok_law_step F_law_step T G_law_trim, PySem.W.mg_of X G a_law_step, k_law_step, B_law_step⟩⟩
  have G_pushed : GFn l.prog w K mg base (PySem.Str.ofString "pushed") 1 ["mark", "side"] (sp_pushed Γ) := ⟨⟨f_pushed, _, ok_pushed F_pushed T , PySem.W.mg_of X G a_pushed, k_pushed, B_pushed⟩⟩
  have G_nearest : GFn l.prog w K mg base (PySem.Str.ofString "nearest") 1 ["side"] (sp_nearest Γ) := ⟨⟨f_nearest, _, ok_nearest F_nearest T , PySem.W.mg_of X G a_nearest, k_nearest, B_nearest⟩⟩
  have G_moved : GFn l.prog w K mg base (PySem.Str.ofString "moved") 2 ["tape", "move"] (sp_moved Γ) := ⟨⟨f_moved, _, ok_moved F_moved T G_pushed G_nearest, PySem.W.mg_of X G a_moved, k_moved, B_moved⟩⟩
  have G_Tape_step : GMt l.prog w K mg base Γ.Tape (PySem.Str.ofString "step") 3 ["self", "configuration"] (sp_Tape_step Γ) := ⟨⟨f_Tape_step, _, ok_Tape_step F_Tape_step T G_moved, ⟨a_Tape_step, i_Tape_step, k_Tape_step⟩, B_Tape_step⟩⟩
  have G_Tape_stopped : GMt l.prog w K mg base Γ.Tape (PySem.Str.ofString "stopped") 4 ["self", "configuration"] (sp_Tape_stopped Γ) := ⟨⟨f_Tape_stopped, _, ok_Tape_stopped F_Tape_stopped T G_Tape_step, ⟨a_Tape_stopped, i_Tape_stopped, k_Tape_stopped⟩, B_Tape_stopped⟩⟩
  have G_Tape_run : GMt l.prog w K mg base Γ.Tape (PySem.Str.ofString "run") 4 ["self", "configuration", "steps"] (sp_Tape_run Γ) := ⟨⟨f_Tape_run, _, ok_Tape_run F_Tape_run T G_Tape_step, ⟨a_Tape_run, i_Tape_run, k_Tape_run⟩, B_Tape_run⟩⟩
  have G_law_run : GFn l.prog w K mg base (PySem.Str.ofString "_law_run") 3 ["rows", "marks", "spot", "steps"] (sp_law_run Γ) := ⟨⟨f_law_run, _, ok_law_run F_law_run T G_law_step, PySem.W.mg_of X G a_law_run, k_law_run, B_law_run⟩⟩
  have G_Tape_row : GMt l.prog w K mg base Γ.Tape (PySem.Str.ofString "row") 3 ["self", "state", "mark"] (sp_Tape_row Γ) := ⟨⟨f_Tape_row, _, ok_Tape_row F_Tape_row T G_is_number, ⟨a_Tape_row, i_Tape_row, k_Tape_row⟩, B_Tape_row⟩⟩
  have G_law_right : GFn l.prog w K mg base (PySem.Str.ofString "_law_right") 10 ["machine", "sizes", "rows", "spot", "steps"] (sp_law_right Γ) := ⟨⟨f_law_right, _, ok_law_right F_law_right T G_Tape_table G_law_step G_law_same G_Tape_stopped G_Tape_run G_law_run G_Tape_row G_Tape_step, PySem.W.mg_of X G a_law_right, k_law_right, B_law_right⟩⟩
  have G_are_numbers : GFn l.prog w K mg base (PySem.Str.ofString "are_numbers") 3 ["value", "low", "high"] (sp_are_numbers Γ) := ⟨⟨f_are_numbers, _, ok_are_numbers F_are_numbers T G_is_number, PySem.W.mg_of X G a_are_numbers, k_are_numbers, B_are_numbers⟩⟩
  have G_trimmed : GFn l.prog w K mg base (PySem.Str.ofString "trimmed") 1 ["marks"] (sp_trimmed Γ) := ⟨⟨f_trimmed, _, ok_trimmed F_trimmed T , PySem.W.mg_of X G a_trimmed, k_trimmed, B_trimmed⟩⟩
  have G_laid : GFn l.prog w K mg base (PySem.Str.ofString "laid") 2 ["word"] (sp_laid Γ) := ⟨⟨f_laid, _, ok_laid F_laid T G_trimmed, PySem.W.mg_of X G a_laid, k_laid, B_laid⟩⟩
  have G_Tape_begin : GMt l.prog w K mg base Γ.Tape (PySem.Str.ofString "begin") 4 ["self", "word"] (sp_Tape_begin Γ) := ⟨⟨f_Tape_begin, _, ok_Tape_begin F_Tape_begin T G_are_numbers G_laid, ⟨a_Tape_begin, i_Tape_begin, k_Tape_begin⟩, B_Tape_begin⟩⟩
  have r := ok_law (P := l.prog) (w := w) (base := base) F_law T G_law_numbers G_law_sizes G_law_machine G_Tape_init G_law_configuration G_law_side G_law_same G_law_take G_law_right G_law_trim G_Tape_begin G_trimmed
  exact r
theorem walk {l : PySem.W.OpenLaw} {q : Program} {loose : List Str} {XP : (Str → Option Value) → Heap → Prop} {YP : World → Heap → Prop} {d : DefRec} {K : Params → PySem.W.Frag} (hn : l.most = some 63) (hdf : d.params.defaults = [])
    (hY : ∀ (w : World) (h : Heap), YP w h → (K w.params).In h)
    (F : ∀ (w : World) (mg : Str → Option Value) (fa : Addr) (h : Heap), (K w.params).In h → h.Ns mainGlobals mg → mg d.name = some (.ref fa) →
      ∃ fd : FuncData, (∀ (s : Shared) (u : Value), BindsTo s fd ⟨[u], []⟩ [("script", u)]) ∧ ∀ base : Heap, (K w.params).In base → base.Ns mainGlobals mg → FnOk l.prog w (K w.params) mg base (L2.CX l.prog w) 11 fa fd ["script"] (lift (K w.params) 1 sp_top)) :
    PySem.W.WalkO q loose XP YP l.row.toRowW d [] (fun f vs => PySem.call f vs) :=
  L2.walk_of (n := 63) (k := 11) (x := "script") (CX := fun w => L2.CX l.prog w) (sp := fun w => lift (K w.params) 1 sp_top) hn (by decide) hdf ⟨rfl, by decide, by decide⟩ hY F (fun w H a ns hl _ hS => top_law hl hS) fun _ _ _ _ _ z => top_cx z
end My
set_option Elab.async false
set_option linter.all false
open PySem PySem.W PyProof.Rows
set_option maxRecDepth 100000 in
set_option maxHeartbeats 0 in
theorem PySem.Challenge.cw_backstair_k01_tape_machines_step_holds : PySem.Challenge.rw_backstair_k01_tape_machines_step.Holds := by
  w_on; o_law; k_head; (case hw => w_witness2)
  k_fill
  refine My.walk (l := PySem.Challenge.rw_backstair_k01_tape_machines_step) rfl rfl (fun w h Y => PySem.W.kIn_of Y) ?F
  case F =>
    intro w mg fa h KX G hmg
    refine' My.all_mk KX G hmg ?A_Tape ?a_law_numbers ?l_law_numbers ?c_law_numbers ?k_law_numbers ?a_law_take ?l_law_take ?c_law_take ?k_law_take ?a_law_sizes ?l_law_sizes ?c_law_sizes ?k_law_sizes ?a_law_machine ?l_law_machine ?c_law_machine ?k_law_machine ?a_is_whole ?l_is_whole ?c_is_whole ?k_is_whole ?a_is_number ?l_is_number ?c_is_number ?k_is_number ?a_is_row ?l_is_row ?c_is_row ?k_is_row ?a_Tape_init ?i_Tape_init ?l_Tape_init ?c_Tape_init ?k_Tape_init ?a_law_trim ?l_law_trim ?c_law_trim ?k_law_trim ?a_law_side ?l_law_side ?c_law_side ?k_law_side ?a_law_configuration ?l_law_configuration ?c_law_configuration ?k_law_configuration ?a_law_same ?l_law_same ?c_law_same ?k_law_same ?a_Tape_table ?i_Tape_table ?l_Tape_table ?c_Tape_table ?k_Tape_table ?a_law_step ?l_law_step ?c_law_step ?k_law_step ?a_pushed ?l_pushed ?c_pushed ?k_pushed ?a_nearest ?l_nearest ?c_nearest ?k_nearest ?a_moved ?l_moved ?c_moved ?k_moved ?a_Tape_step ?i_Tape_step ?l_Tape_step ?c_Tape_step ?k_Tape_step ?a_Tape_stopped ?i_Tape_stopped ?l_Tape_stopped ?c_Tape_stopped ?k_Tape_stopped ?a_Tape_run ?i_Tape_run ?l_Tape_run ?c_Tape_run ?k_Tape_run ?a_law_run ?l_law_run ?c_law_run ?k_law_run ?a_Tape_row ?i_Tape_row ?l_Tape_row ?c_Tape_row ?k_Tape_row ?a_law_right ?l_law_right ?c_law_right ?k_law_right ?a_are_numbers ?l_are_numbers ?c_are_numbers ?k_are_numbers ?a_trimmed ?l_trimmed ?c_trimmed ?k_trimmed ?a_laid ?l_laid ?c_laid ?k_laid ?a_Tape_begin ?i_Tape_begin ?l_Tape_begin ?c_Tape_begin ?k_Tape_begin ?a_law ?l_law ?c_law ?k_law ?pg_Tape ?hd_Tape ?po_Tape ?sa_Tape ?mk_Tape ?kc_Tape ?n_Tape_rows ?n_Tape_marks ?n_Tape_states ?z_abs ?z_all ?z_bool ?z_int ?z_isinstance ?z_len ?z_list ?z_max ?z_range ?z_reversed ?z_str ?z_tuple
    (case A_Tape => k_is)
    (case a_law_numbers => k_is)
    (case l_law_numbers => k_is)
    (case c_law_numbers => k_is)
    (case k_law_numbers => k_is)
    (case a_law_take => k_is)
    (case l_law_take => k_is)
    (case c_law_take => k_is)
    (case k_law_take => k_is)
    (case a_law_sizes => k_is)
    (case l_law_sizes => k_is)
    (case c_law_sizes => k_is)
    (case k_law_sizes => k_is)
    (case a_law_machine => k_is)
    (case l_law_machine => k_is)
    (case c_law_machine => k_is)
    (case k_law_machine => k_is)
    (case a_is_whole => k_is)
    (case l_is_whole => k_is)
    (case c_is_whole => k_is)
    (case k_is_whole => k_is)
    (case a_is_number => k_is)
    (case l_is_number => k_is)
    (case c_is_number => k_is)
    (case k_is_number => k_is)
    (case a_is_row => k_is)
    (case l_is_row => k_is)
    (case c_is_row => k_is)
    (case k_is_row => k_is)
    (case a_Tape_init => k_is)
    (case i_Tape_init => k_is)
    (case l_Tape_init => k_is)
    (case c_Tape_init => k_is)
    (case k_Tape_init => k_is)
    (case a_law_trim => k_is)
    (case l_law_trim => k_is)
    (case c_law_trim => k_is)
    (case k_law_trim => k_is)
    (case a_law_side => k_is)
    (case l_law_side => k_is)
    (case c_law_side => k_is)
    (case k_law_side => k_is)
    (case a_law_configuration => k_is)
    (case l_law_configuration => k_is)
    (case c_law_configuration => k_is)
    (case k_law_configuration => k_is)
    (case a_law_same => k_is)
    (case l_law_same => k_is)
    (case c_law_same => k_is)
    (case k_law_same => k_is)
    (case a_Tape_table => k_is)
    (case i_Tape_table => k_is)
    (case l_Tape_table => k_is)
    (case c_Tape_table => k_is)
    (case k_Tape_table => k_is)
    (case a_law_step => k_is)
    (case l_law_step => k_is)
    (case c_law_step => k_is)
    (case k_law_step => k_is)
    (case a_pushed => k_is)
    (case l_pushed => k_is)
    (case c_pushed => k_is)
    (case k_pushed => k_is)
    (case a_nearest => k_is)
    (case l_nearest => k_is)
    (case c_nearest => k_is)
    (case k_nearest => k_is)
    (case a_moved => k_is)
    (case l_moved => k_is)
    (case c_moved => k_is)
    (case k_moved => k_is)
    (case a_Tape_step => k_is)
    (case i_Tape_step => k_is)
    (case l_Tape_step => k_is)
    (case c_Tape_step => k_is)
    (case k_Tape_step => k_is)
    (case a_Tape_stopped => k_is)
    (case i_Tape_stopped => k_is)
    (case l_Tape_stopped => k_is)
    (case c_Tape_stopped => k_is)
    (case k_Tape_stopped => k_is)
    (case a_Tape_run => k_is)
    (case i_Tape_run => k_is)
    (case l_Tape_run => k_is)
    (case c_Tape_run => k_is)
    (case k_Tape_run => k_is)
    (case a_law_run => k_is)
    (case l_law_run => k_is)
    (case c_law_run => k_is)
    (case k_law_run => k_is)
    (case a_Tape_row => k_is)
    (case i_Tape_row => k_is)
    (case l_Tape_row => k_is)
    (case c_Tape_row => k_is)
    (case k_Tape_row => k_is)
    (case a_law_right => k_is)
    (case l_law_right => k_is)
    (case c_law_right => k_is)
    (case k_law_right => k_is)
    (case a_are_numbers => k_is)
    (case l_are_numbers => k_is)
    (case c_are_numbers => k_is)
    (case k_are_numbers => k_is)
    (case a_trimmed => k_is)
    (case l_trimmed => k_is)
    (case c_trimmed => k_is)
    (case k_trimmed => k_is)
    (case a_laid => k_is)
    (case l_laid => k_is)
    (case c_laid => k_is)
    (case k_laid => k_is)
    (case a_Tape_begin => k_is)
    (case i_Tape_begin => k_is)
    (case l_Tape_begin => k_is)
    (case c_Tape_begin => k_is)
    (case k_Tape_begin => k_is)
    (case a_law => k_is)
    (case l_law => k_is)
    (case c_law => k_is)
    (case k_law => k_is)
    (case pg_Tape => k_is)
    (case hd_Tape => k_is)
    (case po_Tape => k_is)
    (case sa_Tape => k_is)
    (case mk_Tape => k_is)
    (case kc_Tape => k_is)
    (case n_Tape_rows => k_is)
    (case n_Tape_marks => k_is)
    (case n_Tape_states => k_is)
    (case z_abs => k_is)
    (case z_all => k_is)
    (case z_bool => k_is)
    (case z_int => k_is)
    (case z_isinstance => k_is)
    (case z_len => k_is)
    (case z_list => k_is)
    (case z_max => k_is)
    (case z_range => k_is)
    (case z_reversed => k_is)
    (case z_str => k_is)
    (case z_tuple => k_is)
